/- Rows of strings, and blocks in which no string lies. -/
import Derived.Test.YtbdlmokgmgpbfaaLawsLinkB
namespace Go.Proofs.Ytbdlmokgmgpbfaa
open Go.ChangeShapes Go.WideShapes Go.ChangeAt Go.RowKit
set_option linter.unusedVariables false
set_option maxRecDepth 8000
namespace Lk
def noStr (C : Array Value) : Bool := C.toList.all (fun v => match v with | .string _ => false | _ => true)
theorem row_no {w : World} {A : Option Addr} {l : List ByteArray} {R : Nat} {C : Array Value} {T : TypeId} (h : Row w A (bcs l)) (hl : Lies R C T w) (hC : noStr C = true) : l = [] ∨ ∀ a, A = some a → a.block ≠ R := by
  cases l with
  | nil => exact .inl rfl
  | cons b r =>
    refine .inr fun a ha e => ?_
    obtain ⟨q, off, hq, c0⟩ := bcs_get h (k := 0) (b := b) rfl
    rw [hq] at ha
    cases ha
    simp only at e
    subst e
    unfold Lies at hl
    simp only [World.cell?, hl] at c0
    unfold noStr at hC
    rw [List.all_eq_true] at hC
    have hm : Value.string b ∈ C.toList := by
      rw [Array.mem_toList_iff]
      exact Array.mem_of_getElem? c0
    have := hC _ hm
    simp at this
theorem row_set {w : World} {A : Option Addr} {cs : List Value} {p : Addr} (h : Row w A cs) (hA : ∀ a, A = some a → a.block ≠ p.block) (v : Value) : Row (w.setCell p v) A cs := by
  rcases h with h | ⟨b, off, rfl, h⟩
  · exact .inl h
  · refine .inr ⟨b, off, rfl, fun j u hu => ?_⟩
    have hne : b ≠ p.block := hA _ rfl
    have h1 := h j u hu
    have h2 := Below.heap_setCell w p v b hne
    unfold World.cell? at h1 ⊢
    simp only at h1 ⊢
    rw [h2]; exact h1
theorem row_keepS {w : World} {A : Option Addr} {l : List ByteArray} {R : Nat} {C : Array Value} {T : TypeId} (h : Row w A (bcs l)) (hl : Lies R C T w) (hC : noStr C = true) (o : Nat) (v : Value) : Row (w.setCell ⟨R, o, none⟩ v) A (bcs l) := by
  rcases row_no h hl hC with e | e
  · subst e; exact .inl rfl
  · exact row_set h e v
/-- A sender is put into a block of a sender. -/
theorem SnAt.put {R : Nat} {s s' : Sn} {n n' : Nat} {A A' : Option Addr} {c c' : Nat} {w : World} (h : SnAt R s n A c w) (hr : Row w A' (bcs s'.bodies)) (hn : n' = s'.bodies.length) :
    SnAt R s' n' A' c' ((((w.setCell ⟨R, 0, none⟩ (.int .i64 s'.epoch)).setCell ⟨R, 1, none⟩ (.int .i64 s'.base)).setCell ⟨R, 2, none⟩ (.slice A' n' c')).setCell ⟨R, 3, none⟩ (.int .i64 s'.timer)) := by
  refine ⟨Gen.Lies.set4 h.at_ _ _ _ _, ?_, hn⟩
  have l1 := h.at_.set 0 (.int .i64 s'.epoch)
  have l2 := l1.set 1 (.int .i64 s'.base)
  have l3 := l2.set 2 (.slice A' n' c')
  exact row_keepS (row_keepS (row_keepS (row_keepS hr h.at_ rfl _ _) l1 rfl _ _) l2 rfl _ _) l3 rfl _ _
end Lk
end Go.Proofs.Ytbdlmokgmgpbfaa
