/- A method of the pointed-to value, and one of the pointer, through an interface. -/
import Derived.Test.YtklgehfbfokdlaaTimHeap
namespace Go.Proofs.Ytklgehfbfokdlaa
open Go.RowKit
set_option linter.unusedVariables false
namespace Tim
/-- The Heap as container/heap is handed it. -/
abbrev hV (h : Nat) : Value := .iface 52 (.pointer (some ⟨h, 0, none⟩))
def methIs (P : Program) (t : TypeId) (name : String) : Option (Nat × Option (FuncId × Bool)) := ((P.info? t).bind fun i => i.methods.find? (·.name == name)).map fun m => (m.path.size, m.func)
theorem meth_parts {P : Program} {t : TypeId} {name : String} {f : FuncId} {b : Bool} (h : methIs P t name = some (0, some (f, b))) : ∃ i m, P.info? t = some i ∧ i.methods.find? (·.name == name) = some m ∧ m.path = #[] ∧ m.func = some (f, b) := by
  unfold methIs at h
  cases hi : P.info? t with
  | none => rw [hi] at h; simp at h
  | some i =>
    rw [hi] at h
    simp only [Option.bind_some] at h
    cases hm : i.methods.find? (·.name == name) with
    | none => rw [hm] at h; simp at h
    | some m =>
      rw [hm] at h
      simp only [Option.map_some, Option.some.injEq, Prod.mk.injEq] at h
      exact ⟨i, m, rfl, hm, Array.eq_empty_of_size_eq_zero h.1, h.2⟩
theorem nilchk (xt : TypeId) (a : Addr) (n : String) : Builtin.ssaWrapNilChk_ #[xt] xt #[.pointer (some a), strVal "", strVal n] = pure (.pointer (some a)) := rfl
theorem run_method_value {P : Program} {t e : TypeId} {name : String} {f : FuncId} {a : Addr} {v : Value} {w : World} (h : methIs P t name = some (0, some (f, false))) (hu : P.underlying t = some (.pointer e)) (hl : (loadVar e a).run P w = .ok v w) (n : Nat) :
    (method (n + 1) t (.pointer (some a)) name).run P w = .ok (f, v) w := by
  obtain ⟨i, m, h1, h2, h3, h4⟩ := meth_parts h
  simp [method, typeInfo, h1, h2, h3, h4, follow, receiverAt, run_underlying hu, Place.get, nilchk, asAddr, hl]
theorem run_method_ptr {P : Program} {t e : TypeId} {name : String} {f : FuncId} {a : Addr} {w : World} (h : methIs P t name = some (0, some (f, true))) (hu : P.underlying t = some (.pointer e)) (n : Nat) :
    (method (n + 1) t (.pointer (some a)) name).run P w = .ok (f, .pointer (some a)) w := by
  obtain ⟨i, m, h1, h2, h3, h4⟩ := meth_parts h
  simp [method, typeInfo, h1, h2, h3, h4, follow, receiverAt, run_underlying hu, Place.get, asAddr]
theorem isLess : methIs Try.prog 52 "Less" = some (0, some (49, false)) := by kernel_rfl
theorem isSwap : methIs Try.prog 52 "Swap" = some (0, some (50, false)) := by kernel_rfl
theorem isLen : methIs Try.prog 52 "Len" = some (0, some (48, false)) := by kernel_rfl
theorem isPush : methIs Try.prog 52 "Push" = some (0, some (57, true)) := by kernel_rfl
theorem isPop : methIs Try.prog 52 "Pop" = some (0, some (56, true)) := by kernel_rfl
theorem load_queue {w : World} {a : Addr} {v : Value} (hc : w.cell? a = some v) : (loadVar 48 a).run Try.prog w = .ok v w := by
  simp [loadVar, go_sem, hc]
theorem mLess (h : Nat) (v : Value) (w : World) (hc : w.cell? ⟨h, 0, none⟩ = some v) (n : Nat) :
    (method (n + 1) 52 (.pointer (some ⟨h, 0, none⟩)) "Less").run Try.prog w = .ok (49, v) w := run_method_value isLess Try.underlying52 (load_queue hc) n
theorem mSwap (h : Nat) (v : Value) (w : World) (hc : w.cell? ⟨h, 0, none⟩ = some v) (n : Nat) :
    (method (n + 1) 52 (.pointer (some ⟨h, 0, none⟩)) "Swap").run Try.prog w = .ok (50, v) w := run_method_value isSwap Try.underlying52 (load_queue hc) n
theorem mLen (h : Nat) (v : Value) (w : World) (hc : w.cell? ⟨h, 0, none⟩ = some v) (n : Nat) :
    (method (n + 1) 52 (.pointer (some ⟨h, 0, none⟩)) "Len").run Try.prog w = .ok (48, v) w := run_method_value isLen Try.underlying52 (load_queue hc) n
theorem mPush (h : Nat) (w : World) (n : Nat) :
    (method (n + 1) 52 (.pointer (some ⟨h, 0, none⟩)) "Push").run Try.prog w = .ok (57, .pointer (some ⟨h, 0, none⟩)) w := run_method_ptr isPush Try.underlying52 n
theorem mPop (h : Nat) (w : World) (n : Nat) :
    (method (n + 1) 52 (.pointer (some ⟨h, 0, none⟩)) "Pop").run Try.prog w = .ok (56, .pointer (some ⟨h, 0, none⟩)) w := run_method_ptr isPop Try.underlying52 n
end Tim
end Go.Proofs.Ytklgehfbfokdlaa
