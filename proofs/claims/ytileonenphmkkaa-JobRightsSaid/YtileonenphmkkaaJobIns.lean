/- Inputs: rows of rows of events; the code's check and the reference's. -/
import Derived.Test.YtileonenphmkkaaJobRef
import Derived.Test.YtileonenphmkkaaItemRight
import Derived.Test.YtileonenphmkkaaLift
namespace Go.Proofs.Ytileonenphmkkaa
open Go.ChangeShapes Go.WideShapes Go.ChangeAt Go.RowKit
set_option linter.unusedVariables false
set_option maxRecDepth 8000
namespace Jo
open Gen
open Itm
structure Ev where
  key : ByteArray
  at_ : Int
  val : Int
instance : Inhabited Ev := ⟨⟨ByteArray.empty, 0, 0⟩⟩
abbrev evL (e : Ev) : List Value := [.string e.key, .int .i64 e.at_, .int .i64 e.val]
theorem evL_len (e : Ev) : (evL e).length = 3 := rfl
def evIs (e : Ev) : Bool := okEv e.key e.at_
structure EvC (w : World) (b o : Nat) (e : Ev) : Prop where
  c0 : w.cell? ⟨b, o, none⟩ = some (.string e.key)
  c1 : w.cell? ⟨b, o + 1, none⟩ = some (.int .i64 e.at_)
  c2 : w.cell? ⟨b, o + 2, none⟩ = some (.int .i64 e.val)
theorem row_evC {w : World} {A : Option Addr} {l : List Ev} (h : Row w A (l.flatMap evL)) {k : Nat} {e : Ev} (hk : l[k]? = some e) : ∃ b off, A = some ⟨b, off, none⟩ ∧ EvC w b (off + k * 3) e := by
  obtain ⟨b, off, rfl, g⟩ := row_one evL_len (by omega) h hk
  exact ⟨b, off, rfl, g 0 _ rfl, g 1 _ rfl, g 2 _ rfl⟩
def srcOk (l : List Ev) : Bool := decide (l.length ≤ 200) && l.all evIs
/-- A source's events as a slice. -/
structure Sr where
  A : Option Addr
  c : Nat
  l : List Ev
instance : Inhabited Sr := ⟨⟨none, 0, []⟩⟩
abbrev srV (s : Sr) : Value := .slice s.A s.l.length s.c
def insOk (l : List Sr) : Bool := decide (1 ≤ l.length ∧ l.length ≤ 4) && l.all fun s => srcOk s.l
theorem all_false {α : Type} {p : α → Bool} {l : List α} {k : Nat} {x : α} (h : l[k]? = some x) (hx : p x = false) : l.all p = false := by
  rw [List.all_eq_false]
  exact ⟨x, List.mem_of_getElem? h, by simp [hx]⟩
theorem all_true {α : Type} {p : α → Bool} {l : List α} (h : ∀ (j : Nat) x, l[j]? = some x → j < l.length → p x = true) : l.all p = true := by
  rw [List.all_eq_true]
  intro x hx
  obtain ⟨i, hi⟩ := List.getElem?_of_mem hx
  exact h i x hi (List.getElem?_eq_some_iff.1 hi).1
theorem wrapJ {k : Nat} (h : k ≤ 1000) : IntKind.i64.wrap ((k : Int) + 1) = ((k + 1 : Nat) : Int) := by
  simp [IntKind.wrap, IntKind.bits, IntKind.signed]; omega
set_option maxHeartbeats 2000000 in
theorem jSource (l : List Ev) (A : Option Addr) (c : Nat) (w : World) (h : Row w A (l.flatMap evL)) (hl : l.length ≤ 9223372036854775807) :
    Calls Try.prog 13 #[.slice A l.length c] w (TellsB (srcOk l) w) := by
  have HE := Lib.hid (fun k a v w => itEvent k a v w)
  by_cases h200 : l.length ≤ 200
  · have e0 : srcOk l = l.all evIs := by unfold srcOk; rw [decide_eq_true h200, Bool.true_and]
    rw [e0]
    have HR := Lib.hid h
    have g0 : ¬ (200 : Int) < l.length := by omega
    have H2 := Lib.hid h200
    clear h hl e0 h200
    go_enter Try.func13, Try.ntmps13
    go_wp2_with fail
    go_loopw [10] (fun i wr => ∃ k : Nat, i = .int .i64 k ∧ k ≤ l.length ∧ (∀ j x, l[j]? = some x → j < k → evIs x = true) ∧ Below w.heap.size w wr) (fun i _ => l.length - (intOf i).toNat)
    case atStart => exact ⟨0, rfl, Nat.zero_le _, fun j x h h2 => by omega, Below.refl _ _⟩
    case round =>
      obtain ⟨k, rfl, hk, hto, hb⟩ := hrel
      have HB := Lib.hid hb
      have HT := Lib.hid hto
      have H3 := H2.out
      clear hb hto
      by_cases hlt : k < l.length
      · obtain ⟨x, hx⟩ : ∃ x, l[k]? = some x := ⟨_, List.getElem?_eq_getElem hlt⟩
        obtain ⟨b, off, rfl, c0, c1, c2⟩ := row_evC (HR.out.below HB.out) hx
        have HX := Lib.hid hx
        have hw := wrapJ (k := k) (by omega)
        obtain ⟨q, hq⟩ : ∃ q, q = evIs x := ⟨_, rfl⟩
        have HE1 := Lib.hid (fun w => show Calls Try.prog 17 #[evV x.key x.at_ x.val] w (TellsA q (.cells (evC x.key x.at_ x.val) 35) w) from by rw [hq]; exact HE.out x.key x.at_ x.val w)
        have HQ := Lib.hid hq
        clear hx H3 hq
        go_wp2_with fail
        refine (HE1.out _).mono ?_
        rintro e w2 ⟨rfl, rfl⟩
        have hb2 := Lib.hid (below_al (o := .cells (evC x.key x.at_ x.val) 35) (below_al (o := .cells (evC x.key x.at_ x.val) 35) HB.out))
        cases q
        · go_wp2_with fail
          go_ret
          exact ⟨jret (all_false HX.out HQ.out.symm).symm, hb2.out⟩
        · go_wp2_with fail
          go_roundw
          case rel =>
            refine ⟨k + 1, rfl, by omega, fun j y hy hj => ?_, hb2.out⟩
            rcases Nat.lt_succ_iff_lt_or_eq.1 hj with h | rfl
            · exact HT.out j y hy h
            · rw [HX.out] at hy; cases hy; exact HQ.out.symm
          case measure => simp [intOf]; omega
      · have hge : l.length ≤ k := by omega
        have er : l.all evIs = true := all_true fun j x h1 h2 => HT.out j x h1 (by omega)
        have HR2 := Lib.hid er
        clear er H3
        go_wp2_with fail
        go_ret
        exact ⟨jret HR2.out.symm, HB.out⟩
  · have e0 : srcOk l = false := by unfold srcOk; rw [decide_eq_false h200, Bool.false_and]
    rw [e0]
    have g0 : (200 : Int) < l.length := by omega
    clear h e0 h200
    go_enter Try.func13, Try.ntmps13
    go_wp2_with fail
    go_ret
    exact ⟨rfl, Below.refl _ _⟩
end Jo
end Go.Proofs.Ytileonenphmkkaa
