/- Contract of what notes an error. -/
import Derived.Test.YthgafhinlchghaaItemGetIt
namespace Go.Proofs.Ythgafhinlchghaa
open Go.RowKit
open Itm Vlq
set_option linter.unusedVariables false
/-- A kind that there is not, if nothing else was wrong. -/
def failP (p : Nat × Nat) : Nat × Nat := (p.1, if p.2 = 0 then 40 else p.2)
def Failed (g : Nat) (s : ByteArray) (p : Nat × Nat) (w : World) (e : Ending) (w' : World) : Prop := e = .returned (.tuple #[]) ∧ Where s p g w' ∧ But g w w'
theorem itFail {g : Nat} {s : ByteArray} {p : Nat × Nat} {w : World} (h : Where s p g w) :
    Calls Try.prog 43 #[.pointer (some ⟨g, 0, none⟩), .int .i64 40] w (Failed g s (failP p) w) := by
  obtain ⟨i, c⟩ := p
  have H := Lib.hid h
  have c2 := h.rd.c2
  have f2 := h.rd.free 2
  by_cases hc : c = 0
  · subst hc
    clear h
    go_enter Try.func43, Try.ntmps43
    go_wp2_with fail
    go_end0
    exact ⟨rfl, ⟨H.out.le, H.out.rd.set2 40⟩, (But.refl _ _).setCell 2 _⟩
  · have e0 := ne_b (show (c : Int) ≠ 0 by omega)
    have hE := Lib.hid (show failP (i, c) = (i, c) from by unfold failP; simp only [if_neg hc])
    clear h hc
    go_enter Try.func43, Try.ntmps43
    go_wp2_with fail
    go_end0
    exact ⟨rfl, by rw [hE.out]; exact H.out, But.refl _ _⟩
end Go.Proofs.Ythgafhinlchghaa
