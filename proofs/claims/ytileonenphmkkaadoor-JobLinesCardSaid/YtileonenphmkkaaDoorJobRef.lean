/- Right of the reference, the law's alive. -/
import Derived.Test.YtileonenphmkkaaDoorJobRight
namespace Go.Proofs.YtileonenphmkkaaDoor
open Go.RowKit
set_option linter.unusedVariables false
set_option maxRecDepth 8000
namespace Jo
open Gen
set_option maxHeartbeats 2000000 in
theorem rRight (j : Jb) (w : World) : Calls Tryd.prog 9 #[jbV j] w (TellsB (right j) w) := by
  have hiff := right_iff j
  have HJ := Lib.hid (fun w => rJob j w)
  obtain ⟨r, hr⟩ : ∃ r, r = right j := ⟨_, rfl⟩
  rw [← hr] at hiff ⊢
  clear hr
  obtain ⟨g, a, b, k, f, l, d, i⟩ := j
  simp only at hiff HJ ⊢
  obtain ⟨q, hq⟩ : ∃ q, q = (winOk a b && foldOk k) := ⟨_, rfl⟩
  have hq2 : q = true ↔ (winOk a b = true ∧ foldOk k = true) := by rw [hq, Bool.and_eq_true]
  rw [← hq] at HJ
  clear hq
  have hiff2 : r = true ↔ (1 ≤ g ∧ g ≤ 32) ∧ q = true ∧ (0 ≤ f ∧ f ≤ 40) ∧ 0 ≤ l ∧ (0 ≤ d ∧ d ≤ 1099511627776) ∧ (0 ≤ i ∧ i ≤ 1048576) := by
    rw [hiff, hq2]
    simp only [and_assoc]
  clear hiff hq2
  have hway : (g < 1 ∧ r = false) ∨ (1 ≤ g ∧ 32 < g ∧ r = false) ∨ (1 ≤ g ∧ g ≤ 32 ∧ q = false ∧ r = false) ∨ (1 ≤ g ∧ g ≤ 32 ∧ q = true ∧ f < 0 ∧ r = false) ∨ (1 ≤ g ∧ g ≤ 32 ∧ q = true ∧ 0 ≤ f ∧ 40 < f ∧ r = false) ∨
      (1 ≤ g ∧ g ≤ 32 ∧ q = true ∧ 0 ≤ f ∧ f ≤ 40 ∧ l < 0 ∧ r = false) ∨ (1 ≤ g ∧ g ≤ 32 ∧ q = true ∧ 0 ≤ f ∧ f ≤ 40 ∧ 0 ≤ l ∧ d < 0 ∧ r = false) ∨ (1 ≤ g ∧ g ≤ 32 ∧ q = true ∧ 0 ≤ f ∧ f ≤ 40 ∧ 0 ≤ l ∧ 0 ≤ d ∧ 1099511627776 < d ∧ r = false) ∨
      (1 ≤ g ∧ g ≤ 32 ∧ q = true ∧ 0 ≤ f ∧ f ≤ 40 ∧ 0 ≤ l ∧ 0 ≤ d ∧ d ≤ 1099511627776 ∧ i < 0 ∧ r = false) ∨ (1 ≤ g ∧ g ≤ 32 ∧ q = true ∧ 0 ≤ f ∧ f ≤ 40 ∧ 0 ≤ l ∧ 0 ≤ d ∧ d ≤ 1099511627776 ∧ 0 ≤ i ∧ 1048576 < i ∧ r = false) ∨
      (1 ≤ g ∧ g ≤ 32 ∧ q = true ∧ 0 ≤ f ∧ f ≤ 40 ∧ 0 ≤ l ∧ 0 ≤ d ∧ d ≤ 1099511627776 ∧ 0 ≤ i ∧ i ≤ 1048576 ∧ r = true) := by
    cases r <;> cases q <;> simp at hiff2 ⊢ <;> omega
  clear hiff2
  rcases hway with ⟨h1, h2⟩ | ⟨h1, h2, h3⟩ | ⟨h1, h2, h3, h4⟩ | ⟨h1, h2, h3, h4, h5⟩ | ⟨h1, h2, h3, h4, h5, h6⟩ | ⟨h1, h2, h3, h4, h5, h6, h7⟩ | ⟨h1, h2, h3, h4, h5, h6, h7, h8⟩ | ⟨h1, h2, h3, h4, h5, h6, h7, h8, h9⟩ | ⟨h1, h2, h3, h4, h5, h6, h7, h8, h9, h10⟩ | ⟨h1, h2, h3, h4, h5, h6, h7, h8, h9, h10, h11⟩ | ⟨h1, h2, h3, h4, h5, h6, h7, h8, h9, h10, h11⟩
  all_goals (
    try subst q
    subst r
    go_enter Tryd.func9, Tryd.ntmps9
    go_wp2_with (go_at_call 20; refine (HJ.out _).mono ?_; rintro e w1 ⟨rfl, hb1⟩; have HB1 := Lib.hid (below_next (below_al (Below.refl w.heap.size w)) hb1); have L1 := Lib.hid (show Lies w.heap.size (jbC ⟨g, a, b, k, f, l, d, i⟩) 23 w1 from (hb1.block _ (by simp)).trans (Lies.new w _ _)); have c4 := L1.out.cell (j := 4) rfl; have c5 := L1.out.cell (j := 5) rfl; have c6 := L1.out.cell (j := 6) rfl; have c7 := L1.out.cell (j := 7) rfl; clear hb1)
    go_ret
    exact ⟨jret (by first | rfl | (simp; omega)), by first | exact HB1.out | exact below_al (Below.refl _ _)⟩)
theorem lAlive (w : World) : Calls Tryd.prog 10 #[] w (TellsB true w) := by
  have HJ := Lib.hid (fun w => show Calls Tryd.prog 14 #[jbV ⟨1, 1, 1, 2, 0, 0, 0, 0⟩] w (TellsB true w) from (show right ⟨1, 1, 1, 2, 0, 0, 0, 0⟩ = true by decide) ▸ jRight ⟨1, 1, 1, 2, 0, 0, 0, 0⟩ w)
  go_enter Tryd.func10, Tryd.ntmps10
  go_wp2_with fail
  refine (HJ.out _).mono ?_
  rintro e w1 ⟨rfl, hb⟩
  have HB := Lib.hid hb
  clear hb
  go_wp2_with fail
  go_ret
  exact ⟨rfl, HB.out⟩
end Jo
end Go.Proofs.YtileonenphmkkaaDoor
