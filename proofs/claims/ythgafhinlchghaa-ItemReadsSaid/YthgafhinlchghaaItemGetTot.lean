/- The reference's Get, for any bytes. -/
import Derived.Test.YthgafhinlchghaaItemGetRA
import Derived.Test.YthgafhinlchghaaItemGetRB
import Derived.Test.YthgafhinlchghaaItemGetRC
namespace Go.Proofs.Ythgafhinlchghaa
open Go.RowKit
open Itm Vlq
set_option linter.unusedVariables false
theorem numS_val {s : ByteArray} {x k c : Nat} (h : numS s (0, 0) = (x, k, c)) (hx : x ≠ 0) : c = 0 := by
  by_cases hc : c = 0
  · exact hc
  · exfalso
    unfold numS at h
    rw [if_pos rfl] at h
    have hb := rd_bad (most := M1) (l := sl s) (i := 0) (by rw [h]; exact hc)
    rw [h] at hb
    exact hx hb.1
theorem rfGet (s : ByteArray) (hs : s.size ≤ 140737488355328) (w : World) : Calls Try.prog 17 #[.string s] w (GotI (getF s).1 (getF s).2 w) := by
  obtain ⟨⟨x, k1, c1⟩, hK⟩ : ∃ K, numS s (0, 0) = K := ⟨_, rfl⟩
  by_cases hc : c1 = 0
  · subst hc
    by_cases h1 : x = 1
    · subst h1
      have e : getP s = ({ bare 1 with ek := ⟨(txtS s (k1, 0)).1.toArray⟩, ea := (numS s (txtS s (k1, 0)).2).1, ev := un (sgnS s (numS s (txtS s (k1, 0)).2).2).1 }, (sgnS s (numS s (txtS s (k1, 0)).2).2).2) := by
        unfold getP; simp [hK]
      unfold getF
      rw [e]
      exact rfGet_1 s hs k1 hK _ _ _ _ _ _ _ _ rfl rfl rfl rfl w
    by_cases h2 : x = 2
    · subst h2
      have e : getP s = ({ bare 2 with m := (numS s (k1, 0)).1 }, (numS s (k1, 0)).2) := by
        unfold getP; simp [hK]
      unfold getF
      rw [e]
      exact rfGet_2 s hs k1 hK _ _ _ _ rfl rfl w
    by_cases h3 : x = 3
    · subst h3
      have e : getP s = (bare 3, k1, 0) := by unfold getP; simp [hK]
      unfold getF
      rw [e]
      exact rfGet_3 s hs k1 hK _ _ _ rfl rfl rfl w
    by_cases h4 : x = 4
    · subst h4
      have e : getP s = ({ bare 4 with n := (numS s (k1, 0)).1 }, (numS s (k1, 0)).2) := by
        unfold getP; simp [hK]
      unfold getF
      rw [e]
      exact rfGet_4 s hs k1 hK _ _ _ _ rfl rfl w
    by_cases h5 : x = 5
    · subst h5
      have e : getP s = ({ bare 5 with rk := ⟨(txtS s (k1, 0)).1.toArray⟩, lo := (numS s (txtS s (k1, 0)).2).1, hi := (numS s (numS s (txtS s (k1, 0)).2).2).1, rn := (numS s (numS s (numS s (txtS s (k1, 0)).2).2).2).1, rv := un (sgnS s (numS s (numS s (numS s (txtS s (k1, 0)).2).2).2).2).1 }, (sgnS s (numS s (numS s (numS s (txtS s (k1, 0)).2).2).2).2).2) := by
        unfold getP; simp [hK]
      unfold getF
      rw [e]
      exact rfGet_5 s hs k1 hK _ _ _ _ _ _ _ _ _ _ _ _ rfl rfl rfl rfl rfl rfl w
    have e : getP s = (bare x, k1, 40) := by unfold getP; simp [hK, h1, h2, h3, h4, h5]
    unfold getF
    rw [e]
    by_cases h0 : x = 0
    · exact rfGet_E0 s hs x k1 hK h0 w
    · exact rfGet_E6 s hs x k1 hK (by omega) w
  · have h0 : x = 0 := by
      by_cases h : x = 0
      · exact h
      · exact absurd (numS_val hK h) hc
    have e : getP s = (bare x, k1, c1) := by subst h0; unfold getP; simp [hK, hc]
    unfold getF
    rw [e]
    exact rfGet_E2 s hs x k1 c1 hK h0 hc w
end Go.Proofs.Ythgafhinlchghaa
