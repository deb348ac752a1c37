/- What holds of the windows of a time. -/
import Derived.Test.YtehnhhkhnedgeaaWinLike
namespace Go.Proofs.Ytehnhhkhnedgeaa
open Tick
set_option linter.unusedVariables false
namespace Win
variable {s d t : Int}
/-- Where the i-th window begins. -/
def lo (s d t : Int) (i : Nat) : Int := (t / d - (cnt s d t - 1 - i : Nat)) * d
theorem lo_top (i : Nat) : lo s d t i = top d t - ((cnt s d t - 1 - i : Nat) : Int) * d := by rw [top_eq, ← Int.sub_mul]; rfl
theorem of_at (h : good s d t = true) {i : Nat} (hi : i < cnt s d t) : (of s d t)[i]? = some (lo s d t i, hiOf s (lo s d t i)) := by
  have := of_get h (j := cnt s d t - 1 - i) (by omega)
  rw [show cnt s d t - 1 - (cnt s d t - 1 - i) = i by omega] at this
  rw [this, lo_top]
  rfl
theorem lo_bd (h : good s d t = true) {i : Nat} (hi : i < cnt s d t) : 0 ≤ lo s d t i ∧ lo s d t i ≤ t ∧ t < lo s d t i + s ∧ lo s d t i % d = 0 := by
  obtain ⟨⟨o1, o2, o3, o4⟩, g1, g2⟩ := good_iff.1 h
  have h1 := (cnt_lt (size := s) o1 o2 g1 (cnt s d t - 1 - i)).1 (by omega)
  rw [← lo_top] at h1
  have tb := top_bd o1 g1
  have h2 : lo s d t i ≤ top d t := by
    rw [lo_top]
    have : 0 ≤ ((cnt s d t - 1 - i : Nat) : Int) * d := Int.mul_nonneg (by omega) (by omega)
    omega
  exact ⟨h1.1, by omega, h1.2, by unfold lo; exact Int.mul_emod_left _ _⟩
theorem lo_next {i : Nat} (hi : i + 1 < cnt s d t) : lo s d t (i + 1) = lo s d t i + d := by
  unfold lo
  have e : (t / d - ((cnt s d t - 1 - (i + 1) : Nat) : Int)) = (t / d - ((cnt s d t - 1 - i : Nat) : Int)) + 1 := by omega
  rw [e, Int.add_mul, Int.one_mul]
theorem hi_bd {s x t : Int} (h1 : t < x + s) (h2 : t < 1099511627776) : t < hiOf s x ∧ hiOf s x ≤ 1099511627776 ∧ (hiOf s x = 1099511627776 ∨ hiOf s x - x = s) := by
  unfold hiOf
  split <;> omega
theorem cnt_facts (h : good s d t = true) : 1 ≤ cnt s d t ∧ (cnt s d t : Int) ≤ s / d + 1 ∧ (s - 1 ≤ t → s / d ≤ cnt s d t) ∧ (s = d → cnt s d t = 1) := by
  obtain ⟨⟨o1, o2, o3, o4⟩, g1, g2⟩ := good_iff.1 h
  have hp := cnt_pos (size := s) o1 o2 g1
  have hr := floor_lo g1 o1
  have hq : 0 ≤ t / d := Int.ediv_nonneg g1 (by omega)
  have hx : 0 ≤ (s - 1 - t % d) / d := Int.ediv_nonneg (by omega) (by omega)
  have e1 : (s - 1 - t % d) / d ≤ s / d := Int.ediv_le_ediv (by omega) (by omega)
  have e2 : s / d ≤ (s - 1 - t % d) / d + 1 := by
    have h1 : (s - d) / d ≤ (s - 1 - t % d) / d := Int.ediv_le_ediv (by omega) (by omega)
    have h2 : (s - d) / d = s / d - 1 := by
      have := Int.add_mul_ediv_right s (-1) (show d ≠ 0 by omega)
      rw [show s - d = s + -1 * d by omega, this]
      omega
    omega
  refine ⟨hp, by unfold cnt; omega, fun ht => ?_, fun he => ?_⟩
  · have e3 : s / d ≤ t / d + 1 := by
      have h1 : (s - d) / d ≤ t / d := Int.ediv_le_ediv (by omega) (by omega)
      have h2 : (s - d) / d = s / d - 1 := by
        have := Int.add_mul_ediv_right s (-1) (show d ≠ 0 by omega)
        rw [show s - d = s + -1 * d by omega, this]
        omega
      omega
    unfold cnt; omega
  · have e4 : (s - 1 - t % d) / d = 0 := Int.ediv_eq_zero_of_lt (by omega) (by omega)
    unfold cnt
    rw [e4]
    omega
end Win
end Go.Proofs.Ytehnhhkhnedgeaa
