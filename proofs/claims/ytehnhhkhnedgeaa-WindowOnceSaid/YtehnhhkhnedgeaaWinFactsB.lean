/- What holds of the windows of two times, and of those that are open. -/
import Derived.Test.YtehnhhkhnedgeaaWinFacts
namespace Go.Proofs.Ytehnhhkhnedgeaa
open Tick
set_option linter.unusedVariables false
namespace Win
variable {s d t : Int}
theorem good_mv (h : ok s d = true) (h1 : s ≤ t) (h2 : t < 1099511627776 - s - d) : good s d t = true ∧ good s d (t + d) = true := by
  have := ok_iff.1 h
  constructor <;> (rw [good_iff]; omega)
theorem cnt_mv (h : ok s d = true) (h1 : s ≤ t) : cnt s d (t + d) = cnt s d t := by
  obtain ⟨o1, o2, o3, o4⟩ := ok_iff.1 h
  have e1 : (t + d) / d = t / d + 1 := by
    have := Int.add_mul_ediv_right t 1 (show d ≠ 0 by omega)
    rwa [Int.one_mul] at this
  have e2 : (t + d) % d = t % d := Int.add_emod_right t d
  have hr := floor_lo (show 0 ≤ t by omega) o1
  have hx : 0 ≤ (s - 1 - t % d) / d := Int.ediv_nonneg (by omega) (by omega)
  have hm : (s - 1 - t % d) / d ≤ t / d := Int.ediv_le_ediv (by omega) (by omega)
  unfold cnt
  rw [e1, e2]
  omega
theorem lo_mv (h : ok s d = true) (h1 : s ≤ t) (i : Nat) : lo s d (t + d) i = lo s d t i + d := by
  obtain ⟨o1, o2, o3, o4⟩ := ok_iff.1 h
  have e1 : (t + d) / d = t / d + 1 := by
    have := Int.add_mul_ediv_right t 1 (show d ≠ 0 by omega)
    rwa [Int.one_mul] at this
  unfold lo
  rw [cnt_mv h h1, e1, show t / d + 1 - ((cnt s d t - 1 - i : Nat) : Int) = (t / d - ((cnt s d t - 1 - i : Nat) : Int)) + 1 by omega, Int.add_mul, Int.one_mul]
/-- The windows of a time a slide later. -/
theorem of_mv (h : ok s d = true) (h1 : s ≤ t) (h2 : t < 1099511627776 - s - d) {i : Nat} (hi : i < cnt s d t) :
    ∃ a b, (of s d t)[i]? = some (a, b) ∧ (of s d (t + d))[i]? = some (a + d, b + d) ∧ 0 ≤ a ∧ a ≤ 1099511627776 ∧ 0 ≤ b ∧ b ≤ 1099511627776 := by
  obtain ⟨o1, o2, o3, o4⟩ := ok_iff.1 h
  obtain ⟨g1, g2⟩ := good_mv h h1 h2
  obtain ⟨l0, l1, l2, l3⟩ := lo_bd g1 hi
  refine ⟨_, _, of_at g1 hi, ?_, l0, by omega, ?_, ?_⟩
  · rw [of_at g2 (by rw [cnt_mv h h1]; exact hi), lo_mv h h1]
    have e1 : hiOf s (lo s d t i + d) = lo s d t i + d + s := by unfold hiOf; rw [if_pos (by omega)]
    have e2 : hiOf s (lo s d t i) = lo s d t i + s := by unfold hiOf; rw [if_pos (by omega)]
    rw [e1, e2]
    congr 2
    omega
  · unfold hiOf; split <;> omega
  · unfold hiOf; split <;> omega
/-- A window that holds t holds each u that lies in it: and is among the windows of u. -/
theorem once {u : Int} (h : good s d t = true) {i : Nat} (hi : i < cnt s d t) (hu0 : lo s d t i ≤ u) (hu1 : u < hiOf s (lo s d t i)) :
    ∃ p : Nat, (of s d u)[p]? = some (lo s d t i, hiOf s (lo s d t i)) := by
  obtain ⟨⟨o1, o2, o3, o4⟩, g1, g2⟩ := good_iff.1 h
  obtain ⟨l0, l1, l2, l3⟩ := lo_bd h hi
  obtain ⟨q1, q2, q3⟩ := hi_bd l2 g2
  have hgu : good s d u = true := good_iff.2 ⟨⟨o1, o2, o3, o4⟩, by omega, by omega⟩
  have hle : hiOf s (lo s d t i) ≤ lo s d t i + s := by unfold hiOf; split <;> omega
  have e0 : lo s d t i = (t / d - ((cnt s d t - 1 - i : Nat) : Int)) * d := rfl
  obtain ⟨kk, hkk⟩ : ∃ kk, kk = t / d - ((cnt s d t - 1 - i : Nat) : Int) := ⟨_, rfl⟩
  rw [← hkk] at e0
  have hk0 : 0 ≤ kk := by
    rcases Int.lt_or_le kk 0 with h6 | h6
    · have := Int.mul_neg_of_neg_of_pos h6 (show 0 < d by omega); omega
    · exact h6
  have hku : kk ≤ u / d := by rw [Int.le_ediv_iff_mul_le (by omega)]; omega
  have ha := at_ (s := s) (d := d) (t := u) hk0 hku
  have hj : (u / d - kk).toNat < cnt s d u := (cnt_lt o1 o2 (by omega) _).2 (by rw [ha, ← e0]; omega)
  refine ⟨_, (of_get hgu hj).trans ?_⟩
  unfold win
  rw [ha, ← e0]
theorem while_lt {α : Type} (p : α → Bool) : ∀ l : List α, (∀ (i j : Nat) a b, i < j → l[i]? = some a → l[j]? = some b → p b = true → p a = true) → ∀ (j : Nat) x, l[j]? = some x → (j < (l.takeWhile p).length ↔ p x = true)
  | [], _, j, x, hx => by simp at hx
  | a :: r, h, j, x, hx => by
    have ih := while_lt p r fun i j x y hij hx hy => h (i + 1) (j + 1) x y (by omega) (by simpa using hx) (by simpa using hy)
    by_cases ha : p a = true
    · rw [List.takeWhile_cons_of_pos ha]
      cases j with
      | zero => simp at hx; subst hx; simp [ha]
      | succ j => have := ih j x (by simpa using hx); simp only [List.length_cons]; rw [← this]; omega
    · rw [List.takeWhile_cons_of_neg ha]
      cases j with
      | zero => simp at hx; subst hx; simp [ha]
      | succ j =>
        constructor
        · intro h1; simp at h1
        · intro h1; exact absurd (h 0 (j + 1) a x (by omega) (by simp) hx h1) ha
/-- Windows from the last one on end ever earlier. -/
theorem desc_anti (s d t m : Int) : ∀ (i j : Nat) a b, i < j → (desc s d t)[i]? = some a → (desc s d t)[j]? = some b → (fun p : Int × Int => decide (m < p.2)) b = true → (fun p : Int × Int => decide (m < p.2)) a = true := by
  intro i j a b hij ha hb hp
  by_cases hg : good s d t = true
  · obtain ⟨⟨o1, o2, o3, o4⟩, g1, g2⟩ := good_iff.1 hg
    rw [desc_good hg, List.getElem?_map] at ha hb
    obtain ⟨i', hi, rfl⟩ := Option.map_eq_some_iff.1 ha
    obtain ⟨j', hj, rfl⟩ := Option.map_eq_some_iff.1 hb
    obtain ⟨_, ei⟩ := List.getElem?_eq_some_iff.1 hi
    obtain ⟨_, ej⟩ := List.getElem?_eq_some_iff.1 hj
    have ei' : i' = i := by simpa using ei.symm
    have ej' : j' = j := by simpa using ej.symm
    subst ei' ej'
    have hm : (i' : Int) * d ≤ (j' : Int) * d := Int.mul_le_mul_of_nonneg_right (by omega) (by omega)
    have := hi_mono (s := s) (show top d t - (j' : Int) * d ≤ top d t - (i' : Int) * d by omega)
    have hp' : m < (win s d t j').2 := of_decide_eq_true hp
    exact decide_eq_true (by unfold win at hp' ⊢; simp only at hp' ⊢; omega)
  · rw [desc_not (by simpa using hg)] at ha
    simp at ha
theorem open_le_of (s d t m : Int) : (open_ s d t m).length ≤ (of s d t).length := by rw [open_eq]; exact List.length_filter_le _ _
/-- Those that are open are the last ones. -/
theorem open_drop (s d t m : Int) : open_ s d t m = (of s d t).drop ((of s d t).length - (open_ s d t m).length) := by
  have h0 := List.takeWhile_prefix (fun p : Int × Int => decide (m < p.2)) (l := desc s d t)
  have e := List.prefix_iff_eq_take.1 h0
  have hl := open_le_of s d t m
  unfold open_ of at hl ⊢
  rw [List.length_reverse, List.length_reverse] at hl ⊢
  rw [List.drop_reverse, show (desc s d t).length - ((desc s d t).length - (List.takeWhile (fun p => decide (m < p.2)) (desc s d t)).length) = (List.takeWhile (fun p => decide (m < p.2)) (desc s d t)).length by omega, ← e]
theorem open_iff {m : Int} {i : Nat} {x : Int × Int} (hx : (of s d t)[i]? = some x) : (of s d t).length - (open_ s d t m).length ≤ i ↔ m < x.2 := by
  have hi := (List.getElem?_eq_some_iff.1 hx).1
  have hl := open_le_of s d t m
  rw [of, List.length_reverse] at hi
  rw [of, List.getElem?_reverse hi] at hx
  have h := while_lt (fun p : Int × Int => decide (m < p.2)) (desc s d t) (desc_anti s d t m) _ x hx
  unfold open_ of at hl ⊢
  rw [List.length_reverse, List.length_reverse] at hl ⊢
  have e : m < x.2 ↔ (fun p : Int × Int => decide (m < p.2)) x = true := by simp
  rw [e, ← h]
  omega
/-- At a mark that is not above the time all are open. -/
theorem open_all {m : Int} (hm : m ≤ t) : (open_ s d t m).length = (of s d t).length := by
  by_cases hg : good s d t = true
  · obtain ⟨⟨o1, o2, o3, o4⟩, g1, g2⟩ := good_iff.1 hg
    rw [open_eq]
    congr 1
    rw [List.filter_eq_self]
    intro x hx
    obtain ⟨i, hi, rfl⟩ := List.getElem_of_mem hx
    have hi' : i < cnt s d t := by rw [← of_len hg]; exact hi
    have h := of_at hg hi'
    rw [List.getElem?_eq_getElem hi] at h
    obtain ⟨l0, l1, l2, l3⟩ := lo_bd hg hi'
    obtain ⟨q1, _, _⟩ := hi_bd l2 g2
    have e : (of s d t)[i] = (lo s d t i, hiOf s (lo s d t i)) := by simpa using h
    rw [e]
    simp only [decide_eq_true_eq]
    omega
  · have e := of_not (s := s) (d := d) (t := t) (by simpa using hg)
    rw [open_eq, e]; rfl
theorem of_hi {i : Nat} {x : Int × Int} (hx : (of s d t)[i]? = some x) : t < x.2 := by
  by_cases hg : good s d t = true
  · obtain ⟨⟨o1, o2, o3, o4⟩, g1, g2⟩ := good_iff.1 hg
    have hi' : i < cnt s d t := by rw [← of_len hg]; exact (List.getElem?_eq_some_iff.1 hx).1
    have h := of_at hg hi'
    rw [hx] at h
    obtain ⟨l0, l1, l2, l3⟩ := lo_bd hg hi'
    obtain ⟨q1, _, _⟩ := hi_bd l2 g2
    cases h
    exact q1
  · have e := of_not (s := s) (d := d) (t := t) (by simpa using hg)
    rw [e] at hx; simp at hx
end Win
end Go.Proofs.Ytehnhhkhnedgeaa
