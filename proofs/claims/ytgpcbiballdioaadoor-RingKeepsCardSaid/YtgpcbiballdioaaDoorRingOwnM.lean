/- The first point upwards is the owner's. -/
import Derived.Test.YtgpcbiballdioaaDoorRingOwnC
import Derived.Test.YtgpcbiballdioaaDoorRingPnt
import Derived.Test.YtgpcbiballdioaaDoorRingKeep
namespace Go.Proofs.YtgpcbiballdioaaDoor
open Go.RowKit
set_option linter.unusedVariables false
namespace Rg
theorem least_le (t : Nat) (w : Int) : ∀ (n i : Nat), i ≤ n → least t w n ≤ ptOf t w i
  | 0, i, h => by rw [show i = 0 by omega]; exact Nat.le_refl _
  | n + 1, i, h => by
    show (if ptOf t w (n + 1) < least t w n then ptOf t w (n + 1) else least t w n) ≤ _
    by_cases hi : i = n + 1
    · subst hi; split <;> omega
    · have := least_le t w n i (by omega)
      split <;> omega
theorem least_get (t : Nat) (w : Int) : ∀ n : Nat, ∃ i, i ≤ n ∧ least t w n = ptOf t w i
  | 0 => ⟨0, Nat.le_refl _, rfl⟩
  | n + 1 => by
    show ∃ i, i ≤ n + 1 ∧ (if ptOf t w (n + 1) < least t w n then ptOf t w (n + 1) else least t w n) = ptOf t w i
    split
    · exact ⟨n + 1, Nat.le_refl _, rfl⟩
    · obtain ⟨i, h1, h2⟩ := least_get t w n
      exact ⟨i, by omega, h2⟩
theorem low_le (t : Nat) (w : Int) {i : Nat} (h : i < 8) : low t w ≤ over t (wPt w.toNat i) := by rw [low_eq]; exact least_le t w 7 i (by omega)
theorem low_get (t : Nat) (w : Int) : ∃ i, i < 8 ∧ low t w = over t (wPt w.toNat i) := by
  obtain ⟨i, h1, h2⟩ := least_get t w 7
  exact ⟨i, by omega, by rw [low_eq]; exact h2⟩
theorem over_inj {t p q : Nat} (hp : p < 4294967296) (hq : q < 4294967296) (h : over t p = over t q) : p = q := by
  unfold over at h
  split at h <;> split at h <;> omega
/-- The one told is the least upwards. -/
theorem ownUp_least {m : Nat → Int} {ys : List Nat} (hok : OkS m ys) (hne : ys ≠ []) (t : Nat) : ∃ h, h ∈ ys ∧ ownUp t (ups m ys) = m h ∧ ∀ k ∈ ys, over t h ≤ over t k := by
  have hs := hok.1
  have hlt : ∀ k ∈ ys, k < 4294967296 := fun k hk => ((hok.2 k).1 hk).1
  cases hf : (ups m ys).find? (fun x => decide (t ≤ x.1)) with
  | some x =>
    obtain ⟨h1, fs, bs, h2, h3⟩ := List.find?_eq_some_iff_append.1 hf
    have hy : ys = fs.map (·.1) ++ x.1 :: bs.map (·.1) := by
      have := congrArg (List.map (·.1)) h2
      rw [List.map_append, List.map_cons] at this
      rw [← this]; unfold ups
      rw [List.map_map]
      exact (List.map_id' ys).symm
    have hx : x.1 ∈ ys := by rw [hy]; simp
    have hx2 : x.2 = m x.1 := by
      have : x ∈ ups m ys := by rw [h2]; simp
      obtain ⟨k, _, hk⟩ := List.mem_map.1 this
      rw [← hk]
    have htx : t ≤ x.1 := by simpa using h1
    refine ⟨x.1, hx, by unfold ownUp; rw [hf]; exact hx2, fun k hk => ?_⟩
    have hk0 := hlt k hk
    have hx0 := hlt _ hx
    by_cases hkt : k < t
    · unfold over; rw [if_neg (by omega), if_pos hkt]; omega
    · have : x.1 ≤ k := by
        rw [hy] at hk hs
        rcases List.mem_append.1 hk with h | h
        · obtain ⟨a, ha, rfl⟩ := List.mem_map.1 h
          have := h3 a ha
          simp at this
          omega
        · rcases List.mem_cons.1 h with h | h
          · omega
          · have := (List.pairwise_cons.1 (List.pairwise_append.1 hs).2.1).1 k h
            omega
      unfold over; rw [if_neg (by omega), if_neg hkt]; exact this
  | none =>
    have hall : ∀ k ∈ ys, k < t := fun k hk => by
      have := List.find?_eq_none.1 hf (k, m k) (List.mem_map.2 ⟨k, hk, rfl⟩)
      simp at this
      exact this
    cases ys with
    | nil => exact absurd rfl hne
    | cons y r =>
      refine ⟨y, by simp, by unfold ownUp; rw [hf]; rfl, fun k hk => ?_⟩
      have h1 := hall y (by simp)
      have h2 := hall k hk
      unfold over
      rw [if_pos h1, if_pos h2]
      rcases List.mem_cons.1 hk with h | h
      · omega
      · have := (List.pairwise_cons.1 hs).1 k h; omega
theorem own_code {l : List Int} (hr : right l = true) {m : Nat → Int} {ys : List Nat} (hp : PtsOf (fun y j => y ∈ l ∧ j < 8) m) (hok : OkS m ys) (g : Nat) : ownUp (gPt g) (ups m ys) = owner l g := by
  have hpt : ∀ y ∈ l, ∀ j, j < 8 → wPt y.toNat j ∈ ys ∧ m (wPt y.toNat j) ≤ y := fun y hy j hj => by
    have := hp.low y j ⟨hy, hj⟩
    exact ⟨(hok.2 _).2 ⟨wPt_lt _ _, this.1⟩, this.2⟩
  have hne : ys ≠ [] := by
    obtain ⟨x, hx⟩ : ∃ x, x ∈ l := by
      cases l with
      | nil => simp [right] at hr
      | cons x r => exact ⟨x, by simp⟩
    exact List.ne_nil_of_mem (hpt x hx 0 (by omega)).1
  obtain ⟨h, h1, h2, h3⟩ := ownUp_least hok hne (gPt g)
  rw [h2]
  obtain ⟨hlt, h0⟩ := (hok.2 h).1 h1
  obtain ⟨i, ⟨hml, hi⟩, hw⟩ := hp.src h h0
  refine Owns.uniq (t := gPt g) (l := l) ⟨hml, fun x hx => ?_⟩ (owner_owns hr g)
  have hle : low (gPt g) (m h) ≤ over (gPt g) h := by have := low_le (gPt g) (m h) hi; rwa [hw] at this
  obtain ⟨j, hj, hlx⟩ := low_get (gPt g) x
  obtain ⟨hxy, hxm⟩ := hpt x hx j hj
  have hge := h3 _ hxy
  rw [← hlx] at hge
  by_cases heq : low (gPt g) (m h) = low (gPt g) x
  · right
    refine ⟨heq, ?_⟩
    have : over (gPt g) h = over (gPt g) (wPt x.toNat j) := by rw [← hlx]; omega
    have := over_inj hlt (wPt_lt _ _) this
    rw [this]; rw [← this]; rw [← this] at hxm; exact hxm
  · left; omega
end Rg
end Go.Proofs.YtgpcbiballdioaaDoor
