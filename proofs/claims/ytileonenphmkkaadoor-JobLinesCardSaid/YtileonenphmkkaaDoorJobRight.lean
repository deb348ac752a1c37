/- Which jobs may be: the code's checks and the reference's, the law's alive. -/
import Derived.Test.YtileonenphmkkaaDoorJobMath
import Derived.Test.YtileonenphmkkaaDoorGen
namespace Go.Proofs.YtileonenphmkkaaDoor
open Go.RowKit
set_option linter.unusedVariables false
set_option maxRecDepth 8000
namespace Jo
open Gen
theorem jret {c b : Bool} (h : c = b) : Ending.returned (.bool c) = .returned (.bool b) := by rw [h]
abbrev jbC (j : Jb) : Array Value := #[.int .i64 j.groups, .int .i64 j.size, .int .i64 j.slide, .int .i64 j.fold, .int .i64 j.fuel, .int .i64 j.limit, .int .i64 j.delay, .int .i64 j.idle]
abbrev jbV (j : Jb) : Value := .agg (jbC j)
def wi (n lo hi : Int) : Bool := decide (lo ≤ n ∧ n ≤ hi)
theorem right_parts (j : Jb) : right j = (wi j.groups 1 32 && winOk j.size j.slide && foldOk j.fold && wi j.fuel 0 40 && decide (0 ≤ j.limit) && wi j.delay 0 1099511627776 && wi j.idle 0 1048576) := rfl
theorem winOk_iff {a b : Int} : winOk a b = true ↔ 1 ≤ b ∧ b ≤ a ∧ a ≤ 1048576 ∧ a ≤ 16 * b := by
  unfold winOk
  rw [decide_eq_true_eq]
  omega
theorem jWithin (n lo hi : Int) (w : World) : Calls Tryd.prog 27 #[.int .i64 n, .int .i64 lo, .int .i64 hi] w (SaysB (wi n lo hi) w) := by
  have hway : (lo ≤ n ∧ n ≤ hi ∧ wi n lo hi = true) ∨ (lo ≤ n ∧ hi < n ∧ wi n lo hi = false) ∨ (n < lo ∧ wi n lo hi = false) := by
    unfold wi
    simp only [decide_eq_true_eq, decide_eq_false_iff_not]
    omega
  rcases hway with ⟨h1, h2, h3⟩ | ⟨h1, h2, h3⟩ | ⟨h1, h3⟩
  all_goals (
    rw [h3]
    clear h3
    go_enter Tryd.func27, Tryd.ntmps27
    go_wp2
    go_ret
    exact ⟨jret (by first | rfl | (simp; omega)), rfl⟩)
theorem jWin (a b : Int) (w : World) : Calls Tryd.prog 28 #[.int .i64 a, .int .i64 b] w (SaysB (winOk a b) w) := by
  have hway : (1 ≤ b ∧ b ≤ a ∧ a ≤ 1048576 ∧ a ≤ 16 * b ∧ winOk a b = true) ∨ (1 ≤ b ∧ b ≤ a ∧ a ≤ 1048576 ∧ 16 * b < a ∧ winOk a b = false) ∨ (1 ≤ b ∧ b ≤ a ∧ 1048576 < a ∧ winOk a b = false) ∨ (1 ≤ b ∧ a < b ∧ winOk a b = false) ∨ (b < 1 ∧ winOk a b = false) := by
    rw [← Bool.not_eq_true, winOk_iff]
    omega
  rcases hway with ⟨h1, h2, h3, h4, h5⟩ | ⟨h1, h2, h3, h4, h5⟩ | ⟨h1, h2, h3, h5⟩ | ⟨h1, h2, h5⟩ | ⟨h1, h5⟩
  all_goals (
    rw [h5]
    clear h5
    go_enter Tryd.func28, Tryd.ntmps28
    go_wp2
    go_ret
    exact ⟨jret (by first | rfl | (simp; omega)), rfl⟩)
theorem rWin (a b : Int) (w : World) : Calls Tryd.prog 35 #[.int .i64 a, .int .i64 b] w (SaysB (winOk a b) w) := by
  have hway : (1 ≤ b ∧ b ≤ a ∧ a ≤ 1048576 ∧ (a + 15) / 16 ≤ b ∧ winOk a b = true) ∨ (1 ≤ b ∧ b ≤ a ∧ a ≤ 1048576 ∧ b < (a + 15) / 16 ∧ winOk a b = false) ∨ (1 ≤ b ∧ b ≤ a ∧ 1048576 < a ∧ winOk a b = false) ∨ (1 ≤ b ∧ a < b ∧ winOk a b = false) ∨ (b < 1 ∧ winOk a b = false) := by
    rw [← Bool.not_eq_true, winOk_iff]
    omega
  rcases hway with ⟨h1, h2, h3, h4, h5⟩ | ⟨h1, h2, h3, h4, h5⟩ | ⟨h1, h2, h3, h5⟩ | ⟨h1, h2, h5⟩ | ⟨h1, h5⟩
  all_goals (
    rw [h5]
    clear h5
    go_enter Tryd.func35, Tryd.ntmps35
    go_wp2
    go_ret
    exact ⟨jret (by first | rfl | (simp; omega)), rfl⟩)
theorem jFold (k : Int) (w : World) : Calls Tryd.prog 29 #[.int .i64 k] w (SaysB (foldOk k) w) := by
  have hway : (1 ≤ k ∧ k ≤ 5 ∧ foldOk k = true) ∨ (1 ≤ k ∧ 5 < k ∧ foldOk k = false) ∨ (k < 1 ∧ foldOk k = false) := by
    unfold foldOk
    simp only [decide_eq_true_eq, decide_eq_false_iff_not]
    omega
  rcases hway with ⟨h1, h2, h3⟩ | ⟨h1, h2, h3⟩ | ⟨h1, h3⟩
  all_goals (
    rw [h3]
    clear h3
    go_enter Tryd.func29, Tryd.ntmps29
    go_wp2
    go_ret
    exact ⟨jret (by first | rfl | (simp; omega)), rfl⟩)
theorem rFold (k : Int) (w : World) : Calls Tryd.prog 36 #[.int .i64 k] w (SaysB (foldOk k) w) := by
  have hway : (1 ≤ k ∧ k ≤ 5 ∧ foldOk k = true) ∨ (1 ≤ k ∧ 5 < k ∧ foldOk k = false) ∨ (k < 1 ∧ foldOk k = false) := by
    unfold foldOk
    simp only [decide_eq_true_eq, decide_eq_false_iff_not]
    omega
  rcases hway with ⟨h1, h2, h3⟩ | ⟨h1, h2, h3⟩ | ⟨h1, h3⟩
  all_goals (
    rw [h3]
    clear h3
    go_enter Tryd.func36, Tryd.ntmps36
    go_wp2
    go_ret
    exact ⟨jret (by first | rfl | (simp; omega)), rfl⟩)
theorem rJob (j : Jb) (w : World) : Calls Tryd.prog 20 #[jbV j] w (TellsB (winOk j.size j.slide && foldOk j.fold) w) := by
  have H1 := Lib.hid (fun w => rWin j.size j.slide w)
  have H2 := Lib.hid (fun w => rFold j.fold w)
  obtain ⟨g, a, b, k, f, l, d, i⟩ := j
  simp only at H1 H2 ⊢
  obtain ⟨p, hp⟩ : ∃ p, p = winOk a b := ⟨_, rfl⟩
  obtain ⟨q, hq⟩ : ∃ q, q = foldOk k := ⟨_, rfl⟩
  rw [← hp] at H1 ⊢
  rw [← hq] at H2 ⊢
  clear hp hq
  cases p
  all_goals (
    go_enter Tryd.func20, Tryd.ntmps20
    go_wp2_with (first
      | (go_at_call 35; refine (H1.out _).mono ?_; rintro e w1 ⟨rfl, rfl⟩)
      | (go_at_call 36; refine (H2.out _).mono ?_; rintro e w1 ⟨rfl, rfl⟩))
    go_ret
    exact ⟨jret (by simp), below_al (Below.refl _ _)⟩)
set_option maxHeartbeats 2000000 in
theorem jRight (j : Jb) (w : World) : Calls Tryd.prog 14 #[jbV j] w (TellsB (right j) w) := by
  rw [right_parts]
  obtain ⟨g, a, b, k, f, l, d, i⟩ := j
  simp only
  have H1 := Lib.hid (fun w => jWithin g 1 32 w)
  have H2 := Lib.hid (fun w => jWin a b w)
  have H3 := Lib.hid (fun w => jFold k w)
  have H4 := Lib.hid (fun w => jWithin f 0 40 w)
  have H6 := Lib.hid (fun w => jWithin d 0 1099511627776 w)
  have H7 := Lib.hid (fun w => jWithin i 0 1048576 w)
  obtain ⟨b1, h1⟩ : ∃ p, p = wi g 1 32 := ⟨_, rfl⟩
  obtain ⟨b2, h2⟩ : ∃ p, p = winOk a b := ⟨_, rfl⟩
  obtain ⟨b3, h3⟩ : ∃ p, p = foldOk k := ⟨_, rfl⟩
  obtain ⟨b4, h4⟩ : ∃ p, p = wi f 0 40 := ⟨_, rfl⟩
  obtain ⟨b5, h5⟩ : ∃ p, p = decide (0 ≤ l) := ⟨_, rfl⟩
  obtain ⟨b6, h6⟩ : ∃ p, p = wi d 0 1099511627776 := ⟨_, rfl⟩
  obtain ⟨b7, h7⟩ : ∃ p, p = wi i 0 1048576 := ⟨_, rfl⟩
  rw [← h1] at H1 ⊢
  rw [← h2] at H2 ⊢
  rw [← h3] at H3 ⊢
  rw [← h4] at H4 ⊢
  rw [← h6] at H6 ⊢
  rw [← h7] at H7 ⊢
  rw [← h5]
  clear h1 h2 h3 h4 h6 h7
  have hl : (b5 = true ∧ 0 ≤ l) ∨ (b5 = false ∧ l < 0) := by
    rw [h5]; by_cases h : 0 ≤ l
    · exact .inl ⟨decide_eq_true h, h⟩
    · exact .inr ⟨decide_eq_false h, by omega⟩
  clear h5
  have hway : b1 = false ∨ (b1 = true ∧ b2 = false) ∨ (b1 = true ∧ b2 = true ∧ b3 = false) ∨ (b1 = true ∧ b2 = true ∧ b3 = true ∧ b4 = false) ∨
      (b1 = true ∧ b2 = true ∧ b3 = true ∧ b4 = true ∧ b5 = false) ∨ (b1 = true ∧ b2 = true ∧ b3 = true ∧ b4 = true ∧ b5 = true ∧ b6 = false) ∨ (b1 = true ∧ b2 = true ∧ b3 = true ∧ b4 = true ∧ b5 = true ∧ b6 = true) := by
    clear hl; revert b1 b2 b3 b4 b5 b6; intro b1 _ b2 _ b3 _ b4 _ b5 b6 _; cases b1 <;> cases b2 <;> cases b3 <;> cases b4 <;> cases b5 <;> cases b6 <;> decide
  rcases hway with rfl | ⟨rfl, rfl⟩ | ⟨rfl, rfl, rfl⟩ | ⟨rfl, rfl, rfl, rfl⟩ | ⟨rfl, rfl, rfl, rfl, rfl⟩ | ⟨rfl, rfl, rfl, rfl, rfl, rfl⟩ | ⟨rfl, rfl, rfl, rfl, rfl, rfl⟩
  all_goals (
    rcases hl with ⟨hb5, hl⟩ | ⟨hb5, hl⟩ <;> first | cases hb5 | skip)
  all_goals (
    try subst hb5
    go_enter Tryd.func14, Tryd.ntmps14
    go_wp2_with (first
      | (go_at_call 27; first
          | ((with_reducible refine (H1.out _).mono ?_); rintro e w1 ⟨rfl, rfl⟩)
          | ((with_reducible refine (H4.out _).mono ?_); rintro e w1 ⟨rfl, rfl⟩)
          | ((with_reducible refine (H6.out _).mono ?_); rintro e w1 ⟨rfl, rfl⟩)
          | ((with_reducible refine (H7.out _).mono ?_); rintro e w1 ⟨rfl, rfl⟩))
      | (go_at_call 28; refine (H2.out _).mono ?_; rintro e w1 ⟨rfl, rfl⟩)
      | (go_at_call 29; refine (H3.out _).mono ?_; rintro e w1 ⟨rfl, rfl⟩))
    go_ret
    exact ⟨jret (by simp), below_al (Below.refl _ _)⟩)
end Jo
end Go.Proofs.YtileonenphmkkaaDoor
