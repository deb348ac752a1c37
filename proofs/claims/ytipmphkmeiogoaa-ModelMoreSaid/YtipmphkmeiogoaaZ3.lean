/- JobRight, JobRef, VlqMath, ItemMath, put together. -/
import Derived.Test.YtipmphkmeiogoaaZ1
import Derived.Test.YtipmphkmeiogoaaZ2
import Derived.Test.YtipmphkmeiogoaaRows
/- Which jobs may be: the code's checks and the reference's, the law's alive. -/
namespace Go.Proofs.Ytipmphkmeiogoaa
open Go.RowKit
set_option linter.unusedVariables false
set_option maxRecDepth 8000
namespace Jo
open Gen
theorem jret {c b : Bool} (h : c = b) : Ending.returned (.bool c) = .returned (.bool b) := by rw [h]
abbrev jbC (j : Jb) : Array Value := #[.int .i64 j.groups, .int .i64 j.size, .int .i64 j.slide, .int .i64 j.fold, .int .i64 j.fuel, .int .i64 j.limit, .int .i64 j.delay, .int .i64 j.idle]
abbrev jbV (j : Jb) : Value := .agg (jbC j)
def wi (n lo hi : Int) : Bool := decide (lo ≤ n ∧ n ≤ hi)
theorem right_parts (j : Jb) : right j = (wi j.groups 1 32 && winOk j.size j.slide && foldOk j.fold && wi j.fuel 0 40 && decide (0 ≤ j.limit) && wi j.delay 0 1099511627776 && wi j.idle 0 1048576) := rfl
theorem winOk_iff {a b : Int} : winOk a b = true ↔ 1 ≤ b ∧ b ≤ a ∧ a ≤ 1048576 ∧ a ≤ 16 * b := by
  unfold winOk
  rw [decide_eq_true_eq]
  omega
theorem jWithin (n lo hi : Int) (w : World) : Calls Try.prog 63 #[.int .i64 n, .int .i64 lo, .int .i64 hi] w (SaysB (wi n lo hi) w) := by
  have hway : (lo ≤ n ∧ n ≤ hi ∧ wi n lo hi = true) ∨ (lo ≤ n ∧ hi < n ∧ wi n lo hi = false) ∨ (n < lo ∧ wi n lo hi = false) := by
    unfold wi
    simp only [decide_eq_true_eq, decide_eq_false_iff_not]
    omega
  rcases hway with ⟨h1, h2, h3⟩ | ⟨h1, h2, h3⟩ | ⟨h1, h3⟩
  all_goals (
    rw [h3]
    clear h3
    go_enter Try.func63, Try.ntmps63
    go_wp2
    go_ret
    exact ⟨jret (by first | rfl | (simp; omega)), rfl⟩)
theorem jWin (a b : Int) (w : World) : Calls Try.prog 64 #[.int .i64 a, .int .i64 b] w (SaysB (winOk a b) w) := by
  have hway : (1 ≤ b ∧ b ≤ a ∧ a ≤ 1048576 ∧ a ≤ 16 * b ∧ winOk a b = true) ∨ (1 ≤ b ∧ b ≤ a ∧ a ≤ 1048576 ∧ 16 * b < a ∧ winOk a b = false) ∨ (1 ≤ b ∧ b ≤ a ∧ 1048576 < a ∧ winOk a b = false) ∨ (1 ≤ b ∧ a < b ∧ winOk a b = false) ∨ (b < 1 ∧ winOk a b = false) := by
    rw [← Bool.not_eq_true, winOk_iff]
    omega
  rcases hway with ⟨h1, h2, h3, h4, h5⟩ | ⟨h1, h2, h3, h4, h5⟩ | ⟨h1, h2, h3, h5⟩ | ⟨h1, h2, h5⟩ | ⟨h1, h5⟩
  all_goals (
    rw [h5]
    clear h5
    go_enter Try.func64, Try.ntmps64
    go_wp2
    go_ret
    exact ⟨jret (by first | rfl | (simp; omega)), rfl⟩)
theorem rWin (a b : Int) (w : World) : Calls Try.prog 55 #[.int .i64 a, .int .i64 b] w (SaysB (winOk a b) w) := by
  have hway : (1 ≤ b ∧ b ≤ a ∧ a ≤ 1048576 ∧ (a + 15) / 16 ≤ b ∧ winOk a b = true) ∨ (1 ≤ b ∧ b ≤ a ∧ a ≤ 1048576 ∧ b < (a + 15) / 16 ∧ winOk a b = false) ∨ (1 ≤ b ∧ b ≤ a ∧ 1048576 < a ∧ winOk a b = false) ∨ (1 ≤ b ∧ a < b ∧ winOk a b = false) ∨ (b < 1 ∧ winOk a b = false) := by
    rw [← Bool.not_eq_true, winOk_iff]
    omega
  rcases hway with ⟨h1, h2, h3, h4, h5⟩ | ⟨h1, h2, h3, h4, h5⟩ | ⟨h1, h2, h3, h5⟩ | ⟨h1, h2, h5⟩ | ⟨h1, h5⟩
  all_goals (
    rw [h5]
    clear h5
    go_enter Try.func55, Try.ntmps55
    go_wp2
    go_ret
    exact ⟨jret (by first | rfl | (simp; omega)), rfl⟩)
theorem jFold (k : Int) (w : World) : Calls Try.prog 53 #[.int .i64 k] w (SaysB (foldOk k) w) := by
  have hway : (1 ≤ k ∧ k ≤ 5 ∧ foldOk k = true) ∨ (1 ≤ k ∧ 5 < k ∧ foldOk k = false) ∨ (k < 1 ∧ foldOk k = false) := by
    unfold foldOk
    simp only [decide_eq_true_eq, decide_eq_false_iff_not]
    omega
  rcases hway with ⟨h1, h2, h3⟩ | ⟨h1, h2, h3⟩ | ⟨h1, h3⟩
  all_goals (
    rw [h3]
    clear h3
    go_enter Try.func53, Try.ntmps53
    go_wp2
    go_ret
    exact ⟨jret (by first | rfl | (simp; omega)), rfl⟩)
theorem rFold (k : Int) (w : World) : Calls Try.prog 61 #[.int .i64 k] w (SaysB (foldOk k) w) := by
  have hway : (1 ≤ k ∧ k ≤ 5 ∧ foldOk k = true) ∨ (1 ≤ k ∧ 5 < k ∧ foldOk k = false) ∨ (k < 1 ∧ foldOk k = false) := by
    unfold foldOk
    simp only [decide_eq_true_eq, decide_eq_false_iff_not]
    omega
  rcases hway with ⟨h1, h2, h3⟩ | ⟨h1, h2, h3⟩ | ⟨h1, h3⟩
  all_goals (
    rw [h3]
    clear h3
    go_enter Try.func61, Try.ntmps61
    go_wp2
    go_ret
    exact ⟨jret (by first | rfl | (simp; omega)), rfl⟩)
theorem rJob (j : Jb) (w : World) : Calls Try.prog 43 #[jbV j] w (TellsB (winOk j.size j.slide && foldOk j.fold) w) := by
  have H1 := Lib.hid (fun w => rWin j.size j.slide w)
  have H2 := Lib.hid (fun w => rFold j.fold w)
  obtain ⟨g, a, b, k, f, l, d, i⟩ := j
  simp only at H1 H2 ⊢
  obtain ⟨p, hp⟩ : ∃ p, p = winOk a b := ⟨_, rfl⟩
  obtain ⟨q, hq⟩ : ∃ q, q = foldOk k := ⟨_, rfl⟩
  rw [← hp] at H1 ⊢
  rw [← hq] at H2 ⊢
  clear hp hq
  cases p
  all_goals (
    go_enter Try.func43, Try.ntmps43
    go_wp2_with (first
      | (go_at_call 55; refine (H1.out _).mono ?_; rintro e w1 ⟨rfl, rfl⟩)
      | (go_at_call 61; refine (H2.out _).mono ?_; rintro e w1 ⟨rfl, rfl⟩))
    go_ret
    exact ⟨jret (by simp), below_al (Below.refl _ _)⟩)
set_option maxHeartbeats 2000000 in
theorem jRight (j : Jb) (w : World) : Calls Try.prog 38 #[jbV j] w (TellsB (right j) w) := by
  rw [right_parts]
  obtain ⟨g, a, b, k, f, l, d, i⟩ := j
  simp only
  have H1 := Lib.hid (fun w => jWithin g 1 32 w)
  have H2 := Lib.hid (fun w => jWin a b w)
  have H3 := Lib.hid (fun w => jFold k w)
  have H4 := Lib.hid (fun w => jWithin f 0 40 w)
  have H6 := Lib.hid (fun w => jWithin d 0 1099511627776 w)
  have H7 := Lib.hid (fun w => jWithin i 0 1048576 w)
  obtain ⟨b1, h1⟩ : ∃ p, p = wi g 1 32 := ⟨_, rfl⟩
  obtain ⟨b2, h2⟩ : ∃ p, p = winOk a b := ⟨_, rfl⟩
  obtain ⟨b3, h3⟩ : ∃ p, p = foldOk k := ⟨_, rfl⟩
  obtain ⟨b4, h4⟩ : ∃ p, p = wi f 0 40 := ⟨_, rfl⟩
  obtain ⟨b5, h5⟩ : ∃ p, p = decide (0 ≤ l) := ⟨_, rfl⟩
  obtain ⟨b6, h6⟩ : ∃ p, p = wi d 0 1099511627776 := ⟨_, rfl⟩
  obtain ⟨b7, h7⟩ : ∃ p, p = wi i 0 1048576 := ⟨_, rfl⟩
  rw [← h1] at H1 ⊢
  rw [← h2] at H2 ⊢
  rw [← h3] at H3 ⊢
  rw [← h4] at H4 ⊢
  rw [← h6] at H6 ⊢
  rw [← h7] at H7 ⊢
  rw [← h5]
  clear h1 h2 h3 h4 h6 h7
  have hl : (b5 = true ∧ 0 ≤ l) ∨ (b5 = false ∧ l < 0) := by
    rw [h5]; by_cases h : 0 ≤ l
    · exact .inl ⟨decide_eq_true h, h⟩
    · exact .inr ⟨decide_eq_false h, by omega⟩
  clear h5
  have hway : b1 = false ∨ (b1 = true ∧ b2 = false) ∨ (b1 = true ∧ b2 = true ∧ b3 = false) ∨ (b1 = true ∧ b2 = true ∧ b3 = true ∧ b4 = false) ∨
      (b1 = true ∧ b2 = true ∧ b3 = true ∧ b4 = true ∧ b5 = false) ∨ (b1 = true ∧ b2 = true ∧ b3 = true ∧ b4 = true ∧ b5 = true ∧ b6 = false) ∨ (b1 = true ∧ b2 = true ∧ b3 = true ∧ b4 = true ∧ b5 = true ∧ b6 = true) := by
    clear hl; revert b1 b2 b3 b4 b5 b6; intro b1 _ b2 _ b3 _ b4 _ b5 b6 _; cases b1 <;> cases b2 <;> cases b3 <;> cases b4 <;> cases b5 <;> cases b6 <;> decide
  rcases hway with rfl | ⟨rfl, rfl⟩ | ⟨rfl, rfl, rfl⟩ | ⟨rfl, rfl, rfl, rfl⟩ | ⟨rfl, rfl, rfl, rfl, rfl⟩ | ⟨rfl, rfl, rfl, rfl, rfl, rfl⟩ | ⟨rfl, rfl, rfl, rfl, rfl, rfl⟩
  all_goals (
    rcases hl with ⟨hb5, hl⟩ | ⟨hb5, hl⟩ <;> first | cases hb5 | skip)
  all_goals (
    try subst hb5
    go_enter Try.func38, Try.ntmps38
    go_wp2_with (first
      | (go_at_call 63; first
          | ((with_reducible refine (H1.out _).mono ?_); rintro e w1 ⟨rfl, rfl⟩)
          | ((with_reducible refine (H4.out _).mono ?_); rintro e w1 ⟨rfl, rfl⟩)
          | ((with_reducible refine (H6.out _).mono ?_); rintro e w1 ⟨rfl, rfl⟩)
          | ((with_reducible refine (H7.out _).mono ?_); rintro e w1 ⟨rfl, rfl⟩))
      | (go_at_call 64; refine (H2.out _).mono ?_; rintro e w1 ⟨rfl, rfl⟩)
      | (go_at_call 53; refine (H3.out _).mono ?_; rintro e w1 ⟨rfl, rfl⟩))
    go_ret
    exact ⟨jret (by simp), below_al (Below.refl _ _)⟩)
end Jo
end Go.Proofs.Ytipmphkmeiogoaa
/- Right of the reference, the law's alive. -/
namespace Go.Proofs.Ytipmphkmeiogoaa
open Go.RowKit
set_option linter.unusedVariables false
set_option maxRecDepth 8000
namespace Jo
open Gen
set_option maxHeartbeats 2000000 in
theorem rRight (j : Jb) (w : World) : Calls Try.prog 24 #[jbV j] w (TellsB (right j) w) := by
  have hiff := right_iff j
  have HJ := Lib.hid (fun w => rJob j w)
  obtain ⟨r, hr⟩ : ∃ r, r = right j := ⟨_, rfl⟩
  rw [← hr] at hiff ⊢
  clear hr
  obtain ⟨g, a, b, k, f, l, d, i⟩ := j
  simp only at hiff HJ ⊢
  obtain ⟨q, hq⟩ : ∃ q, q = (winOk a b && foldOk k) := ⟨_, rfl⟩
  have hq2 : q = true ↔ (winOk a b = true ∧ foldOk k = true) := by rw [hq, Bool.and_eq_true]
  rw [← hq] at HJ
  clear hq
  have hiff2 : r = true ↔ (1 ≤ g ∧ g ≤ 32) ∧ q = true ∧ (0 ≤ f ∧ f ≤ 40) ∧ 0 ≤ l ∧ (0 ≤ d ∧ d ≤ 1099511627776) ∧ (0 ≤ i ∧ i ≤ 1048576) := by
    rw [hiff, hq2]
    simp only [and_assoc]
  clear hiff hq2
  have hway : (g < 1 ∧ r = false) ∨ (1 ≤ g ∧ 32 < g ∧ r = false) ∨ (1 ≤ g ∧ g ≤ 32 ∧ q = false ∧ r = false) ∨ (1 ≤ g ∧ g ≤ 32 ∧ q = true ∧ f < 0 ∧ r = false) ∨ (1 ≤ g ∧ g ≤ 32 ∧ q = true ∧ 0 ≤ f ∧ 40 < f ∧ r = false) ∨
      (1 ≤ g ∧ g ≤ 32 ∧ q = true ∧ 0 ≤ f ∧ f ≤ 40 ∧ l < 0 ∧ r = false) ∨ (1 ≤ g ∧ g ≤ 32 ∧ q = true ∧ 0 ≤ f ∧ f ≤ 40 ∧ 0 ≤ l ∧ d < 0 ∧ r = false) ∨ (1 ≤ g ∧ g ≤ 32 ∧ q = true ∧ 0 ≤ f ∧ f ≤ 40 ∧ 0 ≤ l ∧ 0 ≤ d ∧ 1099511627776 < d ∧ r = false) ∨
      (1 ≤ g ∧ g ≤ 32 ∧ q = true ∧ 0 ≤ f ∧ f ≤ 40 ∧ 0 ≤ l ∧ 0 ≤ d ∧ d ≤ 1099511627776 ∧ i < 0 ∧ r = false) ∨ (1 ≤ g ∧ g ≤ 32 ∧ q = true ∧ 0 ≤ f ∧ f ≤ 40 ∧ 0 ≤ l ∧ 0 ≤ d ∧ d ≤ 1099511627776 ∧ 0 ≤ i ∧ 1048576 < i ∧ r = false) ∨
      (1 ≤ g ∧ g ≤ 32 ∧ q = true ∧ 0 ≤ f ∧ f ≤ 40 ∧ 0 ≤ l ∧ 0 ≤ d ∧ d ≤ 1099511627776 ∧ 0 ≤ i ∧ i ≤ 1048576 ∧ r = true) := by
    cases r <;> cases q <;> simp at hiff2 ⊢ <;> omega
  clear hiff2
  rcases hway with ⟨h1, h2⟩ | ⟨h1, h2, h3⟩ | ⟨h1, h2, h3, h4⟩ | ⟨h1, h2, h3, h4, h5⟩ | ⟨h1, h2, h3, h4, h5, h6⟩ | ⟨h1, h2, h3, h4, h5, h6, h7⟩ | ⟨h1, h2, h3, h4, h5, h6, h7, h8⟩ | ⟨h1, h2, h3, h4, h5, h6, h7, h8, h9⟩ | ⟨h1, h2, h3, h4, h5, h6, h7, h8, h9, h10⟩ | ⟨h1, h2, h3, h4, h5, h6, h7, h8, h9, h10, h11⟩ | ⟨h1, h2, h3, h4, h5, h6, h7, h8, h9, h10, h11⟩
  all_goals (
    try subst q
    subst r
    go_enter Try.func24, Try.ntmps24
    go_wp2_with (go_at_call 43; refine (HJ.out _).mono ?_; rintro e w1 ⟨rfl, hb1⟩; have HB1 := Lib.hid (below_next (below_al (Below.refl w.heap.size w)) hb1); have L1 := Lib.hid (show Lies w.heap.size (jbC ⟨g, a, b, k, f, l, d, i⟩) 23 w1 from (hb1.block _ (by simp)).trans (Lies.new w _ _)); have c4 := L1.out.cell (j := 4) rfl; have c5 := L1.out.cell (j := 5) rfl; have c6 := L1.out.cell (j := 6) rfl; have c7 := L1.out.cell (j := 7) rfl; clear hb1)
    go_ret
    exact ⟨jret (by first | rfl | (simp; omega)), by first | exact HB1.out | exact below_al (Below.refl _ _)⟩)
end Jo
end Go.Proofs.Ytipmphkmeiogoaa
/- The plain mathematics of numbers as bytes, most significant digits first: what is written, what is read. -/
namespace Go.Proofs.Ytipmphkmeiogoaa
namespace Vlq
/-- The digits that are not the last one. -/
def hi (n : Nat) : List UInt8 := if n = 0 then [] else hi (n / 128) ++ [UInt8.ofNat (n % 128 + 128)]
termination_by n
decreasing_by omega
def enc (n : Nat) : List UInt8 := hi (n / 128) ++ [UInt8.ofNat (n % 128)]
theorem hi_zero : hi 0 = [] := by rw [hi]; simp
theorem hi_pos {n : Nat} (h : n ≠ 0) : hi n = hi (n / 128) ++ [UInt8.ofNat (n % 128 + 128)] := by rw [hi]; simp [h]
theorem hi_step {n c : Nat} (h : n ≠ 0 ∨ c ≠ 0) (hc : c < 128) : hi (n * 128 + c) = hi n ++ [UInt8.ofNat (c + 128)] := by
  rw [hi_pos (by omega), show (n * 128 + c) / 128 = n by omega, show (n * 128 + c) % 128 = c by omega]
theorem enc_step {n c : Nat} (hc : c < 128) : enc (n * 128 + c) = hi n ++ [UInt8.ofNat c] := by
  rw [enc, show (n * 128 + c) / 128 = n by omega, show (n * 128 + c) % 128 = c by omega]
theorem hi_len : ∀ (k n : Nat), n < 128 ^ k → (hi n).length ≤ k := by
  intro k
  induction k with
  | zero => intro n h; have : n = 0 := by simpa using h
            subst this; simp [hi_zero]
  | succ k ih =>
    intro n h
    by_cases h0 : n = 0
    · subst h0; simp [hi_zero]
    · rw [hi_pos h0, List.length_append]
      have := ih (n / 128) (by rw [Nat.pow_succ] at h; omega)
      simp; omega
theorem enc_len (n : Nat) (h : n < 18446744073709551616) : (enc n).length ≤ 10 := by
  rw [enc, List.length_append]
  have := hi_len 9 (n / 128) (by have : (128 : Nat) ^ 9 = 9223372036854775808 := by decide
                                 omega)
  simp; omega
theorem enc_pos (n : Nat) : 1 ≤ (enc n).length := by rw [enc, List.length_append]; simp
theorem enc_ne (n : Nat) : enc n ≠ [] := by intro h; have := enc_pos n; rw [h] at this; simp at this

def rdGo (most : Nat) : List UInt8 → Nat → Nat → Nat × Nat × Nat
  | [], _, _ => (0, 0, 20)
  | c :: r, n, i => if most / 128 < n then (0, 0, 21) else if c.toNat < 128 then (n * 128 + c.toNat % 128, i + 1, 0) else rdGo most r (n * 128 + c.toNat % 128) (i + 1)
def rd (most : Nat) (l : List UInt8) (i : Nat) : Nat × Nat × Nat :=
  if (l.drop i).head? = some 128 then (0, 0, 21) else rdGo most (l.drop i) 0 i

theorem rdGo_bad {most : Nat} : ∀ (l : List UInt8) (n i : Nat), (rdGo most l n i).2.2 ≠ 0 → (rdGo most l n i).1 = 0 ∧ (rdGo most l n i).2.1 = 0 := by
  intro l
  induction l with
  | nil => intro n i _; exact ⟨rfl, rfl⟩
  | cons c r ih =>
    intro n i h
    unfold rdGo at h ⊢
    split
    · exact ⟨rfl, rfl⟩
    · split
      · simp_all
      · rw [if_neg (by assumption), if_neg (by assumption)] at h; exact ih _ _ h
theorem rd_bad {most : Nat} {l : List UInt8} {i : Nat} (h : (rd most l i).2.2 ≠ 0) : (rd most l i).1 = 0 ∧ (rd most l i).2.1 = 0 := by
  unfold rd at h ⊢
  split
  · exact ⟨rfl, rfl⟩
  · rw [if_neg (by assumption)] at h; exact rdGo_bad _ _ _ h
theorem rdGo_err {most : Nat} : ∀ (l : List UInt8) (n i : Nat), (rdGo most l n i).2.2 = 0 ∨ (rdGo most l n i).2.2 = 20 ∨ (rdGo most l n i).2.2 = 21 := by
  intro l
  induction l with
  | nil => intro n i; right; left; rfl
  | cons c r ih =>
    intro n i
    unfold rdGo
    split
    · right; right; rfl
    · split
      · left; rfl
      · exact ih _ _
theorem rd_err (most : Nat) (l : List UInt8) (i : Nat) : (rd most l i).2.2 = 0 ∨ (rd most l i).2.2 = 20 ∨ (rd most l i).2.2 = 21 := by
  unfold rd
  split
  · right; right; rfl
  · exact rdGo_err _ _ _
theorem u8_lt (c : UInt8) : c.toNat < 256 := c.toNat_lt
theorem u8_128 {c : UInt8} : c = 128 ↔ c.toNat = 128 := by
  constructor
  · rintro rfl; rfl
  · intro h; exact UInt8.toNat_inj.1 (by simpa using h)
theorem ofNat_hi {c : UInt8} (h : ¬ c.toNat < 128) : UInt8.ofNat (c.toNat % 128 + 128) = c := by
  have := u8_lt c
  rw [show c.toNat % 128 + 128 = c.toNat by omega]
  simp
theorem ofNat_lo {c : UInt8} (h : c.toNat < 128) : UInt8.ofNat (c.toNat % 128) = c := by
  rw [show c.toNat % 128 = c.toNat by omega]
  simp
/-- What is read, written again, is what was read. -/
theorem rdGo_once {most : Nat} (hm : most % 128 = 127) : ∀ (l : List UInt8) (n i m to : Nat), (n ≠ 0 ∨ l.head? ≠ some 128) → rdGo most l n i = (m, to, 0) →
    i < to ∧ to - i ≤ l.length ∧ m ≤ most ∧ hi n ++ l.take (to - i) = enc m := by
  intro l
  induction l with
  | nil => intro n i m to _ h; simp [rdGo] at h
  | cons c r ih =>
    intro n i m to h0 h
    unfold rdGo at h
    split at h
    · simp at h
    · split at h
      · rename_i h1 h2
        simp only [Prod.mk.injEq, and_true] at h
        obtain ⟨rfl, rfl⟩ := h
        refine ⟨by omega, by simp, by omega, ?_⟩
        rw [enc_step (by omega), ofNat_lo h2, show i + 1 - i = 1 by omega]
        simp
      · rename_i h1 h2
        have hz : n ≠ 0 ∨ c.toNat % 128 ≠ 0 := by
          rcases h0 with h0 | h0
          · exact .inl h0
          · right
            intro hc
            apply h0
            have := u8_lt c
            simp only [List.head?_cons, Option.some.injEq]
            exact u8_128.2 (by omega)
        have hn : n * 128 + c.toNat % 128 ≠ 0 := by omega
        obtain ⟨a1, a2, a3, a4⟩ := ih _ _ _ _ (.inl hn) h
        refine ⟨by omega, by simp; omega, a3, ?_⟩
        rw [hi_step hz (by omega), ofNat_hi h2] at a4
        rw [← a4, show to - i = (to - (i + 1)) + 1 by omega, List.take_succ_cons]
        simp
theorem rd_once {most : Nat} (hm : most % 128 = 127) {l : List UInt8} {i m to : Nat} (h : rd most l i = (m, to, 0)) :
    i < to ∧ to ≤ l.length ∧ m ≤ most ∧ (l.drop i).take (to - i) = enc m := by
  unfold rd at h
  split at h
  · simp at h
  · rename_i h0
    obtain ⟨a1, a2, a3, a4⟩ := rdGo_once hm _ _ _ _ _ (.inr h0) h
    rw [hi_zero, List.nil_append] at a4
    rw [List.length_drop] at a2
    exact ⟨a1, by omega, a3, a4⟩
theorem rdGo_hi {most : Nat} : ∀ (m : Nat) (rest : List UInt8) (i : Nat), m ≤ most → m / 128 ≤ most / 128 → rdGo most (hi m ++ rest) 0 i = rdGo most rest m (i + (hi m).length) := by
  intro m
  induction m using Nat.strongRecOn with
  | _ m ih =>
    intro rest i h1 h2
    by_cases h0 : m = 0
    · subst h0; simp [hi_zero]
    · rw [hi_pos h0, List.append_assoc, ih (m / 128) (by omega) _ _ (by omega) (by omega), List.singleton_append, rdGo, if_neg (by omega)]
      have e : (UInt8.ofNat (m % 128 + 128)).toNat = m % 128 + 128 := by
        rw [UInt8.toNat_ofNat']; omega
      rw [e, if_neg (by omega), show m / 128 * 128 + (m % 128 + 128) % 128 = m by omega, List.length_append]
      simp [Nat.add_assoc]
theorem hi_head : ∀ (m : Nat) (rest : List UInt8), m ≠ 0 → (hi m ++ rest).head? ≠ some 128 := by
  intro m
  induction m using Nat.strongRecOn with
  | _ m ih =>
    intro rest h0
    rw [hi_pos h0, List.append_assoc]
    by_cases h1 : m / 128 = 0
    · rw [h1, hi_zero]
      simp only [List.nil_append, List.singleton_append, List.head?_cons, ne_eq, Option.some.injEq]
      rw [u8_128, UInt8.toNat_ofNat']
      omega
    · exact ih (m / 128) (by omega) _ h1
theorem enc_head (n : Nat) (rest : List UInt8) : (enc n ++ rest).head? ≠ some 128 := by
  rw [enc, List.append_assoc]
  by_cases h1 : n / 128 = 0
  · rw [h1, hi_zero]
    simp only [List.nil_append, List.singleton_append, List.head?_cons, ne_eq, Option.some.injEq]
    rw [u8_128, UInt8.toNat_ofNat']
    omega
  · exact hi_head _ _ h1
/-- What is written is read again. -/
theorem rd_enc {most n : Nat} (h : n ≤ most) (a b : List UInt8) : rd most (a ++ (enc n ++ b)) a.length = (n, a.length + (enc n).length, 0) := by
  unfold rd
  rw [List.drop_left, if_neg (enc_head n b), enc, List.append_assoc, rdGo_hi _ _ _ (by omega) (by omega), List.singleton_append, rdGo, if_neg (by omega)]
  have e : (UInt8.ofNat (n % 128)).toNat = n % 128 := by
    rw [UInt8.toNat_ofNat']; omega
  rw [e, if_pos (by omega), List.length_append]
  simp
  omega
/-- What is cut off ends too early. -/
theorem rdGo_cut {most : Nat} : ∀ (m k i : Nat), m ≤ most / 128 → rdGo most ((hi m).take k) 0 i = (0, 0, 20) := by
  intro m
  induction m using Nat.strongRecOn with
  | _ m ih =>
    intro k i h
    by_cases h0 : m = 0
    · subst h0; simp [hi_zero, rdGo]
    · by_cases hk : k ≤ (hi (m / 128)).length
      · rw [hi_pos h0, List.take_append_of_le_length hk]
        exact ih _ (by omega) _ _ (by omega)
      · have hl : (hi m).length ≤ k := by rw [hi_pos h0, List.length_append]; simp; omega
        rw [List.take_of_length_le hl]
        have := rdGo_hi (most := most) m [] i (by omega) (by omega)
        rw [List.append_nil] at this
        rw [this]; rfl
theorem rd_cut {most n k : Nat} (h : n ≤ most) (hk : k < (enc n).length) : rd most ((enc n).take k) 0 = (0, 0, 20) := by
  have hl : (enc n).take k = (hi (n / 128)).take k := by
    rw [enc, List.length_append] at hk
    rw [enc, List.take_append_of_le_length (by simp at hk; omega)]
  unfold rd
  rw [List.drop_zero]
  have hh : ((enc n).take k).head? ≠ some 128 := by
    intro hc
    have := enc_head n []
    rw [List.append_nil] at this
    apply this
    rw [List.head?_take] at hc
    split at hc
    · cases hc
    · exact hc
  rw [if_neg hh, hl]
  exact rdGo_cut _ _ _ (by omega)
/-- In order. -/
theorem hi_mono : ∀ (b a : Nat), a ≤ b → (hi a).length ≤ (hi b).length := by
  intro b
  induction b using Nat.strongRecOn with
  | _ b ih =>
    intro a h
    by_cases h0 : a = 0
    · subst h0; simp [hi_zero]
    · rw [hi_pos h0, hi_pos (by omega : b ≠ 0), List.length_append, List.length_append]
      have := ih (b / 128) (by omega) (a / 128) (by omega)
      simp; omega
theorem lex_app {a b : List UInt8} (h : a < b) (hl : a.length = b.length) (c d : List UInt8) : a ++ c < b ++ d := by
  induction a generalizing b with
  | nil => cases b with
    | nil => exact absurd h (List.lt_irrefl _)
    | cons _ _ => simp at hl
  | cons x a ih =>
    cases b with
    | nil => simp at hl
    | cons y b =>
      rw [List.cons_lt_cons_iff] at h
      rw [List.cons_append, List.cons_append, List.cons_lt_cons_iff]
      rcases h with h | ⟨h1, h2⟩
      · exact .inl h
      · exact .inr ⟨h1, ih h2 (by simpa using hl)⟩
theorem lex_last {a : List UInt8} {c d : UInt8} (h : c < d) : a ++ [c] < a ++ [d] := by
  induction a with
  | nil => simpa [List.cons_lt_cons_iff] using h
  | cons x a ih => rw [List.cons_append, List.cons_append, List.cons_lt_cons_iff]; exact .inr ⟨rfl, ih⟩
theorem ofNat_lt {c d : Nat} (h : c < d) (hd : d < 256) : UInt8.ofNat c < UInt8.ofNat d := by
  rw [UInt8.lt_iff_toNat_lt, UInt8.toNat_ofNat', UInt8.toNat_ofNat']; omega
theorem hi_lex : ∀ (b a : Nat), a < b → (hi a).length < (hi b).length ∨ (hi a).length = (hi b).length ∧ hi a < hi b := by
  intro b
  induction b using Nat.strongRecOn with
  | _ b ih =>
    intro a h
    have hb := hi_pos (by omega : b ≠ 0)
    by_cases h0 : a = 0
    · subst h0; left; rw [hi_zero, hb, List.length_append]; simp
    · rw [hi_pos h0, hb, List.length_append, List.length_append]
      by_cases hq : a / 128 = b / 128
      · right
        refine ⟨by rw [hq]; simp, ?_⟩
        rw [hq]
        exact lex_last (ofNat_lt (by omega) (by omega))
      · rcases ih (b / 128) (by omega) (a / 128) (by omega) with h1 | ⟨h1, h2⟩
        · left; simp; omega
        · right; exact ⟨by simp; omega, lex_app h2 h1 _ _⟩
theorem enc_lex {a b : Nat} (h : a < b) : (enc a).length < (enc b).length ∨ (enc a).length = (enc b).length ∧ enc a < enc b := by
  rw [enc, enc, List.length_append, List.length_append]
  by_cases hq : a / 128 = b / 128
  · right
    refine ⟨by rw [hq]; simp, ?_⟩
    rw [hq]
    exact lex_last (ofNat_lt (by omega) (by omega))
  · rcases hi_lex (b / 128) (a / 128) (by omega) with h1 | ⟨h1, h2⟩
    · left; simp; omega
    · right; exact ⟨by simp; omega, lex_app h2 h1 _ _⟩
/-- A signed number, folded. -/
def zz (n : Int) : Nat := if n < 0 then (-2 * n - 1).toNat else (2 * n).toNat
def un (n : Nat) : Int := if n % 2 = 0 then (n / 2 : Nat) else -((n / 2 : Nat) : Int) - 1
theorem un_zz (n : Int) : un (zz n) = n := by
  unfold un zz
  split <;> split <;> omega
theorem zz_un (n : Nat) : zz (un n) = n := by
  unfold un zz
  split <;> split <;> omega
theorem zz_lt {n : Int} (h1 : -9223372036854775808 ≤ n) (h2 : n ≤ 9223372036854775807) : zz n < 18446744073709551616 := by
  unfold zz
  split <;> omega
end Vlq
end Go.Proofs.Ytipmphkmeiogoaa
/- Items as plain data: which may be, which bytes they are. -/
namespace Go.Proofs.Ytipmphkmeiogoaa
set_option linter.unusedVariables false
set_option maxRecDepth 8000
namespace Itm
/-- An item, field by field. -/
structure It where
  k : Int
  ek : ByteArray
  ea : Int
  ev : Int
  m : Int
  n : Int
  lo : Int
  hi : Int
  rk : ByteArray
  rn : Int
  rv : Int
abbrev no : ByteArray := ⟨#[]⟩
def eqS (a b : ByteArray) : Bool := a.toList == b.toList
/-- From lo to hi. -/
def wn (n lo hi : Int) : Bool := decide (lo ≤ n ∧ n ≤ hi)
theorem wn_true {n lo hi : Int} (h1 : lo ≤ n) (h2 : n ≤ hi) : wn n lo hi = true := decide_eq_true ⟨h1, h2⟩
theorem wn_lo {n lo hi : Int} (h : ¬ lo ≤ n) : wn n lo hi = false := decide_eq_false fun g => h g.1
theorem wn_hi {n lo hi : Int} (h : ¬ n ≤ hi) : wn n lo hi = false := decide_eq_false fun g => h g.2
def okKey (s : ByteArray) : Bool := wn s.size 1 16
def okEv (k : ByteArray) (a : Int) : Bool := okKey k && wn a 0 1099511627775
def okRes (k : ByteArray) (lo hi n : Int) : Bool := okKey k && decide (0 ≤ lo) && decide (lo < hi) && decide (hi ≤ 1099511627776) && wn n 1 1073741824
def eqE (k k' : ByteArray) (a v a' v' : Int) : Bool := eqS k k' && (a == a') && (v == v')
def eqR (k k' : ByteArray) (lo hi n v lo' hi' n' v' : Int) : Bool := (lo == lo') && (hi == hi') && eqS k k' && (n == n') && (v == v')
def eqI (a b : It) : Bool := (a.k == b.k) && eqE a.ek b.ek a.ea a.ev b.ea b.ev && (a.m == b.m) && (a.n == b.n) && eqR a.rk b.rk a.lo a.hi a.rn a.rv b.lo b.hi b.rn b.rv
abbrev bare (k : Int) : It := ⟨k, no, 0, 0, 0, 0, 0, 0, no, 0, 0⟩
/-- The value of an item, of an event, of a result. -/
abbrev evC (k : ByteArray) (a v : Int) : Array Value := #[.string k, .int .i64 a, .int .i64 v]
abbrev evV (k : ByteArray) (a v : Int) : Value := .agg (evC k a v)
abbrev resC (lo hi : Int) (k : ByteArray) (n v : Int) : Array Value := #[.int .i64 lo, .int .i64 hi, .string k, .int .i64 n, .int .i64 v]
abbrev resV (lo hi : Int) (k : ByteArray) (n v : Int) : Value := .agg (resC lo hi k n v)
abbrev itC (a : It) : Array Value := #[.int .i64 a.k, .string a.ek, .int .i64 a.ea, .int .i64 a.ev, .int .i64 a.m, .int .i64 a.n, .int .i64 a.lo, .int .i64 a.hi, .string a.rk, .int .i64 a.rn, .int .i64 a.rv]
abbrev itV (a : It) : Value := .agg (itC a)
def right (a : It) : Bool :=
  if a.k = 1 then okEv a.ek a.ea && eqI a { bare 1 with ek := a.ek, ea := a.ea, ev := a.ev }
  else if a.k = 2 then wn a.m 0 1099511627776 && eqI a { bare 2 with m := a.m }
  else if a.k = 3 then eqI a (bare 3)
  else if a.k = 4 then wn a.n 1 1073741824 && eqI a { bare 4 with n := a.n }
  else if a.k = 5 then okRes a.rk a.lo a.hi a.rn && eqI a { bare 5 with lo := a.lo, hi := a.hi, rk := a.rk, rn := a.rn, rv := a.rv }
  else false
end Itm
end Go.Proofs.Ytipmphkmeiogoaa
