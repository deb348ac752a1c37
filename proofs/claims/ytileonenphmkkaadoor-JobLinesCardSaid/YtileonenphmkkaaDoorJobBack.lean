/- A job's text is read as that job; what is read is its text; a line less, a line more. -/
import Derived.Test.YtileonenphmkkaaDoorJobMath
namespace Go.Proofs.YtileonenphmkkaaDoor
set_option linter.unusedVariables false
namespace Jo
open Go.Lib (decDigits)
theorem small_small {n : Nat} (h : n ≤ 1073741824) : small n = n := by unfold small; rw [if_neg (by omega)]
theorem small_le (n : Nat) : small n ≤ n := by unfold small; split <;> omega
theorem small_back {n : Nat} {m : Int} (h : small n = m) (hm : m < 1073741824) : (n : Int) = m := by
  unfold small at h; split at h <;> omega
/-- What a job that may be is made of. -/
structure Nats (j : Jb) (g a b k l f d i : Nat) : Prop where
  g : j.groups = g ∧ g ≤ 32
  a : j.size = a ∧ a ≤ 1048576
  b : j.slide = b ∧ b ≤ 1048576
  k : j.fold = k ∧ 1 ≤ k ∧ k ≤ 5
  l : j.limit = l
  f : j.fuel = f ∧ f ≤ 40
  d : j.delay = d ∧ d ≤ 1099511627776
  i : j.idle = i ∧ i ≤ 1048576
theorem right_nats {j : Jb} (h : right j = true) : ∃ g a b k l f d i, Nats j g a b k l f d i := by
  rw [right_iff] at h
  obtain ⟨h1, h2, h3, h4, h5, h6, h7⟩ := h
  unfold winOk at h2
  unfold foldOk at h3
  rw [decide_eq_true_eq] at h2 h3
  exact ⟨j.groups.toNat, j.size.toNat, j.slide.toNat, j.fold.toNat, j.limit.toNat, j.fuel.toNat, j.delay.toNat, j.idle.toNat, by omega, by omega, by omega, by omega, by omega, by omega, by omega, by omega⟩
theorem text_nats {j : Jb} {g a b k l f d i : Nat} (h : Nats j g a b k l f d i) : text j = tx1 wGroups g ++ (tx2 wWindow a b ++ (txF k ++ (tx2 wLoop l f ++ (tx1 wDelay d ++ (tx1 wIdle i ++ []))))) := by
  unfold text
  rw [h.g.1, h.a.1, h.b.1, h.k.1, h.l, h.f.1, h.d.1, h.i.1]
  simp
theorem parse_text {j : Jb} (h : right j = true) (hl : j.limit ≤ 9223372036854775807) : parse (text j) = .ok j := by
  obtain ⟨g, a, b, k, l, f, d, i, H⟩ := right_nats h
  have hl2 : l ≤ 9223372036854775807 := by have := H.l; omega
  have e : (⟨small g, a, b, k, small f, l, d, small i⟩ : Jb) = j := by
    rw [small_small (by have := H.g; omega), small_small (by have := H.f; omega), small_small (by have := H.i; omega)]
    obtain ⟨q1, q2, q3, q4, q5, q6, q7, q8⟩ := H
    cases j
    simp only at q1 q2 q3 q4 q5 q6 q7 q8
    rw [q1.1, q2.1, q3.1, q4.1, q5, q6.1, q7.1, q8.1]
  rw [text_nats H]
  unfold parse
  rw [ln1_tx _ _ (by have := H.g; omega)]
  simp only
  rw [ln2_tx _ _ (by have := H.a; omega) (by have := H.b; omega)]
  simp only
  rw [lnF_tx H.k.2.1 H.k.2.2]
  simp only
  rw [ln2_tx _ _ hl2 (by have := H.f; omega)]
  simp only
  rw [ln1_tx _ _ (by have := H.d; omega)]
  simp only
  rw [ln1_tx _ _ (by have := H.i; omega)]
  simp only
  rw [if_pos trivial, e, if_pos h]
/-- A text that is read, and more behind it: the seventh line. -/
theorem parse_more {j : Jb} (h : right j = true) (hl : j.limit ≤ 9223372036854775807) {m : List UInt8} (hm : m ≠ []) : parse (text j ++ m) = .line 7 := by
  obtain ⟨g, a, b, k, l, f, d, i, H⟩ := right_nats h
  have hl2 : l ≤ 9223372036854775807 := by have := H.l; omega
  rw [text_nats H]
  simp only [List.append_assoc, List.nil_append]
  unfold parse
  rw [ln1_tx _ _ (by have := H.g; omega)]
  simp only
  rw [ln2_tx _ _ (by have := H.a; omega) (by have := H.b; omega)]
  simp only
  rw [lnF_tx H.k.2.1 H.k.2.2]
  simp only
  rw [ln2_tx _ _ hl2 (by have := H.f; omega)]
  simp only
  rw [ln1_tx _ _ (by have := H.d; omega)]
  simp only
  rw [ln1_tx _ _ (by have := H.i; omega)]
  simp only
  rw [if_neg hm]
theorem parse_once {s : List UInt8} {j : Jb} (h : parse s = .ok j) : right j = true ∧ text j = s ∧ j.limit ≤ 9223372036854775807 := by
  unfold parse at h
  split at h
  · cases h
  · rename_i g s1 h1
    split at h
    · cases h
    · rename_i a b s2 h2
      split at h
      · cases h
      · rename_i k s3 h3
        split at h
        · cases h
        · rename_i l f s4 h4
          split at h
          · cases h
          · rename_i d s5 h5
            split at h
            · cases h
            · rename_i i s6 h6
              split at h
              · rename_i hs
                subst hs
                split at h
                · rename_i hr
                  injection h with h
                  subst h
                  have hr2 := (right_iff _).1 hr
                  simp only at hr2
                  have eg : small g = g := by have := small_back (n := g) rfl (by omega); omega
                  have ef : small f = f := by have := small_back (n := f) rfl (by omega); omega
                  have ei : small i = i := by have := small_back (n := i) rfl (by omega); omega
                  obtain ⟨q1, _⟩ := ln1_once h1
                  obtain ⟨q2, _⟩ := ln2_once h2
                  obtain ⟨q3, _⟩ := lnF_once h3
                  obtain ⟨q4, q4b, _⟩ := ln2_once h4
                  obtain ⟨q5, _⟩ := ln1_once h5
                  obtain ⟨q6, _⟩ := ln1_once h6
                  refine ⟨hr, ?_, by show (l : Int) ≤ _; omega⟩
                  rw [q1, q2, q3, q4, q5, q6]
                  unfold text
                  simp only [eg, ef, ei, Int.toNat_natCast]
                · cases h
              · cases h
/-- Without the line k (from 0 on): refused at the line k + 1. -/
theorem parse_less {j : Jb} (h : right j = true) (hl : j.limit ≤ 9223372036854775807) {k : Nat} (hk : k < 6) : parse ((lines j).eraseIdx k).flatten = .line (k + 1) := by
  obtain ⟨g, a, b, c, l, f, d, i, H⟩ := right_nats h
  have hl2 : l ≤ 9223372036854775807 := by have := H.l; omega
  have e : lines j = [tx1 wGroups g, tx2 wWindow a b, txF c, tx2 wLoop l f, tx1 wDelay d, tx1 wIdle i] := by
    unfold lines
    rw [H.g.1, H.a.1, H.b.1, H.k.1, H.l, H.f.1, H.d.1, H.i.1]
    simp
  rw [e]
  have hg := H.g.2; have ha := H.a.2; have hb := H.b.2; have hf := H.f.2; have hd := H.d.2; have hi := H.i.2
  have hk6 : k = 0 ∨ k = 1 ∨ k = 2 ∨ k = 3 ∨ k = 4 ∨ k = 5 := by omega
  rcases hk6 with rfl | rfl | rfl | rfl | rfl | rfl
  · simp only [List.eraseIdx_cons_zero, List.flatten_cons]
    unfold parse
    rw [ln1_other (a := 103) rfl (by simp [tx2])]
  · simp only [List.eraseIdx_cons_succ, List.eraseIdx_cons_zero, List.flatten_cons]
    unfold parse
    rw [ln1_tx _ _ (by omega)]
    simp only
    rw [ln2_other (a := 119) rfl (by simp [txF])]
  · simp only [List.eraseIdx_cons_succ, List.eraseIdx_cons_zero, List.flatten_cons]
    unfold parse
    rw [ln1_tx _ _ (by omega)]
    simp only
    rw [ln2_tx _ _ (by omega) (by omega)]
    simp only
    rw [lnF_other (by simp [tx2])]
  · simp only [List.eraseIdx_cons_succ, List.eraseIdx_cons_zero, List.flatten_cons]
    unfold parse
    rw [ln1_tx _ _ (by omega)]
    simp only
    rw [ln2_tx _ _ (by omega) (by omega)]
    simp only
    rw [lnF_tx H.k.2.1 H.k.2.2]
    simp only
    rw [ln2_other (a := 108) rfl (by simp [tx1])]
  · simp only [List.eraseIdx_cons_succ, List.eraseIdx_cons_zero, List.flatten_cons]
    unfold parse
    rw [ln1_tx _ _ (by omega)]
    simp only
    rw [ln2_tx _ _ (by omega) (by omega)]
    simp only
    rw [lnF_tx H.k.2.1 H.k.2.2]
    simp only
    rw [ln2_tx _ _ hl2 (by omega)]
    simp only
    rw [ln1_other (a := 100) rfl (by simp [tx1])]
  · simp only [List.eraseIdx_cons_succ, List.eraseIdx_cons_zero, List.flatten_cons]
    unfold parse
    rw [ln1_tx _ _ (by omega)]
    simp only
    rw [ln2_tx _ _ (by omega) (by omega)]
    simp only
    rw [lnF_tx H.k.2.1 H.k.2.2]
    simp only
    rw [ln2_tx _ _ hl2 (by omega)]
    simp only
    rw [ln1_tx _ _ (by omega)]
    simp only
    rw [ln1_other (a := 105) rfl (by simp)]
end Jo
end Go.Proofs.YtileonenphmkkaaDoor
