/- The plain mathematics of frames in a row of bytes: what is read at a place, what all of them are. -/
import Derived.Test.YtldaflofdbognaaSealMath
import Derived.Test.YtldaflofdbognaaVlqGet
namespace Go.Proofs.Ytldaflofdbognaa
open Vlq
set_option linter.unusedVariables false
set_option linter.unusedSimpArgs false
namespace Seal
/-- The parts of a frame at place i, as they are asked, of a number that was read. -/
def getBody (l : List UInt8) (i : Nat) (R : Nat × Nat × Nat) : List UInt8 × Nat × Nat :=
  if R.2.2 ≠ 0 then ([], 0, R.2.2) else if 8192 < R.1 then ([], 0, 2) else if l.length < R.2.1 + R.1 + 4 then ([], 0, 20)
  else if be4 (crc ((l.drop i).take (R.2.1 + R.1 - i))) = (l.drop (R.2.1 + R.1)).take 4 then ((l.drop R.2.1).take R.1, R.2.1 + R.1 + 4, 0) else ([], 0, 30)
def getF (l : List UInt8) (i : Nat) : List UInt8 × Nat × Nat :=
  match (l.drop i).head? with
  | none => ([], 0, 20)
  | some c => if c ≠ 166 then ([], 0, 21) else getBody l i (rd M1 l (i + 1))
theorem getF_none {l : List UInt8} {i : Nat} (h : l.length ≤ i) : getF l i = ([], 0, 20) := by
  unfold getF; rw [List.drop_of_length_le h]; rfl
theorem drop_at {l : List UInt8} {i : Nat} (h : i < l.length) : l.drop i = l[i] :: l.drop (i + 1) := List.drop_eq_getElem_cons h
theorem getF_form {l : List UInt8} {i : Nat} (h : i < l.length) (h2 : l[i] ≠ 166) : getF l i = ([], 0, 21) := by
  unfold getF; rw [drop_at h]; exact if_pos h2
theorem getF_some {l : List UInt8} {i : Nat} (h : i < l.length) (h2 : l[i] = 166) : getF l i = getBody l i (rd M1 l (i + 1)) := by
  unfold getF; rw [drop_at h]; exact if_neg (fun h => h h2)
theorem M1_mod : M1 % 128 = 127 := by decide
/-- What is right about what is read. -/
theorem getBody_bad {l : List UInt8} {i : Nat} {R : Nat × Nat × Nat} (h : (getBody l i R).2.2 ≠ 0) : getBody l i R = ([], 0, (getBody l i R).2.2) := by
  unfold getBody at h ⊢
  split
  · rfl
  · split
    · rfl
    · split
      · rfl
      · split
        · rename_i a b c d
          rw [if_neg a, if_neg b, if_neg c, if_pos d] at h
          exact absurd rfl h
        · rfl
theorem getF_bad {l : List UInt8} {i : Nat} (h : (getF l i).2.2 ≠ 0) : getF l i = ([], 0, (getF l i).2.2) := by
  unfold getF at h ⊢
  cases hh : (l.drop i).head? with
  | none => rfl
  | some c =>
    rw [hh] at h
    dsimp only at h ⊢
    split
    · rfl
    · rename_i hc
      rw [if_neg hc] at h
      exact getBody_bad h
theorem getF_ok {l : List UInt8} {i : Nat} (h : (getF l i).2.2 = 0) : ∃ n f, i < l.length ∧ rd M1 l (i + 1) = (n, f, 0) ∧ n ≤ 8192 ∧ i + 1 < f ∧ f + n + 4 ≤ l.length ∧
    getF l i = ((l.drop f).take n, f + n + 4, 0) ∧ (l.drop i).take (f + n + 4 - i) = frame ((l.drop f).take n) := by
  by_cases hi : l.length ≤ i
  · rw [getF_none hi] at h; simp at h
  · have hi' : i < l.length := by omega
    by_cases hc : l[i] = 166
    · rw [getF_some hi' hc] at h ⊢
      obtain ⟨⟨n, f, e⟩, hR⟩ : ∃ R, R = rd M1 l (i + 1) := ⟨_, rfl⟩
      rw [← hR] at h ⊢
      unfold getBody at h ⊢
      dsimp only at h ⊢
      by_cases h1 : e ≠ 0
      · rw [if_pos h1] at h; exact absurd h h1
      · rw [if_neg h1] at h ⊢
        have h1 : e = 0 := by omega
        subst h1
        obtain ⟨g1, g2, g3, g4⟩ := rd_once M1_mod hR.symm
        by_cases h2 : 8192 < n
        · rw [if_pos h2] at h; simp at h
        · rw [if_neg h2] at h ⊢
          by_cases h3 : l.length < f + n + 4
          · rw [if_pos h3] at h; simp at h
          · rw [if_neg h3] at h ⊢
            by_cases h4 : be4 (crc ((l.drop i).take (f + n - i))) = (l.drop (f + n)).take 4
            · rw [if_pos h4]
              refine ⟨n, f, hi', rfl, by omega, g1, by omega, rfl, ?_⟩
              have hb : ((l.drop f).take n).length = n := by rw [List.length_take, List.length_drop]; omega
              have hh : (l.drop i).take (f + n - i) = head ((l.drop f).take n) := by
                rw [head, hb, ← g4, drop_at hi', hc, show f + n - i = ((f - (i + 1)) + n) + 1 by omega, List.take_succ_cons, List.take_add, List.drop_drop,
                  show i + 1 + (f - (i + 1)) = f by omega]
              rw [frame, ← hh, h4, show f + n + 4 - i = (f + n - i) + 4 by omega, List.take_add, List.drop_drop, show i + (f + n - i) = f + n by omega]
            · rw [if_neg h4] at h; simp at h
    · rw [getF_form hi' hc] at h; simp at h
theorem getF_next {l : List UInt8} {i : Nat} (h : (getF l i).2.2 = 0) : i < (getF l i).2.1 ∧ (getF l i).2.1 ≤ l.length ∧ (getF l i).1.length ≤ 8192 ∧ (l.drop i).take ((getF l i).2.1 - i) = frame (getF l i).1 := by
  obtain ⟨n, f, h1, h2, h3, h4, h5, h6, h7⟩ := getF_ok h
  rw [h6]
  dsimp only
  refine ⟨by omega, by omega, ?_, h7⟩
  rw [List.length_take]; omega
theorem head_len (b : List UInt8) : (head b).length = 1 + (enc b.length).length + b.length := by simp [head]; omega
theorem frame_len (b : List UInt8) : (frame b).length = 1 + (enc b.length).length + b.length + 4 := by rw [frame, List.length_append, head_len, be4_len]
theorem frame_bd (b : List UInt8) (h : b.length ≤ 8192) : 6 + b.length ≤ (frame b).length ∧ (frame b).length ≤ b.length + 15 := by
  rw [frame_len]
  have h1 := enc_pos b.length
  have h2 := enc_len b.length (by omega)
  omega
theorem M1_val : M1 = 9223372036854775807 := rfl
/-- The parts of a frame that stands somewhere, whatever its last four bytes are. -/
theorem getF_at (x b q y : List UInt8) (hb : b.length ≤ 8192) (hq : q.length = 4) :
    getF (x ++ (head b ++ (q ++ y))) x.length = if be4 (crc (head b)) = q then (b, x.length + (head b).length + 4, 0) else ([], 0, 30) := by
  have hl : x.length < (x ++ (head b ++ (q ++ y))).length := by rw [List.length_append, List.length_append, head_len]; omega
  have h0 : (x ++ (head b ++ (q ++ y)))[x.length] = 166 := by
    rw [List.getElem_append_right (Nat.le_refl _)]; simp [head]
  have e1 : x ++ (head b ++ (q ++ y)) = (x ++ [166]) ++ (enc b.length ++ (b ++ (q ++ y))) := by simp [head]
  have hr : rd M1 (x ++ (head b ++ (q ++ y))) (x.length + 1) = (b.length, x.length + 1 + (enc b.length).length, 0) := by
    have h := rd_enc (most := M1) (n := b.length) (by rw [M1_val]; omega) (x ++ [166]) (b ++ (q ++ y))
    rw [e1]
    simpa using h
  have hf : x.length + 1 + (enc b.length).length + b.length = x.length + (head b).length := by rw [head_len]; omega
  rw [getF_some hl h0, hr]
  unfold getBody
  dsimp only
  rw [if_neg (by omega), if_neg (by omega), hf, if_neg (by rw [List.length_append, List.length_append, List.length_append]; omega)]
  have e2 : ((x ++ (head b ++ (q ++ y))).drop x.length).take (x.length + (head b).length - x.length) = head b := by
    rw [List.drop_left, Nat.add_sub_cancel_left, List.take_left]
  have e3 : ((x ++ (head b ++ (q ++ y))).drop (x.length + (head b).length)).take 4 = q := by
    rw [← List.drop_drop, List.drop_left, List.drop_left, ← hq, List.take_left]
  have e4 : ((x ++ (head b ++ (q ++ y))).drop (x.length + 1 + (enc b.length).length)).take b.length = b := by
    rw [e1, show x.length + 1 + (enc b.length).length = (x ++ [166]).length + (enc b.length).length by simp, ← List.drop_drop, List.drop_left, List.drop_left, List.take_left]
  rw [e2, e3, e4]
theorem getF_frame (x b y : List UInt8) (hb : b.length ≤ 8192) : getF (x ++ (frame b ++ y)) x.length = (b, x.length + (frame b).length, 0) := by
  have h := getF_at x b (be4 (crc (head b))) y hb (be4_len _)
  rw [if_pos rfl] at h
  rw [frame, List.append_assoc, h, List.length_append, be4_len, Nat.add_assoc]
theorem getF_torn (b : List UInt8) (hb : b.length ≤ 8192) (a pt j : Nat) (hj : j ≤ 32) (ha : a + j ≤ 8 * (b.length + 4)) (hx : ∃ i, i < j ∧ pt / 2 ^ i % 2 = 1) :
    getF (166 :: (enc b.length ++ torn (b ++ be4 (crc (head b))) a pt j)) 0 = ([], 0, 30) := by
  obtain ⟨T, hT⟩ : ∃ T, T = torn (b ++ be4 (crc (head b))) a pt j := ⟨_, rfl⟩
  have hl : T.length = b.length + 4 := by rw [hT, torn_len, List.length_append, be4_len]
  have hs : T = T.take b.length ++ T.drop b.length := (List.take_append_drop _ _).symm
  have h1 : (T.take b.length).length = b.length := by rw [List.length_take]; omega
  have h2 : (T.drop b.length).length = 4 := by rw [List.length_drop]; omega
  have e0 : ∀ c : List UInt8, head c = (166 :: enc c.length) ++ c := fun c => by simp [head]
  have hne := torn_ne (166 :: enc b.length) b a pt j hj ha hx (T.take b.length) (T.drop b.length) (by rw [← e0, ← hT]; exact hs)
  rw [← hT]
  have h := getF_at [] (T.take b.length) (T.drop b.length) [] (by omega) h2
  rw [if_neg (by rw [e0, h1]; exact hne), e0, h1, List.append_nil, List.append_assoc, ← hs] at h
  exact h
/-- A frame that is cut off. -/
theorem take_pre {a b : List UInt8} {k : Nat} (h : k ≤ a.length) : (a ++ b).take k = a.take k := List.take_append_of_le_length h
theorem rdGo_base {M : Nat} : ∀ (l : List UInt8) (n i j : Nat), rdGo M l n i = (0, 0, 20) → rdGo M l n j = (0, 0, 20)
  | [], _, _, _, _ => rfl
  | c :: l, n, i, j, h => by
    unfold rdGo at h ⊢
    split at h
    · simp at h
    · split at h
      · simp at h
      · rename_i h1 h2
        rw [if_neg h1, if_neg h2]
        exact rdGo_base l _ _ _ h
theorem getF_cut (b : List UInt8) (hb : b.length ≤ 8192) (k : Nat) (hk : k < (frame b).length) : getF ((frame b).take k) 0 = ([], 0, 20) := by
  rcases Nat.eq_zero_or_pos k with h0 | h0
  · subst h0; exact getF_none (by simp)
  · have hl : ((frame b).take k).length = k := by rw [List.length_take]; omega
    have hfr : frame b = 166 :: (enc b.length ++ (b ++ be4 (crc (head b)))) := by simp [frame, head]
    obtain ⟨m, rfl⟩ : ∃ m, k = m + 1 := ⟨k - 1, by omega⟩
    have hf1 : (frame b).take (m + 1) = 166 :: (enc b.length ++ (b ++ be4 (crc (head b)))).take m := by rw [hfr, List.take_succ_cons]
    rw [getF_some (by omega) (by simp [hf1])]
    have hsh : rd M1 ((frame b).take (m + 1)) (0 + 1) = (if m < (enc b.length).length then (0, 0, 20) else (b.length, 1 + (enc b.length).length, 0)) := by
      rw [hf1]
      split
      · rename_i h
        have hc := rd_cut (most := M1) (n := b.length) (k := m) (by rw [M1_val]; omega) h
        unfold rd at hc ⊢
        rw [take_pre (by omega)]
        rw [List.drop_zero] at hc
        rw [List.drop_succ_cons, List.drop_zero]
        split at hc
        · simp at hc
        · rename_i h2
          rw [if_neg h2]
          exact rdGo_base _ _ _ _ hc
      · rename_i h
        have he := rd_enc (most := M1) (n := b.length) (by rw [M1_val]; omega) [166] ((b ++ be4 (crc (head b))).take (m - (enc b.length).length))
        rw [List.take_append, List.take_of_length_le (by omega)]
        simpa using he
    rw [hsh]
    split
    · rfl
    · unfold getBody
      dsimp only
      rw [if_neg (by omega), if_neg (by omega), if_pos]
      rw [hl, frame_len] at *
      omega
end Seal
end Go.Proofs.Ytldaflofdbognaa
