/- ItemCut, put together. -/
import Derived.Test.YthfbcfddfbipfaaZ11
/- Items' bytes: with one byte less they end too early; what is read was written so. -/
namespace Go.Proofs.Ythfbcfddfbipfaa
open Go.RowKit
open Itm Vlq
set_option linter.unusedVariables false
set_option maxRecDepth 8000
/-- The last byte of a number cut off, wherever the number stands. -/
theorem rd_last {most n : Nat} (h : n ≤ most) (pre : List UInt8) : rd most (pre ++ (enc n).take ((enc n).length - 1)) pre.length = (0, 0, 20) := by
  have hp := enc_pos n
  have hl : (enc n).take ((enc n).length - 1) = (hi (n / 128)).take ((enc n).length - 1) := by
    have e : (enc n).length = (hi (n / 128)).length + 1 := by rw [enc, List.length_append]; rfl
    rw [e, Nat.add_sub_cancel, enc, List.take_append_of_le_length (Nat.le_refl _)]
  have hh : ((enc n).take ((enc n).length - 1)).head? ≠ some 128 := by
    intro hc
    have := enc_head n []
    rw [List.append_nil] at this
    apply this
    rw [List.head?_take] at hc
    split at hc
    · cases hc
    · exact hc
  unfold rd
  rw [List.drop_left, if_neg hh, hl]
  exact rdGo_cut _ _ _ (by omega)
theorem numS_cut {s : ByteArray} {pre : List UInt8} {n : Nat} (hl : sl s = pre ++ (enc n).take ((enc n).length - 1)) (hn : n ≤ M1) : numS s (pre.length, 0) = (0, 0, 20) := by
  unfold numS
  rw [if_pos rfl, hl]
  exact rd_last hn pre
theorem sgnS_cut {s : ByteArray} {pre : List UInt8} {n : Nat} (hl : sl s = pre ++ (enc n).take ((enc n).length - 1)) (hn : n ≤ M2) : sgnS s (pre.length, 0) = (0, 0, 20) := by
  unfold sgnS
  rw [if_pos rfl, hl]
  exact rd_last hn pre
theorem take_last (pre : List UInt8) (n : Nat) : (pre ++ enc n).take ((pre ++ enc n).length - 1) = pre ++ (enc n).take ((enc n).length - 1) := by
  have hp := enc_pos n
  rw [List.length_append, show pre.length + (enc n).length - 1 = pre.length + ((enc n).length - 1) by omega, List.take_length_add_append]
/-- What is read where it stands, something behind it. -/
theorem getP_cut {s : ByteArray} {a : It} (hr : right a = true) (hf : Fits a) (hl : sl s = (itB a).take ((itB a).length - 1)) : (getP s).2 = (0, 20) := by
  have hk0 : ∀ n : Nat, n ≤ 5 → n ≤ M1 := fun n h => by rw [M1_val]; omega
  rcases right_form hr with ⟨e, h⟩ | ⟨e, h⟩ | e | ⟨e, h⟩ | ⟨e, h⟩
  · obtain ⟨p1, p2, p3⟩ := ev_parts h
    obtain ⟨v0, v1, _, _⟩ := hf
    obtain ⟨k, ek, ea, ev, m, n, lo, hi, rk, rn, rv⟩ := a
    simp only [It.mk.injEq] at e
    obtain ⟨rfl, -, -, -, rfl, rfl, rfl, rfl, rfl, rfl, rfl⟩ := e
    simp only at p1 p2 p3 v0 v1
    have hB : itB (⟨1, ek, ea, ev, 0, 0, 0, 0, no, 0, 0⟩ : It) = (enc 1 ++ (enc ek.size ++ sl ek) ++ enc ea.toNat) ++ enc (zz ev) := by simp [itB, evB]
    rw [hB, take_last] at hl
    have q0 := numS_enc (s := s) (pre := []) (n := 1) (post := (enc ek.size ++ sl ek) ++ enc ea.toNat ++ (enc (zz ev)).take ((enc (zz ev)).length - 1)) (by rw [hl]; simp) (hk0 1 (by omega))
    have q1 := txtS_enc (s := s) (k := ek) (pre := enc 1) (post := enc ea.toNat ++ (enc (zz ev)).take ((enc (zz ev)).length - 1)) (by rw [hl]; simp) p1
    have q2 := numS_enc (s := s) (pre := enc 1 ++ (enc ek.size ++ sl ek)) (n := ea.toNat) (post := (enc (zz ev)).take ((enc (zz ev)).length - 1)) (by rw [hl]; simp) (by rw [M1_val]; omega)
    have q3 := sgnS_cut (s := s) (pre := enc 1 ++ (enc ek.size ++ sl ek) ++ enc ea.toNat) (n := zz ev) hl (by have := zz_lt v0 v1; rw [M2_val]; omega)
    simp only [List.length_nil, Nat.zero_add] at q0
    rw [List.length_append] at q2
    rw [List.length_append, List.length_append] at q3
    unfold getP
    simp only [q0, q1, q2, q3, if_true]
  · obtain ⟨p1, p2⟩ := wn_iff.1 h
    obtain ⟨k, ek, ea, ev, m, n, lo, hi, rk, rn, rv⟩ := a
    simp only [It.mk.injEq] at e
    obtain ⟨rfl, rfl, rfl, rfl, -, rfl, rfl, rfl, rfl, rfl, rfl⟩ := e
    simp only at p1 p2
    have hB : itB (⟨2, no, 0, 0, m, 0, 0, 0, no, 0, 0⟩ : It) = enc 2 ++ enc m.toNat := by simp [itB]
    rw [hB, take_last] at hl
    have q0 := numS_enc (s := s) (pre := []) (n := 2) (post := (enc m.toNat).take ((enc m.toNat).length - 1)) (by rw [hl]; simp) (hk0 2 (by omega))
    have q1 := numS_cut (s := s) (pre := enc 2) (n := m.toNat) hl (by rw [M1_val]; omega)
    simp only [List.length_nil, Nat.zero_add] at q0
    unfold getP
    simp only [q0, q1, show ¬ (2 : Nat) = 1 by omega, if_true, if_false]
  · rw [e] at hl
    have hB : itB (bare 3) = [] ++ enc 3 := by simp [itB]
    rw [hB, take_last] at hl
    have q0 := numS_cut (s := s) (pre := []) (n := 3) hl (hk0 3 (by omega))
    simp only [List.length_nil] at q0
    unfold getP
    simp [q0]
  · obtain ⟨p1, p2⟩ := wn_iff.1 h
    obtain ⟨k, ek, ea, ev, m, n, lo, hi, rk, rn, rv⟩ := a
    simp only [It.mk.injEq] at e
    obtain ⟨rfl, rfl, rfl, rfl, rfl, -, rfl, rfl, rfl, rfl, rfl⟩ := e
    simp only at p1 p2
    have hB : itB (⟨4, no, 0, 0, 0, n, 0, 0, no, 0, 0⟩ : It) = enc 4 ++ enc n.toNat := by simp [itB]
    rw [hB, take_last] at hl
    have q0 := numS_enc (s := s) (pre := []) (n := 4) (post := (enc n.toNat).take ((enc n.toNat).length - 1)) (by rw [hl]; simp) (hk0 4 (by omega))
    have q1 := numS_cut (s := s) (pre := enc 4) (n := n.toNat) hl (by rw [M1_val]; omega)
    simp only [List.length_nil, Nat.zero_add] at q0
    unfold getP
    simp only [q0, q1, show ¬ (4 : Nat) = 1 by omega, show ¬ (4 : Nat) = 2 by omega, show ¬ (4 : Nat) = 3 by omega, if_true, if_false]
  · obtain ⟨p1, p2, p3, p4, p5, p6⟩ := res_parts h
    obtain ⟨_, _, v0, v1⟩ := hf
    obtain ⟨k, ek, ea, ev, m, n, lo, hi, rk, rn, rv⟩ := a
    simp only [It.mk.injEq] at e
    obtain ⟨rfl, rfl, rfl, rfl, rfl, rfl, -, -, -, -, -⟩ := e
    simp only at p1 p2 p3 p4 p5 p6 v0 v1
    have hB : itB (⟨5, no, 0, 0, 0, 0, lo, hi, rk, rn, rv⟩ : It) = (enc 5 ++ (enc rk.size ++ sl rk) ++ enc lo.toNat ++ enc hi.toNat ++ enc rn.toNat) ++ enc (zz rv) := by simp [itB, resB]
    rw [hB, take_last] at hl
    obtain ⟨post, hpost⟩ : ∃ post, post = (enc (zz rv)).take ((enc (zz rv)).length - 1) := ⟨_, rfl⟩
    have q5 := sgnS_cut (s := s) (pre := enc 5 ++ (enc rk.size ++ sl rk) ++ enc lo.toNat ++ enc hi.toNat ++ enc rn.toNat) (n := zz rv) hl (by have := zz_lt v0 v1; rw [M2_val]; omega)
    rw [← hpost] at hl
    have q0 := numS_enc (s := s) (pre := []) (n := 5) (post := ((enc rk.size ++ sl rk) ++ enc lo.toNat ++ enc hi.toNat ++ enc rn.toNat) ++ post) (by rw [hl]; simp) (hk0 5 (by omega))
    have q1 := txtS_enc (s := s) (k := rk) (pre := enc 5) (post := enc lo.toNat ++ enc hi.toNat ++ enc rn.toNat ++ post) (by rw [hl]; simp) p1
    have q2 := numS_enc (s := s) (pre := enc 5 ++ (enc rk.size ++ sl rk)) (n := lo.toNat) (post := enc hi.toNat ++ enc rn.toNat ++ post) (by rw [hl]; simp) (by rw [M1_val]; omega)
    have q3 := numS_enc (s := s) (pre := enc 5 ++ (enc rk.size ++ sl rk) ++ enc lo.toNat) (n := hi.toNat) (post := enc rn.toNat ++ post) (by rw [hl]; simp) (by rw [M1_val]; omega)
    have q4 := numS_enc (s := s) (pre := enc 5 ++ (enc rk.size ++ sl rk) ++ enc lo.toNat ++ enc hi.toNat) (n := rn.toNat) (post := post) (by rw [hl]; simp) (by rw [M1_val]; omega)
    simp only [List.length_nil, Nat.zero_add] at q0
    rw [List.length_append] at q2
    rw [List.length_append, List.length_append] at q3
    rw [List.length_append, List.length_append, List.length_append] at q4
    rw [List.length_append, List.length_append, List.length_append, List.length_append] at q5
    unfold getP
    simp only [q0, q1, q2, q3, q4, q5, show ¬ (5 : Nat) = 1 by omega, show ¬ (5 : Nat) = 2 by omega, show ¬ (5 : Nat) = 3 by omega, show ¬ (5 : Nat) = 4 by omega, if_true, if_false]
theorem getF_cut {s : ByteArray} {a : It} (hr : right a = true) (hf : Fits a) (hl : sl s = (itB a).take ((itB a).length - 1)) : getF s = (bare 0, 20) := by
  have h := getP_cut hr hf hl
  unfold getF fin
  rw [h]
  rw [if_pos (by simp)]
/-- A piece of bytes. -/
def piece (l : List UInt8) (i j : Nat) : List UInt8 := (l.drop i).take (j - i)
theorem piece_join {l : List UInt8} {i j k : Nat} (h1 : i ≤ j) (h2 : j ≤ k) : piece l i j ++ piece l j k = piece l i k := by
  unfold piece
  rw [show k - i = (j - i) + (k - j) by omega, List.take_add, List.drop_drop, show i + (j - i) = j by omega]
theorem numS_once {s : ByteArray} {p x q c : Nat} {c0 : Nat} (h : numS s (p, c0) = (x, q, c)) (hc : c = 0) : c0 = 0 ∧ p < q ∧ q ≤ s.size ∧ x ≤ M1 ∧ piece (sl s) p q = enc x := by
  subst hc
  unfold numS at h
  by_cases h0 : c0 = 0
  · rw [if_pos h0] at h
    obtain ⟨a1, a2, a3, a4⟩ := rd_once (by decide) h
    rw [sl_len] at a2
    exact ⟨h0, a1, a2, a3, a4⟩
  · rw [if_neg h0] at h
    simp only [Prod.mk.injEq] at h
    exact absurd h.2.2 h0
theorem sgnS_once {s : ByteArray} {p x q c : Nat} {c0 : Nat} (h : sgnS s (p, c0) = (x, q, c)) (hc : c = 0) : c0 = 0 ∧ p < q ∧ q ≤ s.size ∧ x ≤ M2 ∧ piece (sl s) p q = enc x := by
  subst hc
  unfold sgnS at h
  by_cases h0 : c0 = 0
  · rw [if_pos h0] at h
    obtain ⟨a1, a2, a3, a4⟩ := rd_once (by decide) h
    rw [sl_len] at a2
    exact ⟨h0, a1, a2, a3, a4⟩
  · rw [if_neg h0] at h
    simp only [Prod.mk.injEq] at h
    exact absurd h.2.2 h0
theorem txtS_once {s : ByteArray} {p q c : Nat} {t : List UInt8} {c0 : Nat} (h : txtS s (p, c0) = (t, q, c)) (hc : c = 0) : c0 = 0 ∧ p ≤ q ∧ q ≤ s.size ∧ piece (sl s) p q = enc t.length ++ t := by
  subst hc
  unfold txtS at h
  by_cases h0 : c0 = 0
  · rw [if_pos h0] at h
    refine ⟨h0, ?_⟩
    rcases rt_ways s p _ rfl with ⟨hb, e⟩ | ⟨h1, h2, ⟨_, e⟩ | ⟨h3, ⟨_, e⟩ | ⟨h4, e, e2⟩⟩⟩
    · rw [show rt (sl s) p = (t, q, 0) from h] at e
      simp only [Prod.mk.injEq] at e
      exact absurd e.2.2.symm hb
    · rw [show rt (sl s) p = (t, q, 0) from h] at e
      simp at e
    · rw [show rt (sl s) p = (t, q, 0) from h] at e
      simp at e
    · rw [show rt (sl s) p = (t, q, 0) from h] at e e2
      simp only [Prod.mk.injEq, and_true] at e2
      obtain ⟨n, f, hr⟩ : ∃ n f, rd M1 (sl s) p = (n, f, 0) := ⟨_, _, by rw [← h1]⟩
      rw [hr] at e e2 h4
      simp only at e e2 h4
      obtain ⟨a1, a2, a3, a4⟩ := rd_once (most := M1) (by decide) hr
      have ht : t = piece (sl s) f (f + n) := by
        have := congrArg sl e
        rw [cut_eq] at this
        exact this
      have htl : t.length = n := by rw [ht, piece, List.length_take, List.length_drop, sl_len]; omega
      refine ⟨by omega, by omega, ?_⟩
      rw [e2, ← piece_join (j := f) (by omega) (by omega), ← ht, htl]
      exact congrArg (· ++ t) a4
  · rw [if_neg h0] at h
    simp only [Prod.mk.injEq] at h
    exact absurd h.2.2 h0
theorem piece_all {s : ByteArray} {q : Nat} (h : ¬ q < s.size) : piece (sl s) 0 q = sl s := by
  unfold piece
  rw [List.drop_zero, Nat.sub_zero, List.take_of_length_le (by rw [sl_len]; omega)]
theorem un_fit {n : Nat} (h : n ≤ M2) : -9223372036854775808 ≤ un n ∧ un n ≤ 9223372036854775807 := by
  rw [M2_val] at h
  unfold un
  split <;> omega
theorem fin_ok {s : ByteArray} {a b : It} {i c : Nat} (h : fin s a i c = (b, 0)) : c = 0 ∧ ¬ i < s.size ∧ right a = true ∧ b = a := by
  unfold fin at h
  split at h
  · simp only [Prod.mk.injEq] at h; omega
  · split at h
    · simp at h
    · split at h
      · simp only [Prod.mk.injEq, and_true] at h; exact ⟨by omega, by assumption, by assumption, h.symm⟩
      · simp at h
theorem fin_bad {s : ByteArray} {a : It} {i c : Nat} (h : (fin s a i c).2 ≠ 0) : (fin s a i c).1 = bare 0 := by
  unfold fin at h ⊢
  split
  · rfl
  · split
    · rfl
    · split
      · rw [if_neg (by assumption), if_neg (by assumption), if_pos (by assumption)] at h
        exact absurd rfl h
      · rfl
/-- What is read was written so. -/
theorem getP_once {s : ByteArray} {a : It} {q : Nat} (h : getP s = (a, q, 0)) (hr : right a = true) (hq : ¬ q < s.size) : Fits a ∧ sl s = itB a := by
  obtain ⟨⟨x, k1, c1⟩, hK⟩ : ∃ K, numS s (0, 0) = K := ⟨_, rfl⟩
  have hs := piece_all (s := s) hq
  unfold getP at h
  simp only [hK] at h
  by_cases h1 : x = 1
  · subst h1
    simp only [if_true] at h
    obtain ⟨⟨t, p2, c2⟩, hA⟩ : ∃ K, txtS s (k1, c1) = K := ⟨_, rfl⟩
    rw [hA] at h; simp only at h
    obtain ⟨⟨v1, p3, c3⟩, hB⟩ : ∃ K, numS s (p2, c2) = K := ⟨_, rfl⟩
    rw [hB] at h; simp only at h
    obtain ⟨⟨v2, p4, c4⟩, hC⟩ : ∃ K, sgnS s (p3, c3) = K := ⟨_, rfl⟩
    rw [hC] at h; simp only [Prod.mk.injEq] at h
    obtain ⟨rfl, rfl, rfl⟩ := h
    obtain ⟨rfl, o1, o2, o3, o4⟩ := sgnS_once hC rfl
    obtain ⟨rfl, n1, n2, n3, n4⟩ := numS_once hB rfl
    obtain ⟨rfl, t1, t2, t4⟩ := txtS_once hA rfl
    obtain ⟨_, m1, m2, m3, m4⟩ := numS_once hK rfl
    refine ⟨⟨(un_fit o3).1, (un_fit o3).2, by simp, by simp⟩, ?_⟩
    rw [← hs, ← piece_join (j := k1) (by omega) (by omega), ← piece_join (i := k1) (j := p2) (by omega) (by omega), ← piece_join (i := p2) (j := p3) (by omega) (by omega), m4, t4, n4, o4]
    have e : (⟨t.toArray⟩ : ByteArray).size = t.length := by rw [Lib.size_eq]
    simp [itB, evB, zz_un, e]
  by_cases h2 : x = 2
  · subst h2
    simp only [show ¬ (2 : Nat) = 1 by omega, if_true, if_false] at h
    obtain ⟨⟨v1, p3, c3⟩, hB⟩ : ∃ K, numS s (k1, c1) = K := ⟨_, rfl⟩
    rw [hB] at h; simp only [Prod.mk.injEq] at h
    obtain ⟨rfl, rfl, rfl⟩ := h
    obtain ⟨rfl, n1, n2, n3, n4⟩ := numS_once hB rfl
    obtain ⟨_, m1, m2, m3, m4⟩ := numS_once hK rfl
    refine ⟨⟨by simp, by simp, by simp, by simp⟩, ?_⟩
    rw [← hs, ← piece_join (j := k1) (by omega) (by omega), m4, n4]
    simp [itB]
  by_cases h3 : x = 3
  · subst h3
    simp only [show ¬ (3 : Nat) = 1 by omega, show ¬ (3 : Nat) = 2 by omega, if_true, if_false, Prod.mk.injEq] at h
    obtain ⟨rfl, rfl, rfl⟩ := h
    obtain ⟨_, m1, m2, m3, m4⟩ := numS_once hK rfl
    refine ⟨⟨by simp, by simp, by simp, by simp⟩, ?_⟩
    rw [← hs, m4]
    simp [itB]
  by_cases h4 : x = 4
  · subst h4
    simp only [show ¬ (4 : Nat) = 1 by omega, show ¬ (4 : Nat) = 2 by omega, show ¬ (4 : Nat) = 3 by omega, if_true, if_false] at h
    obtain ⟨⟨v1, p3, c3⟩, hB⟩ : ∃ K, numS s (k1, c1) = K := ⟨_, rfl⟩
    rw [hB] at h; simp only [Prod.mk.injEq] at h
    obtain ⟨rfl, rfl, rfl⟩ := h
    obtain ⟨rfl, n1, n2, n3, n4⟩ := numS_once hB rfl
    obtain ⟨_, m1, m2, m3, m4⟩ := numS_once hK rfl
    refine ⟨⟨by simp, by simp, by simp, by simp⟩, ?_⟩
    rw [← hs, ← piece_join (j := k1) (by omega) (by omega), m4, n4]
    simp [itB]
  by_cases h5 : x = 5
  · subst h5
    simp only [show ¬ (5 : Nat) = 1 by omega, show ¬ (5 : Nat) = 2 by omega, show ¬ (5 : Nat) = 3 by omega, show ¬ (5 : Nat) = 4 by omega, if_true, if_false] at h
    obtain ⟨⟨t, p2, c2⟩, hA⟩ : ∃ K, txtS s (k1, c1) = K := ⟨_, rfl⟩
    rw [hA] at h; simp only at h
    obtain ⟨⟨v1, p3, c3⟩, hB⟩ : ∃ K, numS s (p2, c2) = K := ⟨_, rfl⟩
    rw [hB] at h; simp only at h
    obtain ⟨⟨v2, p4, c4⟩, hC⟩ : ∃ K, numS s (p3, c3) = K := ⟨_, rfl⟩
    rw [hC] at h; simp only at h
    obtain ⟨⟨v3, p5, c5⟩, hD⟩ : ∃ K, numS s (p4, c4) = K := ⟨_, rfl⟩
    rw [hD] at h; simp only at h
    obtain ⟨⟨v4, p6, c6⟩, hE⟩ : ∃ K, sgnS s (p5, c5) = K := ⟨_, rfl⟩
    rw [hE] at h; simp only [Prod.mk.injEq] at h
    obtain ⟨rfl, rfl, rfl⟩ := h
    obtain ⟨rfl, o1, o2, o3, o4⟩ := sgnS_once hE rfl
    obtain ⟨rfl, d1, d2, d3, d4⟩ := numS_once hD rfl
    obtain ⟨rfl, e1, e2, e3, e4⟩ := numS_once hC rfl
    obtain ⟨rfl, n1, n2, n3, n4⟩ := numS_once hB rfl
    obtain ⟨rfl, t1, t2, t4⟩ := txtS_once hA rfl
    obtain ⟨_, m1, m2, m3, m4⟩ := numS_once hK rfl
    refine ⟨⟨by simp, by simp, (un_fit o3).1, (un_fit o3).2⟩, ?_⟩
    rw [← hs, ← piece_join (j := k1) (by omega) (by omega), ← piece_join (i := k1) (j := p2) (by omega) (by omega), ← piece_join (i := p2) (j := p3) (by omega) (by omega), ← piece_join (i := p3) (j := p4) (by omega) (by omega), ← piece_join (i := p4) (j := p5) (by omega) (by omega),
      m4, t4, n4, e4, d4, o4]
    have e : (⟨t.toArray⟩ : ByteArray).size = t.length := by rw [Lib.size_eq]
    simp [itB, resB, zz_un, e]
  · simp only [h1, h2, h3, h4, h5, if_false, Prod.mk.injEq] at h
    obtain ⟨_, _, h⟩ := h
    split at h
    · cases h
    · exact absurd h (by assumption)
theorem getF_once {s : ByteArray} {a : It} (h : getF s = (a, 0)) : right a = true ∧ Fits a ∧ sl s = itB a := by
  obtain ⟨⟨b, q, c⟩, hP⟩ : ∃ K, getP s = K := ⟨_, rfl⟩
  unfold getF at h
  rw [hP] at h
  obtain ⟨rfl, h2, h3, rfl⟩ := fin_ok h
  exact ⟨h3, getP_once hP h3 h2⟩
theorem getF_bad {s : ByteArray} (h : (getF s).2 ≠ 0) : (getF s).1 = bare 0 := fin_bad h
end Go.Proofs.Ythfbcfddfbipfaa
