/- The plain mathematics of items' bytes: what is written is read; what is read was written so; more bytes, fewer bytes. -/
import Derived.Test.YthgafhinlchghaaItemGetAny
import Derived.Test.YthgafhinlchghaaItemPutIt
namespace Go.Proofs.Ythgafhinlchghaa
open Go.RowKit
open Itm Vlq
set_option linter.unusedVariables false
theorem bytes_eq {a b : ByteArray} (h : sl a = sl b) : a = b := by rw [of_sl h]
theorem eqS_eq {a b : ByteArray} (h : eqS a b = true) : a = b := by
  unfold eqS at h
  rw [ByteArray.toList_eq, ByteArray.toList_eq] at h
  exact bytes_eq (by simpa [sl] using h)
theorem eqS_self (a : ByteArray) : eqS a a = true := by unfold eqS; simp
theorem eqI_self (a : It) : eqI a a = true := by simp [eqI, eqE, eqR, eqS_self]
theorem eqI_eq {a b : It} (h : eqI a b = true) : a = b := by
  obtain ⟨k, ek, ea, ev, m, n, lo, hi, rk, rn, rv⟩ := a
  obtain ⟨k', ek', ea', ev', m', n', lo', hi', rk', rn', rv'⟩ := b
  simp only [eqI, eqE, eqR, Bool.and_eq_true, beq_iff_eq] at h
  obtain ⟨⟨⟨⟨h1, ⟨h2, h3⟩, h4⟩, h5⟩, h6⟩, ⟨⟨⟨h7, h8⟩, h9⟩, h10⟩, h11⟩ := h
  have e1 := eqS_eq h2
  have e2 := eqS_eq h9
  subst h1 h3 h4 h5 h6 h7 h8 h10 h11 e1 e2
  rfl
/-- An item that may be is one of five. -/
theorem right_form {a : It} (h : right a = true) :
    (a = { bare 1 with ek := a.ek, ea := a.ea, ev := a.ev } ∧ okEv a.ek a.ea = true) ∨ (a = { bare 2 with m := a.m } ∧ wn a.m 0 1099511627776 = true) ∨ a = bare 3 ∨
    (a = { bare 4 with n := a.n } ∧ wn a.n 1 1073741824 = true) ∨ (a = { bare 5 with lo := a.lo, hi := a.hi, rk := a.rk, rn := a.rn, rv := a.rv } ∧ okRes a.rk a.lo a.hi a.rn = true) := by
  unfold right at h
  split at h
  · rw [Bool.and_eq_true] at h; exact .inl ⟨eqI_eq h.2, h.1⟩
  · split at h
    · rw [Bool.and_eq_true] at h; exact .inr (.inl ⟨eqI_eq h.2, h.1⟩)
    · split at h
      · exact .inr (.inr (.inl (eqI_eq h)))
      · split at h
        · rw [Bool.and_eq_true] at h; exact .inr (.inr (.inr (.inl ⟨eqI_eq h.2, h.1⟩)))
        · split at h
          · rw [Bool.and_eq_true] at h; exact .inr (.inr (.inr (.inr ⟨eqI_eq h.2, h.1⟩)))
          · cases h
theorem M1_val : M1 = 9223372036854775807 := rfl
theorem M2_val : M2 = 18446744073709551615 := rfl
/-- A number, a signed one, a text, read where it stands. -/
theorem numS_enc {s : ByteArray} {pre post : List UInt8} {n : Nat} (hl : sl s = pre ++ (enc n ++ post)) (hn : n ≤ M1) : numS s (pre.length, 0) = (n, pre.length + (enc n).length, 0) := by
  unfold numS
  rw [if_pos rfl, hl]
  exact rd_enc hn pre post
theorem sgnS_enc {s : ByteArray} {pre post : List UInt8} {n : Nat} (hl : sl s = pre ++ (enc n ++ post)) (hn : n ≤ M2) : sgnS s (pre.length, 0) = (n, pre.length + (enc n).length, 0) := by
  unfold sgnS
  rw [if_pos rfl, hl]
  exact rd_enc hn pre post
theorem txtS_enc {s k : ByteArray} {pre post : List UInt8} (hl : sl s = pre ++ ((enc k.size ++ sl k) ++ post)) (hk : k.size ≤ 16) : txtS s (pre.length, 0) = (sl k, pre.length + (enc k.size ++ sl k).length, 0) := by
  have hr : rd M1 (sl s) pre.length = (k.size, pre.length + (enc k.size).length, 0) := by
    rw [hl, List.append_assoc]
    exact rd_enc (by rw [M1_val]; omega) pre _
  have hlen : (sl s).length = pre.length + ((enc k.size).length + k.size) + post.length := by
    rw [hl, List.length_append, List.length_append, List.length_append, sl_len]; omega
  unfold txtS
  rw [if_pos rfl]
  show rt (sl s) pre.length = _
  unfold rt
  simp only [hr, ne_eq, not_true_eq_false, if_false]
  rw [if_neg (by omega), if_neg (by omega)]
  have e : ((sl s).drop (pre.length + (enc k.size).length)).take k.size = sl k := by
    rw [hl, ← List.drop_drop, List.drop_left, List.append_assoc, List.drop_left]
    rw [show k.size = (sl k).length from (sl_len k).symm, List.take_left]
  rw [e, List.length_append, sl_len]
  simp only [Prod.mk.injEq, true_and, and_true]
  omega
theorem str_back (k : ByteArray) : (⟨(sl k).toArray⟩ : ByteArray) = k := (of_sl (show sl k = sl k from rfl)).symm
/-- What is written is read. -/
theorem getP_back {s : ByteArray} {a : It} {post : List UInt8} (hr : right a = true) (hf : Fits a) (hl : sl s = itB a ++ post) : getP s = (a, (itB a).length, 0) := by
  have hk0 : ∀ n : Nat, n ≤ 5 → n ≤ M1 := fun n h => by rw [M1_val]; omega
  rcases right_form hr with ⟨e, h⟩ | ⟨e, h⟩ | e | ⟨e, h⟩ | ⟨e, h⟩
  · obtain ⟨p1, p2, p3⟩ := ev_parts h
    obtain ⟨v0, v1, _, _⟩ := hf
    obtain ⟨k, ek, ea, ev, m, n, lo, hi, rk, rn, rv⟩ := a
    simp only [It.mk.injEq] at e
    obtain ⟨rfl, -, -, -, rfl, rfl, rfl, rfl, rfl, rfl, rfl⟩ := e
    simp only at p1 p2 p3 v0 v1
    have hB : itB (⟨1, ek, ea, ev, 0, 0, 0, 0, no, 0, 0⟩ : It) = enc 1 ++ ((enc ek.size ++ sl ek) ++ enc ea.toNat ++ enc (zz ev)) := by simp [itB, evB]
    rw [hB] at hl ⊢
    have q0 := numS_enc (s := s) (pre := []) (n := 1) (post := ((enc ek.size ++ sl ek) ++ enc ea.toNat ++ enc (zz ev)) ++ post) (by rw [hl]; simp) (hk0 1 (by omega))
    have q1 := txtS_enc (s := s) (k := ek) (pre := enc 1) (post := enc ea.toNat ++ enc (zz ev) ++ post) (by rw [hl]; simp) p1
    have q2 := numS_enc (s := s) (pre := enc 1 ++ (enc ek.size ++ sl ek)) (n := ea.toNat) (post := enc (zz ev) ++ post) (by rw [hl]; simp) (by rw [M1_val]; omega)
    have q3 := sgnS_enc (s := s) (pre := enc 1 ++ (enc ek.size ++ sl ek) ++ enc ea.toNat) (n := zz ev) (post := post) (by rw [hl]; simp) (by have := zz_lt v0 v1; rw [M2_val]; omega)
    simp only [List.length_nil, Nat.zero_add] at q0
    rw [List.length_append] at q2
    rw [List.length_append, List.length_append] at q3
    unfold getP
    simp only [q0, q1, q2, q3, if_true, un_zz, str_back]
    rw [show ((ea.toNat : Nat) : Int) = ea by omega]
    simp only [List.length_append, Prod.mk.injEq, true_and, and_true]
    omega
  · obtain ⟨p1, p2⟩ := wn_iff.1 h
    obtain ⟨k, ek, ea, ev, m, n, lo, hi, rk, rn, rv⟩ := a
    simp only [It.mk.injEq] at e
    obtain ⟨rfl, rfl, rfl, rfl, -, rfl, rfl, rfl, rfl, rfl, rfl⟩ := e
    have hB : itB (⟨2, no, 0, 0, m, 0, 0, 0, no, 0, 0⟩ : It) = enc 2 ++ enc m.toNat := by simp [itB]
    rw [hB] at hl ⊢
    have q0 := numS_enc (s := s) (pre := []) (n := 2) (post := enc m.toNat ++ post) (by rw [hl]; simp) (hk0 2 (by omega))
    have q1 := numS_enc (s := s) (pre := enc 2) (n := m.toNat) (post := post) (by rw [hl]; simp) (by rw [M1_val]; simp only at p2; omega)
    simp only [List.length_nil, Nat.zero_add] at q0
    unfold getP
    simp only [q0, q1, show ¬ (2 : Nat) = 1 by omega, if_true, if_false]
    simp only at p1
    rw [show ((m.toNat : Nat) : Int) = m by omega]
    simp only [List.length_append]
  · rw [e] at hl ⊢
    have hB : itB (bare 3) = enc 3 := by simp [itB]
    rw [hB] at hl ⊢
    have q0 := numS_enc (s := s) (pre := []) (n := 3) (post := post) (by rw [hl]; simp) (hk0 3 (by omega))
    simp only [List.length_nil, Nat.zero_add] at q0
    unfold getP
    simp only [q0, show ¬ (3 : Nat) = 1 by omega, show ¬ (3 : Nat) = 2 by omega, if_true, if_false]
  · obtain ⟨p1, p2⟩ := wn_iff.1 h
    obtain ⟨k, ek, ea, ev, m, n, lo, hi, rk, rn, rv⟩ := a
    simp only [It.mk.injEq] at e
    obtain ⟨rfl, rfl, rfl, rfl, rfl, -, rfl, rfl, rfl, rfl, rfl⟩ := e
    have hB : itB (⟨4, no, 0, 0, 0, n, 0, 0, no, 0, 0⟩ : It) = enc 4 ++ enc n.toNat := by simp [itB]
    rw [hB] at hl ⊢
    simp only at p1 p2
    have q0 := numS_enc (s := s) (pre := []) (n := 4) (post := enc n.toNat ++ post) (by rw [hl]; simp) (hk0 4 (by omega))
    have q1 := numS_enc (s := s) (pre := enc 4) (n := n.toNat) (post := post) (by rw [hl]; simp) (by rw [M1_val]; omega)
    simp only [List.length_nil, Nat.zero_add] at q0
    unfold getP
    simp only [q0, q1, show ¬ (4 : Nat) = 1 by omega, show ¬ (4 : Nat) = 2 by omega, show ¬ (4 : Nat) = 3 by omega, if_true, if_false]
    rw [show ((n.toNat : Nat) : Int) = n by omega]
    simp only [List.length_append]
  · obtain ⟨p1, p2, p3, p4, p5, p6⟩ := res_parts h
    obtain ⟨_, _, v0, v1⟩ := hf
    obtain ⟨k, ek, ea, ev, m, n, lo, hi, rk, rn, rv⟩ := a
    simp only [It.mk.injEq] at e
    obtain ⟨rfl, rfl, rfl, rfl, rfl, rfl, -, -, -, -, -⟩ := e
    simp only at p1 p2 p3 p4 p5 p6 v0 v1
    have hB : itB (⟨5, no, 0, 0, 0, 0, lo, hi, rk, rn, rv⟩ : It) = enc 5 ++ ((enc rk.size ++ sl rk) ++ enc lo.toNat ++ enc hi.toNat ++ enc rn.toNat ++ enc (zz rv)) := by simp [itB, resB]
    rw [hB] at hl ⊢
    have q0 := numS_enc (s := s) (pre := []) (n := 5) (post := ((enc rk.size ++ sl rk) ++ enc lo.toNat ++ enc hi.toNat ++ enc rn.toNat ++ enc (zz rv)) ++ post) (by rw [hl]; simp) (hk0 5 (by omega))
    have q1 := txtS_enc (s := s) (k := rk) (pre := enc 5) (post := enc lo.toNat ++ enc hi.toNat ++ enc rn.toNat ++ enc (zz rv) ++ post) (by rw [hl]; simp) p1
    have q2 := numS_enc (s := s) (pre := enc 5 ++ (enc rk.size ++ sl rk)) (n := lo.toNat) (post := enc hi.toNat ++ enc rn.toNat ++ enc (zz rv) ++ post) (by rw [hl]; simp) (by rw [M1_val]; omega)
    have q3 := numS_enc (s := s) (pre := enc 5 ++ (enc rk.size ++ sl rk) ++ enc lo.toNat) (n := hi.toNat) (post := enc rn.toNat ++ enc (zz rv) ++ post) (by rw [hl]; simp) (by rw [M1_val]; omega)
    have q4 := numS_enc (s := s) (pre := enc 5 ++ (enc rk.size ++ sl rk) ++ enc lo.toNat ++ enc hi.toNat) (n := rn.toNat) (post := enc (zz rv) ++ post) (by rw [hl]; simp) (by rw [M1_val]; omega)
    have q5 := sgnS_enc (s := s) (pre := enc 5 ++ (enc rk.size ++ sl rk) ++ enc lo.toNat ++ enc hi.toNat ++ enc rn.toNat) (n := zz rv) (post := post) (by rw [hl]; simp) (by have := zz_lt v0 v1; rw [M2_val]; omega)
    simp only [List.length_nil, Nat.zero_add] at q0
    rw [List.length_append] at q2
    rw [List.length_append, List.length_append] at q3
    rw [List.length_append, List.length_append, List.length_append] at q4
    rw [List.length_append, List.length_append, List.length_append, List.length_append] at q5
    unfold getP
    simp only [q0, q1, q2, q3, q4, q5, show ¬ (5 : Nat) = 1 by omega, show ¬ (5 : Nat) = 2 by omega, show ¬ (5 : Nat) = 3 by omega, show ¬ (5 : Nat) = 4 by omega, if_true, if_false, un_zz, str_back]
    rw [show ((lo.toNat : Nat) : Int) = lo by omega, show ((hi.toNat : Nat) : Int) = hi by omega, show ((rn.toNat : Nat) : Int) = rn by omega]
    simp only [List.length_append, Prod.mk.injEq, true_and, and_true]
    omega
theorem getF_back {s : ByteArray} {a : It} (hr : right a = true) (hf : Fits a) (hl : sl s = itB a) : getF s = (a, 0) := by
  have h := getP_back (post := []) hr hf (by rw [hl, List.append_nil])
  have e : (itB a).length = s.size := by rw [← hl, sl_len]
  unfold getF
  rw [h]
  unfold fin
  rw [if_neg (by simp), if_neg (by simp only; omega), if_pos hr]
theorem getF_more {s : ByteArray} {a : It} {c : UInt8} (hr : right a = true) (hf : Fits a) (hl : sl s = itB a ++ [c]) : getF s = (bare 0, 21) := by
  have h := getP_back (post := [c]) hr hf hl
  have e : s.size = (itB a).length + 1 := by rw [← sl_len, hl, List.length_append]; rfl
  unfold getF
  rw [h]
  unfold fin
  rw [if_neg (by simp), if_pos (by simp only; omega)]
end Go.Proofs.Ythgafhinlchghaa
