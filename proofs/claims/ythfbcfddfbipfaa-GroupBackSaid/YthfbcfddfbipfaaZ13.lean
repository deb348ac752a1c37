/- GroupForm, Hold, put together. -/
import Derived.Test.YthfbcfddfbipfaaZ7
import Derived.Test.YthfbcfddfbipfaaZ12
import Derived.StillTailTactics
/- A group's bytes, as plain data: what is written is read, what is read was written so. -/
namespace Go.Proofs.Ythfbcfddfbipfaa
open Go.RowKit
open Itm Vlq
set_option linter.unusedVariables false
namespace Grp
open Pan (Pn Pl)
/-- A group: its number, its mark, its panes. -/
structure Gp where
  no : Int
  mark : Int
  ps : List Pn
abbrev none_ : Gp := ⟨0, 0, []⟩
/-- May it be? -/
def right (g : Gp) : Bool := decide (0 ≤ g.no ∧ g.no ≤ 31 ∧ 0 ≤ g.mark ∧ g.mark ≤ 1099511627776) && Pan.right g.ps && g.ps.all fun p => decide (g.mark < p.p.hi)
theorem right_iff (g : Gp) : right g = true ↔ (0 ≤ g.no ∧ g.no ≤ 31 ∧ 0 ≤ g.mark ∧ g.mark ≤ 1099511627776) ∧ Pan.right g.ps = true ∧ ∀ p ∈ g.ps, g.mark < p.p.hi := by
  unfold right
  rw [Bool.and_eq_true, Bool.and_eq_true, decide_eq_true_eq, List.all_eq_true, and_assoc]
  simp only [decide_eq_true_eq]
/-- The numbers of a pane fit. -/
structure FitP (x : Pn) : Prop where
  n : x.acc.n ≤ 9223372036854775807
  a0 : -9223372036854775808 ≤ x.acc.a
  a1 : x.acc.a ≤ 9223372036854775807
  b0 : -9223372036854775808 ≤ x.acc.b
  b1 : x.acc.b ≤ 9223372036854775807
/-- A pane's bytes, a group's bytes. -/
def pnB (x : Pn) : List UInt8 := (enc x.p.key.length ++ x.p.key) ++ enc x.p.lo.toNat ++ enc x.p.hi.toNat ++ enc x.acc.n.toNat ++ enc (zz x.acc.a) ++ enc (zz x.acc.b)
def gpB (g : Gp) : List UInt8 := enc g.no.toNat ++ enc g.mark.toNat ++ enc g.ps.length ++ g.ps.flatMap pnB
/-- A pane as it is read. -/
def pnS (s : ByteArray) (st : Nat × Nat) : Pn × Nat × Nat :=
  let k := txtS s st
  let a := numS s k.2
  let b := numS s a.2
  let n := numS s b.2
  let x := sgnS s n.2
  let y := sgnS s x.2
  (⟨⟨(a.1 : Int), (b.1 : Int), k.1⟩, ⟨(n.1 : Int), un x.1, un y.1⟩⟩, y.2)
/-- Panes, one behind the other, up to the first error. -/
def pnI (s : ByteArray) (st : Nat × Nat) : Nat → List Pn × Nat × Nat
  | 0 => ([], st)
  | j + 1 => let o := pnI s st j; if o.2.2 = 0 then (o.1 ++ [(pnS s o.2).1], (pnS s o.2).2) else o
theorem pnI_next (s : ByteArray) (st : Nat × Nat) (j : Nat) : pnI s st (j + 1) = if (pnI s st j).2.2 = 0 then ((pnI s st j).1 ++ [(pnS s (pnI s st j).2).1], (pnS s (pnI s st j).2).2) else pnI s st j := rfl
theorem pnI_stop {s : ByteArray} {st : Nat × Nat} {j : Nat} (h : (pnI s st j).2.2 ≠ 0) : ∀ m, pnI s st (j + m) = pnI s st j
  | 0 => rfl
  | m + 1 => by rw [← Nat.add_assoc, pnI_next, pnI_stop h m, if_neg h]
/-- A group as it is read, and the error. -/
def getG (s : ByteArray) : Gp × Nat :=
  let a := numS s (0, 0)
  let b := numS s a.2
  let m := numS s b.2
  if m.2.2 = 0 ∧ 2000 < m.1 then (none_, 1)
  else
    let r := pnI s m.2 m.1
    if r.2.2 ≠ 0 then (none_, r.2.2)
    else if r.2.1 < s.size then (none_, 21)
    else if right ⟨(a.1 : Int), (b.1 : Int), r.1⟩ then (⟨(a.1 : Int), (b.1 : Int), r.1⟩, 0)
    else (none_, 1)
theorem getG_bad {s : ByteArray} (h : (getG s).2 ≠ 0) : (getG s).1 = none_ := by
  unfold getG at h ⊢
  simp only at h ⊢
  split
  · rfl
  · split
    · rfl
    · split
      · rfl
      · split
        · rw [if_neg (by assumption), if_neg (by assumption), if_neg (by assumption), if_pos (by assumption)] at h
          exact absurd rfl h
        · rfl
theorem key_bytes (l : List UInt8) : sl (⟨l.toArray⟩ : ByteArray) = l ∧ (⟨l.toArray⟩ : ByteArray).size = l.length := by
  have h : sl (⟨l.toArray⟩ : ByteArray) = l := by simp [sl]
  exact ⟨h, by rw [← sl_len, h]⟩
/-- A pane is read where it was written. -/
theorem pnS_back {s : ByteArray} {x : Pn} {pre post : List UInt8} (hm : Pan.may x = true) (hf : FitP x) (hl : sl s = pre ++ (pnB x ++ post)) : pnS s (pre.length, 0) = (x, pre.length + (pnB x).length, 0) := by
  have hm' : 1 ≤ x.p.key.length ∧ x.p.key.length ≤ 16 ∧ 0 ≤ x.p.lo ∧ x.p.lo < x.p.hi ∧ x.p.hi ≤ 1099511627776 ∧ 1 ≤ x.acc.n := of_decide_eq_true hm
  obtain ⟨⟨lo, hi, key⟩, ⟨n, a, b⟩⟩ := x
  obtain ⟨f1, f2, f3, f4, f5⟩ := hf
  obtain ⟨m1, m2, m3, m4, m5, m6⟩ := hm'
  simp only at m1 m2 m3 m4 m5 m6 f1 f2 f3 f4 f5
  obtain ⟨hk1, hk2⟩ := key_bytes key
  have hB : pnB ⟨⟨lo, hi, key⟩, ⟨n, a, b⟩⟩ = (enc key.length ++ key) ++ enc lo.toNat ++ enc hi.toNat ++ enc n.toNat ++ enc (zz a) ++ enc (zz b) := rfl
  rw [hB] at hl ⊢
  have q0 := txtS_enc (s := s) (k := ⟨key.toArray⟩) (pre := pre) (post := enc lo.toNat ++ enc hi.toNat ++ enc n.toNat ++ enc (zz a) ++ enc (zz b) ++ post) (by rw [hk1, hk2, hl]; simp) (by rw [hk2]; exact m2)
  rw [hk1, hk2] at q0
  have q1 := numS_enc (s := s) (pre := pre ++ (enc key.length ++ key)) (n := lo.toNat) (post := enc hi.toNat ++ enc n.toNat ++ enc (zz a) ++ enc (zz b) ++ post) (by rw [hl]; simp) (by rw [M1_val]; omega)
  have q2 := numS_enc (s := s) (pre := pre ++ (enc key.length ++ key) ++ enc lo.toNat) (n := hi.toNat) (post := enc n.toNat ++ enc (zz a) ++ enc (zz b) ++ post) (by rw [hl]; simp) (by rw [M1_val]; omega)
  have q3 := numS_enc (s := s) (pre := pre ++ (enc key.length ++ key) ++ enc lo.toNat ++ enc hi.toNat) (n := n.toNat) (post := enc (zz a) ++ enc (zz b) ++ post) (by rw [hl]; simp) (by rw [M1_val]; omega)
  have q4 := sgnS_enc (s := s) (pre := pre ++ (enc key.length ++ key) ++ enc lo.toNat ++ enc hi.toNat ++ enc n.toNat) (n := zz a) (post := enc (zz b) ++ post) (by rw [hl]; simp) (by have := zz_lt f2 f3; rw [M2_val]; omega)
  have q5 := sgnS_enc (s := s) (pre := pre ++ (enc key.length ++ key) ++ enc lo.toNat ++ enc hi.toNat ++ enc n.toNat ++ enc (zz a)) (n := zz b) (post := post) (by rw [hl]; simp) (by have := zz_lt f4 f5; rw [M2_val]; omega)
  rw [List.length_append] at q1 q2 q3 q4 q5
  rw [List.length_append] at q2 q3 q4 q5
  rw [List.length_append] at q3 q4 q5
  rw [List.length_append] at q4 q5
  rw [List.length_append] at q5
  unfold pnS
  simp only [q0]
  simp only [List.length_append] at q1 q2 q3 q4 q5 ⊢
  simp only [q1, q2, q3, q4, q5, un_zz]
  rw [show ((lo.toNat : Nat) : Int) = lo by omega, show ((hi.toNat : Nat) : Int) = hi by omega, show ((n.toNat : Nat) : Int) = n by omega]
  simp only [Prod.mk.injEq, true_and, and_true]
  omega
theorem pnI_back {s : ByteArray} {ps : List Pn} {pre post : List UInt8} (hm : ∀ x ∈ ps, Pan.may x = true) (hf : ∀ x ∈ ps, FitP x) (hl : sl s = pre ++ (ps.flatMap pnB ++ post)) :
    ∀ j, j ≤ ps.length → pnI s (pre.length, 0) j = (ps.take j, pre.length + ((ps.take j).flatMap pnB).length, 0)
  | 0, _ => by simp [pnI]
  | j + 1, hj => by
    obtain ⟨x, hx⟩ : ∃ x, ps[j]? = some x := ⟨_, List.getElem?_eq_getElem (by omega)⟩
    have hxm := List.mem_of_getElem? hx
    have hs : ps = ps.take j ++ (x :: ps.drop (j + 1)) := by
      have e : ps.drop j = x :: ps.drop (j + 1) := by
        obtain ⟨h1, h2⟩ := List.getElem?_eq_some_iff.1 hx
        rw [List.drop_eq_getElem_cons h1, h2]
      rw [← e, List.take_append_drop]
    have ht : ps.take (j + 1) = ps.take j ++ [x] := by rw [List.take_add_one, hx]; rfl
    have hb := pnS_back (s := s) (x := x) (pre := pre ++ (ps.take j).flatMap pnB) (post := (ps.drop (j + 1)).flatMap pnB ++ post) (hm x hxm) (hf x hxm) (by
      rw [hl]
      conv => lhs; rw [hs]
      simp)
    rw [List.length_append] at hb
    rw [pnI_next, pnI_back hm hf hl j (by omega)]
    simp only [if_true, hb]
    rw [ht]
    simp only [List.flatMap_append, List.length_append, List.flatMap_cons, List.flatMap_nil, List.append_nil, Prod.mk.injEq, true_and, and_true]
    omega
/-- What is written is read again. -/
theorem getG_back {s : ByteArray} {g : Gp} (hr : right g = true) (hf : ∀ x ∈ g.ps, FitP x) (hl : sl s = gpB g) : getG s = (g, 0) := by
  obtain ⟨⟨r1, r2, r3, r4⟩, r5, r6⟩ := (right_iff g).1 hr
  obtain ⟨p1, p2, _⟩ := (Pan.right_iff _).1 r5
  obtain ⟨no, mark, ps⟩ := g
  simp only at r1 r2 r3 r4 r5 r6 p1 p2 hf
  have hB : gpB ⟨no, mark, ps⟩ = enc no.toNat ++ enc mark.toNat ++ enc ps.length ++ ps.flatMap pnB := rfl
  rw [hB] at hl
  have q0 := numS_enc (s := s) (pre := []) (n := no.toNat) (post := enc mark.toNat ++ enc ps.length ++ ps.flatMap pnB) (by rw [hl]; simp) (by rw [M1_val]; omega)
  have q1 := numS_enc (s := s) (pre := enc no.toNat) (n := mark.toNat) (post := enc ps.length ++ ps.flatMap pnB) (by rw [hl]; simp) (by rw [M1_val]; omega)
  have q2 := numS_enc (s := s) (pre := enc no.toNat ++ enc mark.toNat) (n := ps.length) (post := ps.flatMap pnB) (by rw [hl]; simp) (by rw [M1_val]; omega)
  have q3 := pnI_back (s := s) (ps := ps) (pre := enc no.toNat ++ enc mark.toNat ++ enc ps.length) (post := []) p2 hf (by rw [hl]; simp) ps.length (Nat.le_refl _)
  simp only [List.length_nil, Nat.zero_add] at q0
  rw [List.length_append] at q2
  rw [List.length_append, List.length_append, List.take_length] at q3
  have hlen : s.size = (enc no.toNat).length + (enc mark.toNat).length + (enc ps.length).length + (ps.flatMap pnB).length := by
    rw [← sl_len, hl, List.length_append, List.length_append, List.length_append]
  unfold getG
  simp only [q0, q1, q2, q3]
  rw [if_neg (by omega), if_neg (by simp), if_neg (by rw [hlen]; omega)]
  rw [show ((no.toNat : Nat) : Int) = no by omega, show ((mark.toNat : Nat) : Int) = mark by omega, if_pos hr]
/-- What is read of a pane was written so. -/
theorem pnS_once {s : ByteArray} {x : Pn} {p q c0 : Nat} (h : pnS s (p, c0) = (x, q, 0)) : c0 = 0 ∧ p ≤ q ∧ q ≤ s.size ∧ piece (sl s) p q = pnB x ∧ FitP x := by
  unfold pnS at h
  simp only at h
  obtain ⟨⟨t, p1, c1⟩, hA⟩ : ∃ K, txtS s (p, c0) = K := ⟨_, rfl⟩
  rw [hA] at h; simp only at h
  obtain ⟨⟨v1, p2, c2⟩, hB⟩ : ∃ K, numS s (p1, c1) = K := ⟨_, rfl⟩
  rw [hB] at h; simp only at h
  obtain ⟨⟨v2, p3, c3⟩, hC⟩ : ∃ K, numS s (p2, c2) = K := ⟨_, rfl⟩
  rw [hC] at h; simp only at h
  obtain ⟨⟨v3, p4, c4⟩, hD⟩ : ∃ K, numS s (p3, c3) = K := ⟨_, rfl⟩
  rw [hD] at h; simp only at h
  obtain ⟨⟨v4, p5, c5⟩, hE⟩ : ∃ K, sgnS s (p4, c4) = K := ⟨_, rfl⟩
  rw [hE] at h; simp only at h
  obtain ⟨⟨v5, p6, c6⟩, hF⟩ : ∃ K, sgnS s (p5, c5) = K := ⟨_, rfl⟩
  rw [hF] at h; simp only [Prod.mk.injEq] at h
  obtain ⟨rfl, rfl, rfl⟩ := h
  obtain ⟨rfl, f1, f2, f3, f4⟩ := sgnS_once hF rfl
  obtain ⟨rfl, o1, o2, o3, o4⟩ := sgnS_once hE rfl
  obtain ⟨rfl, d1, d2, d3, d4⟩ := numS_once hD rfl
  obtain ⟨rfl, e1, e2, e3, e4⟩ := numS_once hC rfl
  obtain ⟨rfl, n1, n2, n3, n4⟩ := numS_once hB rfl
  obtain ⟨rfl, t1, t2, t4⟩ := txtS_once hA rfl
  refine ⟨rfl, by omega, f2, ?_, ⟨by show (v3 : Int) ≤ _; rw [M1_val] at d3; omega, (un_fit o3).1, (un_fit o3).2, (un_fit f3).1, (un_fit f3).2⟩⟩
  rw [← piece_join (j := p1) (by omega) (by omega), ← piece_join (i := p1) (j := p2) (by omega) (by omega), ← piece_join (i := p2) (j := p3) (by omega) (by omega), ← piece_join (i := p3) (j := p4) (by omega) (by omega), ← piece_join (i := p4) (j := p5) (by omega) (by omega),
    t4, n4, e4, d4, o4, f4]
  simp [pnB, zz_un]
theorem pnI_once {s : ByteArray} {p c0 : Nat} : ∀ (j : Nat) (xs : List Pn) (q : Nat), pnI s (p, c0) j = (xs, q, 0) → p ≤ s.size → c0 = 0 ∧ p ≤ q ∧ q ≤ s.size ∧ xs.length = j ∧ piece (sl s) p q = xs.flatMap pnB ∧ ∀ x ∈ xs, FitP x
  | 0, xs, q, h, hp => by
    simp only [pnI, Prod.mk.injEq] at h
    obtain ⟨rfl, rfl, rfl⟩ := h
    exact ⟨rfl, Nat.le_refl _, hp, rfl, by simp [piece], fun x hx => by cases hx⟩
  | j + 1, xs, q, h, hp => by
    rw [pnI_next] at h
    obtain ⟨⟨ys, r, c⟩, hI⟩ : ∃ K, pnI s (p, c0) j = K := ⟨_, rfl⟩
    rw [hI] at h
    simp only at h
    by_cases hc : c = 0
    · subst hc
      rw [if_pos rfl] at h
      obtain ⟨⟨x, q', c'⟩, hP⟩ : ∃ K, pnS s (r, 0) = K := ⟨_, rfl⟩
      rw [hP] at h
      simp only [Prod.mk.injEq] at h
      obtain ⟨rfl, rfl, rfl⟩ := h
      obtain ⟨h1, h2, h3, h4, h5, h6⟩ := pnI_once j ys r hI hp
      obtain ⟨_, g1, g2, g3, g4⟩ := pnS_once hP
      refine ⟨h1, by omega, g2, by simp [h4], ?_, fun y hy => ?_⟩
      · rw [← piece_join (j := r) h2 g1, h5, g3]
        simp
      · rcases List.mem_append.1 hy with hy | hy
        · exact h6 y hy
        · rw [List.mem_singleton.1 hy]; exact g4
    · rw [if_neg hc] at h
      simp only [Prod.mk.injEq] at h
      exact absurd h.2.2 hc
/-- What is read was written so. -/
theorem getG_once {s : ByteArray} {g : Gp} (h : getG s = (g, 0)) : right g = true ∧ (∀ x ∈ g.ps, FitP x) ∧ sl s = gpB g := by
  unfold getG at h
  simp only at h
  obtain ⟨⟨v1, p1, c1⟩, hA⟩ : ∃ K, numS s (0, 0) = K := ⟨_, rfl⟩
  rw [hA] at h; simp only at h
  obtain ⟨⟨v2, p2, c2⟩, hB⟩ : ∃ K, numS s (p1, c1) = K := ⟨_, rfl⟩
  rw [hB] at h; simp only at h
  obtain ⟨⟨v3, p3, c3⟩, hC⟩ : ∃ K, numS s (p2, c2) = K := ⟨_, rfl⟩
  rw [hC] at h; simp only at h
  obtain ⟨⟨xs, q, c⟩, hI⟩ : ∃ K, pnI s (p3, c3) v3 = K := ⟨_, rfl⟩
  rw [hI] at h; simp only at h
  split at h
  · simp at h
  · split at h
    · rename_i hc
      simp only [Prod.mk.injEq] at h
      exact absurd h.2 hc
    · rename_i hc
      have hc0 : c = 0 := by omega
      subst hc0
      split at h
      · simp at h
      · rename_i hq
        split at h
        · rename_i hr
          simp only [Prod.mk.injEq, and_true] at h
          subst h
          have hc3 : c3 = 0 := by
            rcases Nat.eq_zero_or_pos c3 with h0 | h0
            · exact h0
            · have := pnI_stop (s := s) (st := (p3, c3)) (j := 0) (by show c3 ≠ 0; omega) v3
              rw [Nat.zero_add, hI] at this
              have := congrArg (fun K => K.2.2) this
              exact this.symm
          subst hc3
          obtain ⟨rfl, d1, d2, d3, d4⟩ := numS_once hC rfl
          obtain ⟨rfl, e1, e2, e3, e4⟩ := numS_once hB rfl
          obtain ⟨_, n1, n2, n3, n4⟩ := numS_once hA rfl
          obtain ⟨_, h2, h3, h4, h5, h6⟩ := pnI_once v3 xs q hI d2
          refine ⟨hr, h6, ?_⟩
          rw [← piece_all hq, ← piece_join (j := p1) (by omega) (by omega), ← piece_join (i := p1) (j := p2) (by omega) (by omega), ← piece_join (i := p2) (j := p3) (by omega) (by omega), n4, e4, d4, h5, ← h4]
          simp [gpB]
        · simp at h
end Grp
end Go.Proofs.Ythfbcfddfbipfaa
/- A goal kept whole. -/
namespace Go.Proofs.Ythfbcfddfbipfaa
/-- A proposition that no tactic opens. -/
def Hold (p : Prop) : Prop := p
theorem hold_mk {p : Prop} (h : Hold p) : p := h
theorem hold_out {p : Prop} (h : p) : Hold p := h
end Go.Proofs.Ythfbcfddfbipfaa
