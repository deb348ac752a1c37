/- ItemGet, ItemGetAny, ItemPutRes, ItemPutIt, ItemForm, put together. -/
import Derived.Test.YthfbcfddfbipfaaZ10
import Derived.Test.YthfbcfddfbipfaaZ9
/- Contract of Get of package item. -/
namespace Go.Proofs.Ythfbcfddfbipfaa
open Go.RowKit
open Itm Vlq
set_option linter.unusedVariables false
set_option maxRecDepth 8000
/-- An item and an error; what was stays. -/
def GotI (a : It) (c : Int) (w : World) (e : Ending) (w' : World) : Prop := e = .returned (.tuple #[itV a, .int .i64 c]) ∧ Below w.heap.size w w'
theorem below_set11 {B b : Nat} {u w : World} (h : Below B u w) (hb : B ≤ b) (v0 v1 v2 v3 v4 v5 v6 v7 v8 v9 v10 : Value) : Below B u (((((((((((w.setCell ⟨b, 0, none⟩ v0).setCell ⟨b, 1, none⟩ v1).setCell ⟨b, 2, none⟩ v2).setCell ⟨b, 3, none⟩ v3).setCell ⟨b, 4, none⟩ v4).setCell ⟨b, 5, none⟩ v5).setCell ⟨b, 6, none⟩ v6).setCell ⟨b, 7, none⟩ v7).setCell ⟨b, 8, none⟩ v8).setCell ⟨b, 9, none⟩ v9).setCell ⟨b, 10, none⟩ v10) := (((((((((((h.setCell (p := ⟨b, 0, none⟩) hb v0).setCell (p := ⟨b, 1, none⟩) hb v1).setCell (p := ⟨b, 2, none⟩) hb v2).setCell (p := ⟨b, 3, none⟩) hb v3).setCell (p := ⟨b, 4, none⟩) hb v4).setCell (p := ⟨b, 5, none⟩) hb v5).setCell (p := ⟨b, 6, none⟩) hb v6).setCell (p := ⟨b, 7, none⟩) hb v7).setCell (p := ⟨b, 8, none⟩) hb v8).setCell (p := ⟨b, 9, none⟩) hb v9).setCell (p := ⟨b, 10, none⟩) hb v10)
theorem Lies.there {b : Nat} {C : Array Value} {T : TypeId} {w : World} (h : Lies b C T w) : w.there b 0 C.size := fun j hj => by
  rw [Nat.zero_add]
  exact ⟨by rw [h.cell (Array.getElem?_eq_getElem hj)]; rfl, h.free j⟩
theorem one_bare : (itC (bare 0)).all (·.oneCell') = true := by simp [Value.oneCell']
theorem Lies.putIt {R : Nat} {T : TypeId} {w : World} {a : It} (h : Lies R (itC a) T w) (b : It) : Lies R (itC b) T (w.setCells R 0 (itC b).toList) := by
  have h2 := h.set11 (.int .i64 b.k) (.string b.ek) (.int .i64 b.ea) (.int .i64 b.ev) (.int .i64 b.m) (.int .i64 b.n) (.int .i64 b.lo) (.int .i64 b.hi) (.string b.rk) (.int .i64 b.rn) (.int .i64 b.rv)
  simp only [World.setCells]
  exact h2
theorem below_setCells {B b : Nat} {u : World} (hb : B ≤ b) : ∀ (vs : List Value) (o : Nat) (w : World), Below B u w → Below B u (w.setCells b o vs)
  | [], _, _, h => h
  | v :: vs, o, w, h => below_setCells hb vs (o + 1) _ (h.setCell (p := ⟨b, o, none⟩) hb v)
theorem rd_new (w : World) (s : ByteArray) (X : Obj) (T : TypeId) : RdAt T (w.heap.size + 1) s 0 0 ((w.alloc X).alloc (.cells #[.string s, .int .i64 0, .int .i64 0] T)) := by
  have h := heap_alloc_new (w.alloc X) (.cells #[.string s, .int .i64 0, .int .i64 0] T)
  rw [show (w.alloc X).heap.size = w.heap.size + 1 from by simp] at h
  exact h
end Go.Proofs.Ythfbcfddfbipfaa
/- Get of package item, for any bytes. -/
namespace Go.Proofs.Ythfbcfddfbipfaa
open Go.RowKit
open Itm Vlq
set_option linter.unusedVariables false
set_option maxRecDepth 8000
/-- What comes of what was read. -/
def fin (s : ByteArray) (a : It) (i c : Nat) : It × Nat := if c ≠ 0 then (bare 0, c) else if i < s.size then (bare 0, 21) else if right a = true then (a, 0) else (bare 0, 1)
/-- What bytes are read as, and the error. -/
def getF (s : ByteArray) : It × Nat := fin s (getP s).1 (getP s).2.1 (getP s).2.2
theorem right_many {n : Int} (h : 1073741824 < n) : right { bare 4 with n := n } = false := by
  have hw : wn n 1 1073741824 = false := wn_hi (by omega)
  simp [right, hw]
/-- The number that is cut at one above the most changes no answer. -/
theorem fin_M (s : ByteArray) : fin s (getM s).1 (getM s).2.1 (getM s).2.2 = getF s := by
  obtain ⟨⟨x, k1, c1⟩, hK⟩ : ∃ K, numS s (0, 0) = K := ⟨_, rfl⟩
  unfold getF getM getP
  by_cases h4 : x = 4
  · subst h4
    simp only [hK]
    simp only [show ¬ (4 : Nat) = 1 by omega, show ¬ (4 : Nat) = 2 by omega, show ¬ (4 : Nat) = 3 by omega, if_false, if_true]
    obtain ⟨⟨v, i, c⟩, hA⟩ : ∃ K, numS s (k1, c1) = K := ⟨_, rfl⟩
    rw [hA]
    simp only
    by_cases hv : (v : Int) ≤ 1073741824
    · rw [show min (v : Int) 1073741825 = v by omega]
    · have e1 := right_many (n := v) (by omega)
      have e2 := right_many (n := min (v : Int) 1073741825) (by omega)
      unfold fin
      rw [e1, e2]
      simp
  · simp only [hK]
    by_cases h1 : x = 1
    · simp [h1]
    · by_cases h2 : x = 2
      · simp [h2]
      · by_cases h3 : x = 3
        · simp [h3]
        · by_cases h5 : x = 5
          · simp [h5]
          · simp [h1, h2, h3, h4, h5, failP]
end Go.Proofs.Ythfbcfddfbipfaa
/- Contract of what writes a result. -/
namespace Go.Proofs.Ythfbcfddfbipfaa
open Go.RowKit
open Itm Vlq
set_option linter.unusedVariables false
set_option maxRecDepth 8000
theorem keepB5 {W a b : World} {p0 p1 p2 p3 p4 : Addr} {u0 u1 u2 u3 u4 : Value} (hb : Below a.heap.size a b)
    (h : a.cell? p0 = some u0 ∧ a.cell? p1 = some u1 ∧ a.cell? p2 = some u2 ∧ a.cell? p3 = some u3 ∧ a.cell? p4 = some u4 ∧ Below W.heap.size W a) :
    b.cell? p0 = some u0 ∧ b.cell? p1 = some u1 ∧ b.cell? p2 = some u2 ∧ b.cell? p3 = some u3 ∧ b.cell? p4 = some u4 ∧ Below W.heap.size W b :=
  ⟨keep1 hb h.1, keep1 hb h.2.1, keep1 hb h.2.2.1, keep1 hb h.2.2.2.1, keep1 hb h.2.2.2.2.1, below_next h.2.2.2.2.2 hb⟩
theorem res_box (lo hi : Int) (k : ByteArray) (n v : Int) (w : World) (t : TypeId) : Below w.heap.size w (w.alloc (.cells (resC lo hi k n v) t)) ∧ (w.alloc (.cells (resC lo hi k n v) t)).cell? ⟨w.heap.size, 0, none⟩ = some (.int .i64 lo) ∧ (w.alloc (.cells (resC lo hi k n v) t)).cell? ⟨w.heap.size, 1, none⟩ = some (.int .i64 hi) ∧ (w.alloc (.cells (resC lo hi k n v) t)).cell? ⟨w.heap.size, 2, none⟩ = some (.string k) ∧ (w.alloc (.cells (resC lo hi k n v) t)).cell? ⟨w.heap.size, 3, none⟩ = some (.int .i64 n) ∧ (w.alloc (.cells (resC lo hi k n v) t)).cell? ⟨w.heap.size, 4, none⟩ = some (.int .i64 v) := by
  refine ⟨below_al (Below.refl _ _), ?_, ?_, ?_, ?_, ?_⟩
  all_goals (unfold World.cell?; rw [show (w.alloc (.cells (resC lo hi k n v) t)).heap[w.heap.size]? = _ from heap_alloc_new w _]; rfl)
end Go.Proofs.Ythfbcfddfbipfaa
/- Contracts of Put and of the reference's bytes. -/
namespace Go.Proofs.Ythfbcfddfbipfaa
open Go.RowKit
open Itm Vlq
set_option linter.unusedVariables false
set_option maxRecDepth 8000
/-- The item lies in block g. -/
def Box (g : Nat) (a : It) (w : World) : Prop := ∀ (j : Nat) (v : Value), (itC a)[j]? = some v → w.cell? ⟨g, j, none⟩ = some v
theorem Box.keep {g : Nat} {a : It} {u w : World} (h : Box g a u) (hb : Below u.heap.size u w) : Box g a w := fun j v hv => keep1 hb (h j v hv)
theorem Box.cells {g : Nat} {a : It} {w : World} (h : Box g a w) : w.cell? ⟨g, 0, none⟩ = some (.int .i64 a.k) ∧ w.cell? ⟨g, 1, none⟩ = some (.string a.ek) ∧ w.cell? ⟨g, 2, none⟩ = some (.int .i64 a.ea) ∧ w.cell? ⟨g, 3, none⟩ = some (.int .i64 a.ev) ∧ w.cell? ⟨g, 4, none⟩ = some (.int .i64 a.m) ∧ w.cell? ⟨g, 5, none⟩ = some (.int .i64 a.n) ∧ w.cell? ⟨g, 6, none⟩ = some (.int .i64 a.lo) ∧ w.cell? ⟨g, 7, none⟩ = some (.int .i64 a.hi) ∧ w.cell? ⟨g, 8, none⟩ = some (.string a.rk) ∧ w.cell? ⟨g, 9, none⟩ = some (.int .i64 a.rn) ∧ w.cell? ⟨g, 10, none⟩ = some (.int .i64 a.rv) :=
  ⟨h 0 _ rfl, h 1 _ rfl, h 2 _ rfl, h 3 _ rfl, h 4 _ rfl, h 5 _ rfl, h 6 _ rfl, h 7 _ rfl, h 8 _ rfl, h 9 _ rfl, h 10 _ rfl⟩
theorem box_new (a : It) (w : World) (t : TypeId) : Box w.heap.size a (w.alloc (.cells (itC a) t)) := fun j v hv => by
  unfold World.cell?
  rw [show (w.alloc (.cells (itC a) t)).heap[w.heap.size]? = _ from heap_alloc_new w _]
  exact hv
/-- The bytes of an item that may be. -/
def itB (a : It) : List UInt8 := enc a.k.toNat ++ (if a.k = 1 then evB a.ek a.ea a.ev else if a.k = 2 then enc a.m.toNat else if a.k = 4 then enc a.n.toNat else if a.k = 5 then resB a.rk a.lo a.hi a.rn a.rv else [])
/-- Its numbers are such as an int64 has. -/
structure Fits (a : It) : Prop where
  ev0 : -9223372036854775808 ≤ a.ev
  ev1 : a.ev ≤ 9223372036854775807
  rv0 : -9223372036854775808 ≤ a.rv
  rv1 : a.rv ≤ 9223372036854775807
theorem wn_iff {n lo hi : Int} : wn n lo hi = true ↔ lo ≤ n ∧ n ≤ hi := by unfold wn; exact decide_eq_true_iff
theorem key_le {k : ByteArray} (h : okKey k = true) : k.size ≤ 16 := by have := (wn_iff.1 h).2; omega
theorem ev_parts {k : ByteArray} {a : Int} (h : okEv k a = true) : k.size ≤ 16 ∧ 0 ≤ a ∧ a ≤ 1099511627775 := by
  unfold okEv at h
  rw [Bool.and_eq_true] at h
  exact ⟨key_le h.1, wn_iff.1 h.2⟩
theorem res_parts {k : ByteArray} {lo hi n : Int} (h : okRes k lo hi n = true) : k.size ≤ 16 ∧ 0 ≤ lo ∧ lo < hi ∧ hi ≤ 1099511627776 ∧ 1 ≤ n ∧ n ≤ 1073741824 := by
  unfold okRes at h
  simp only [Bool.and_eq_true, decide_eq_true_eq] at h
  obtain ⟨⟨⟨⟨h1, h2⟩, h3⟩, h4⟩, h5⟩ := h
  exact ⟨key_le h1, h2, h3, h4, wn_iff.1 h5⟩
/-- What an item that may be is like. -/
theorem right_parts {a : It} (h : right a = true) : (a.k = 1 ∧ okEv a.ek a.ea = true) ∨ (a.k = 2 ∧ 0 ≤ a.m ∧ a.m ≤ 1099511627776) ∨ a.k = 3 ∨ (a.k = 4 ∧ 1 ≤ a.n ∧ a.n ≤ 1073741824) ∨ (a.k = 5 ∧ okRes a.rk a.lo a.hi a.rn = true) := by
  unfold right at h
  split at h
  · rw [Bool.and_eq_true] at h; exact .inl ⟨by assumption, h.1⟩
  · split at h
    · rw [Bool.and_eq_true] at h; exact .inr (.inl ⟨by assumption, wn_iff.1 h.1⟩)
    · split at h
      · exact .inr (.inr (.inl (by assumption)))
      · split at h
        · rw [Bool.and_eq_true] at h; exact .inr (.inr (.inr (.inl ⟨by assumption, wn_iff.1 h.1⟩)))
        · split at h
          · rw [Bool.and_eq_true] at h; exact .inr (.inr (.inr (.inr ⟨by assumption, h.1⟩)))
          · cases h
end Go.Proofs.Ythfbcfddfbipfaa
/- The plain mathematics of items' bytes: what is written is read; what is read was written so; more bytes, fewer bytes. -/
namespace Go.Proofs.Ythfbcfddfbipfaa
open Go.RowKit
open Itm Vlq
set_option linter.unusedVariables false
set_option maxRecDepth 8000
theorem bytes_eq {a b : ByteArray} (h : sl a = sl b) : a = b := by rw [of_sl h]
theorem eqS_eq {a b : ByteArray} (h : eqS a b = true) : a = b := by
  unfold eqS at h
  rw [ByteArray.toList_eq, ByteArray.toList_eq] at h
  exact bytes_eq (by simpa [sl] using h)
theorem eqS_self (a : ByteArray) : eqS a a = true := by unfold eqS; simp
theorem eqI_self (a : It) : eqI a a = true := by simp [eqI, eqE, eqR, eqS_self]
theorem eqI_eq {a b : It} (h : eqI a b = true) : a = b := by
  obtain ⟨k, ek, ea, ev, m, n, lo, hi, rk, rn, rv⟩ := a
  obtain ⟨k', ek', ea', ev', m', n', lo', hi', rk', rn', rv'⟩ := b
  simp only [eqI, eqE, eqR, Bool.and_eq_true, beq_iff_eq] at h
  obtain ⟨⟨⟨⟨h1, ⟨h2, h3⟩, h4⟩, h5⟩, h6⟩, ⟨⟨⟨h7, h8⟩, h9⟩, h10⟩, h11⟩ := h
  have e1 := eqS_eq h2
  have e2 := eqS_eq h9
  subst h1 h3 h4 h5 h6 h7 h8 h10 h11 e1 e2
  rfl
/-- An item that may be is one of five. -/
theorem right_form {a : It} (h : right a = true) :
    (a = { bare 1 with ek := a.ek, ea := a.ea, ev := a.ev } ∧ okEv a.ek a.ea = true) ∨ (a = { bare 2 with m := a.m } ∧ wn a.m 0 1099511627776 = true) ∨ a = bare 3 ∨
    (a = { bare 4 with n := a.n } ∧ wn a.n 1 1073741824 = true) ∨ (a = { bare 5 with lo := a.lo, hi := a.hi, rk := a.rk, rn := a.rn, rv := a.rv } ∧ okRes a.rk a.lo a.hi a.rn = true) := by
  unfold right at h
  split at h
  · rw [Bool.and_eq_true] at h; exact .inl ⟨eqI_eq h.2, h.1⟩
  · split at h
    · rw [Bool.and_eq_true] at h; exact .inr (.inl ⟨eqI_eq h.2, h.1⟩)
    · split at h
      · exact .inr (.inr (.inl (eqI_eq h)))
      · split at h
        · rw [Bool.and_eq_true] at h; exact .inr (.inr (.inr (.inl ⟨eqI_eq h.2, h.1⟩)))
        · split at h
          · rw [Bool.and_eq_true] at h; exact .inr (.inr (.inr (.inr ⟨eqI_eq h.2, h.1⟩)))
          · cases h
theorem M1_val : M1 = 9223372036854775807 := rfl
theorem M2_val : M2 = 18446744073709551615 := rfl
/-- A number, a signed one, a text, read where it stands. -/
theorem numS_enc {s : ByteArray} {pre post : List UInt8} {n : Nat} (hl : sl s = pre ++ (enc n ++ post)) (hn : n ≤ M1) : numS s (pre.length, 0) = (n, pre.length + (enc n).length, 0) := by
  unfold numS
  rw [if_pos rfl, hl]
  exact rd_enc hn pre post
theorem sgnS_enc {s : ByteArray} {pre post : List UInt8} {n : Nat} (hl : sl s = pre ++ (enc n ++ post)) (hn : n ≤ M2) : sgnS s (pre.length, 0) = (n, pre.length + (enc n).length, 0) := by
  unfold sgnS
  rw [if_pos rfl, hl]
  exact rd_enc hn pre post
theorem txtS_enc {s k : ByteArray} {pre post : List UInt8} (hl : sl s = pre ++ ((enc k.size ++ sl k) ++ post)) (hk : k.size ≤ 16) : txtS s (pre.length, 0) = (sl k, pre.length + (enc k.size ++ sl k).length, 0) := by
  have hr : rd M1 (sl s) pre.length = (k.size, pre.length + (enc k.size).length, 0) := by
    rw [hl, List.append_assoc]
    exact rd_enc (by rw [M1_val]; omega) pre _
  have hlen : (sl s).length = pre.length + ((enc k.size).length + k.size) + post.length := by
    rw [hl, List.length_append, List.length_append, List.length_append, sl_len]; omega
  unfold txtS
  rw [if_pos rfl]
  show rt (sl s) pre.length = _
  unfold rt
  simp only [hr, ne_eq, not_true_eq_false, if_false]
  rw [if_neg (by omega), if_neg (by omega)]
  have e : ((sl s).drop (pre.length + (enc k.size).length)).take k.size = sl k := by
    rw [hl, ← List.drop_drop, List.drop_left, List.append_assoc, List.drop_left]
    rw [show k.size = (sl k).length from (sl_len k).symm, List.take_left]
  rw [e, List.length_append, sl_len]
  simp only [Prod.mk.injEq, true_and, and_true]
  omega
theorem str_back (k : ByteArray) : (⟨(sl k).toArray⟩ : ByteArray) = k := (of_sl (show sl k = sl k from rfl)).symm
/-- What is written is read. -/
theorem getP_back {s : ByteArray} {a : It} {post : List UInt8} (hr : right a = true) (hf : Fits a) (hl : sl s = itB a ++ post) : getP s = (a, (itB a).length, 0) := by
  have hk0 : ∀ n : Nat, n ≤ 5 → n ≤ M1 := fun n h => by rw [M1_val]; omega
  rcases right_form hr with ⟨e, h⟩ | ⟨e, h⟩ | e | ⟨e, h⟩ | ⟨e, h⟩
  · obtain ⟨p1, p2, p3⟩ := ev_parts h
    obtain ⟨v0, v1, _, _⟩ := hf
    obtain ⟨k, ek, ea, ev, m, n, lo, hi, rk, rn, rv⟩ := a
    simp only [It.mk.injEq] at e
    obtain ⟨rfl, -, -, -, rfl, rfl, rfl, rfl, rfl, rfl, rfl⟩ := e
    simp only at p1 p2 p3 v0 v1
    have hB : itB (⟨1, ek, ea, ev, 0, 0, 0, 0, no, 0, 0⟩ : It) = enc 1 ++ ((enc ek.size ++ sl ek) ++ enc ea.toNat ++ enc (zz ev)) := by simp [itB, evB]
    rw [hB] at hl ⊢
    have q0 := numS_enc (s := s) (pre := []) (n := 1) (post := ((enc ek.size ++ sl ek) ++ enc ea.toNat ++ enc (zz ev)) ++ post) (by rw [hl]; simp) (hk0 1 (by omega))
    have q1 := txtS_enc (s := s) (k := ek) (pre := enc 1) (post := enc ea.toNat ++ enc (zz ev) ++ post) (by rw [hl]; simp) p1
    have q2 := numS_enc (s := s) (pre := enc 1 ++ (enc ek.size ++ sl ek)) (n := ea.toNat) (post := enc (zz ev) ++ post) (by rw [hl]; simp) (by rw [M1_val]; omega)
    have q3 := sgnS_enc (s := s) (pre := enc 1 ++ (enc ek.size ++ sl ek) ++ enc ea.toNat) (n := zz ev) (post := post) (by rw [hl]; simp) (by have := zz_lt v0 v1; rw [M2_val]; omega)
    simp only [List.length_nil, Nat.zero_add] at q0
    rw [List.length_append] at q2
    rw [List.length_append, List.length_append] at q3
    unfold getP
    simp only [q0, q1, q2, q3, if_true, un_zz, str_back]
    rw [show ((ea.toNat : Nat) : Int) = ea by omega]
    simp only [List.length_append, Prod.mk.injEq, true_and, and_true]
    omega
  · obtain ⟨p1, p2⟩ := wn_iff.1 h
    obtain ⟨k, ek, ea, ev, m, n, lo, hi, rk, rn, rv⟩ := a
    simp only [It.mk.injEq] at e
    obtain ⟨rfl, rfl, rfl, rfl, -, rfl, rfl, rfl, rfl, rfl, rfl⟩ := e
    have hB : itB (⟨2, no, 0, 0, m, 0, 0, 0, no, 0, 0⟩ : It) = enc 2 ++ enc m.toNat := by simp [itB]
    rw [hB] at hl ⊢
    have q0 := numS_enc (s := s) (pre := []) (n := 2) (post := enc m.toNat ++ post) (by rw [hl]; simp) (hk0 2 (by omega))
    have q1 := numS_enc (s := s) (pre := enc 2) (n := m.toNat) (post := post) (by rw [hl]; simp) (by rw [M1_val]; simp only at p2; omega)
    simp only [List.length_nil, Nat.zero_add] at q0
    unfold getP
    simp only [q0, q1, show ¬ (2 : Nat) = 1 by omega, if_true, if_false]
    simp only at p1
    rw [show ((m.toNat : Nat) : Int) = m by omega]
    simp only [List.length_append]
  · rw [e] at hl ⊢
    have hB : itB (bare 3) = enc 3 := by simp [itB]
    rw [hB] at hl ⊢
    have q0 := numS_enc (s := s) (pre := []) (n := 3) (post := post) (by rw [hl]; simp) (hk0 3 (by omega))
    simp only [List.length_nil, Nat.zero_add] at q0
    unfold getP
    simp only [q0, show ¬ (3 : Nat) = 1 by omega, show ¬ (3 : Nat) = 2 by omega, if_true, if_false]
  · obtain ⟨p1, p2⟩ := wn_iff.1 h
    obtain ⟨k, ek, ea, ev, m, n, lo, hi, rk, rn, rv⟩ := a
    simp only [It.mk.injEq] at e
    obtain ⟨rfl, rfl, rfl, rfl, rfl, -, rfl, rfl, rfl, rfl, rfl⟩ := e
    have hB : itB (⟨4, no, 0, 0, 0, n, 0, 0, no, 0, 0⟩ : It) = enc 4 ++ enc n.toNat := by simp [itB]
    rw [hB] at hl ⊢
    simp only at p1 p2
    have q0 := numS_enc (s := s) (pre := []) (n := 4) (post := enc n.toNat ++ post) (by rw [hl]; simp) (hk0 4 (by omega))
    have q1 := numS_enc (s := s) (pre := enc 4) (n := n.toNat) (post := post) (by rw [hl]; simp) (by rw [M1_val]; omega)
    simp only [List.length_nil, Nat.zero_add] at q0
    unfold getP
    simp only [q0, q1, show ¬ (4 : Nat) = 1 by omega, show ¬ (4 : Nat) = 2 by omega, show ¬ (4 : Nat) = 3 by omega, if_true, if_false]
    rw [show ((n.toNat : Nat) : Int) = n by omega]
    simp only [List.length_append]
  · obtain ⟨p1, p2, p3, p4, p5, p6⟩ := res_parts h
    obtain ⟨_, _, v0, v1⟩ := hf
    obtain ⟨k, ek, ea, ev, m, n, lo, hi, rk, rn, rv⟩ := a
    simp only [It.mk.injEq] at e
    obtain ⟨rfl, rfl, rfl, rfl, rfl, rfl, -, -, -, -, -⟩ := e
    simp only at p1 p2 p3 p4 p5 p6 v0 v1
    have hB : itB (⟨5, no, 0, 0, 0, 0, lo, hi, rk, rn, rv⟩ : It) = enc 5 ++ ((enc rk.size ++ sl rk) ++ enc lo.toNat ++ enc hi.toNat ++ enc rn.toNat ++ enc (zz rv)) := by simp [itB, resB]
    rw [hB] at hl ⊢
    have q0 := numS_enc (s := s) (pre := []) (n := 5) (post := ((enc rk.size ++ sl rk) ++ enc lo.toNat ++ enc hi.toNat ++ enc rn.toNat ++ enc (zz rv)) ++ post) (by rw [hl]; simp) (hk0 5 (by omega))
    have q1 := txtS_enc (s := s) (k := rk) (pre := enc 5) (post := enc lo.toNat ++ enc hi.toNat ++ enc rn.toNat ++ enc (zz rv) ++ post) (by rw [hl]; simp) p1
    have q2 := numS_enc (s := s) (pre := enc 5 ++ (enc rk.size ++ sl rk)) (n := lo.toNat) (post := enc hi.toNat ++ enc rn.toNat ++ enc (zz rv) ++ post) (by rw [hl]; simp) (by rw [M1_val]; omega)
    have q3 := numS_enc (s := s) (pre := enc 5 ++ (enc rk.size ++ sl rk) ++ enc lo.toNat) (n := hi.toNat) (post := enc rn.toNat ++ enc (zz rv) ++ post) (by rw [hl]; simp) (by rw [M1_val]; omega)
    have q4 := numS_enc (s := s) (pre := enc 5 ++ (enc rk.size ++ sl rk) ++ enc lo.toNat ++ enc hi.toNat) (n := rn.toNat) (post := enc (zz rv) ++ post) (by rw [hl]; simp) (by rw [M1_val]; omega)
    have q5 := sgnS_enc (s := s) (pre := enc 5 ++ (enc rk.size ++ sl rk) ++ enc lo.toNat ++ enc hi.toNat ++ enc rn.toNat) (n := zz rv) (post := post) (by rw [hl]; simp) (by have := zz_lt v0 v1; rw [M2_val]; omega)
    simp only [List.length_nil, Nat.zero_add] at q0
    rw [List.length_append] at q2
    rw [List.length_append, List.length_append] at q3
    rw [List.length_append, List.length_append, List.length_append] at q4
    rw [List.length_append, List.length_append, List.length_append, List.length_append] at q5
    unfold getP
    simp only [q0, q1, q2, q3, q4, q5, show ¬ (5 : Nat) = 1 by omega, show ¬ (5 : Nat) = 2 by omega, show ¬ (5 : Nat) = 3 by omega, show ¬ (5 : Nat) = 4 by omega, if_true, if_false, un_zz, str_back]
    rw [show ((lo.toNat : Nat) : Int) = lo by omega, show ((hi.toNat : Nat) : Int) = hi by omega, show ((rn.toNat : Nat) : Int) = rn by omega]
    simp only [List.length_append, Prod.mk.injEq, true_and, and_true]
    omega
theorem getF_back {s : ByteArray} {a : It} (hr : right a = true) (hf : Fits a) (hl : sl s = itB a) : getF s = (a, 0) := by
  have h := getP_back (post := []) hr hf (by rw [hl, List.append_nil])
  have e : (itB a).length = s.size := by rw [← hl, sl_len]
  unfold getF
  rw [h]
  unfold fin
  rw [if_neg (by simp), if_neg (by simp only; omega), if_pos hr]
theorem getF_more {s : ByteArray} {a : It} {c : UInt8} (hr : right a = true) (hf : Fits a) (hl : sl s = itB a ++ [c]) : getF s = (bare 0, 21) := by
  have h := getP_back (post := [c]) hr hf hl
  have e : s.size = (itB a).length + 1 := by rw [← sl_len, hl, List.length_append]; rfl
  unfold getF
  rw [h]
  unfold fin
  rw [if_neg (by simp), if_pos (by simp only; omega)]
end Go.Proofs.Ythfbcfddfbipfaa
