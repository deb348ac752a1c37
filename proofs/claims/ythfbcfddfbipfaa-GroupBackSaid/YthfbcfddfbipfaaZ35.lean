/- GroupPutC, put together. -/
import Derived.Test.YthfbcfddfbipfaaZ34
import Derived.Test.YthfbcfddfbipfaaZ29
/- Put of the code. -/
namespace Go.Proofs.Ythfbcfddfbipfaa
open Go.RowKit
open Itm Vlq
set_option linter.unusedVariables false
set_option maxRecDepth 8000
namespace Grp
open Pan (Pn Pl)
/-- A closure that writes, made. -/
def GivesWr (F G : FuncId) (T : TypeId) (b : Nat) (w : World) (e : Ending) (w' : World) : Prop :=
  ∃ b1 b2, e = .returned (.func (.func F) #[] #[.pointer (some ⟨b1, 0, none⟩), .pointer (some ⟨b2, 0, none⟩)]) ∧ Capt b b1 b2 G T w' ∧ Below w.heap.size w w'
theorem capt_new (b : Nat) (G : FuncId) (T : TypeId) (w : World) (hb : b < w.heap.size) :
    Capt b w.heap.size (w.heap.size + 1) G T ((w.alloc (.cells #[.pointer (some ⟨b, 0, none⟩)] 79)).alloc (.cells #[.func (.func G) #[] #[]] T)) :=
  ⟨(Lies.new w _ _).al, lies_two _ _ _ _, by omega, by omega⟩
theorem gpWriterN (b : Nat) (G : FuncId) (w : World) (hb : b < w.heap.size) :
    Calls Try.prog 48 #[.pointer (some ⟨b, 0, none⟩), .func (.func G) #[] #[]] w (GivesWr 79 G 85 b w) := by
  go_enter Try.func48, Try.ntmps48
  go_wp2_with fail
  go_ret
  exact ⟨_, _, rfl, capt_new b G _ w hb, below_al (below_al (Below.refl _ _))⟩
theorem gpWriterS (b : Nat) (G : FuncId) (w : World) (hb : b < w.heap.size) :
    Calls Try.prog 51 #[.pointer (some ⟨b, 0, none⟩), .func (.func G) #[] #[]] w (GivesWr 84 G 88 b w) := by
  go_enter Try.func51, Try.ntmps51
  go_wp2_with fail
  go_ret
  exact ⟨_, _, rfl, capt_new b G _ w hb, below_al (below_al (Below.refl _ _))⟩
/-- Bytes were written to the builder in block b. -/
def Wrote (b : Nat) (l : List UInt8) (w : World) (e : Ending) (w' : World) : Prop := e = .returned (.tuple #[]) ∧ Bld.At b l w' ∧ Kp b w w'
theorem gpNum3 (b b1 b2 a : Nat) (x y z : Int) (c : Nat) (l : List UInt8) (w : World) (hB : Bld.At b l w) (hC : Capt b b1 b2 49 85 w) (hA : Lies a #[.int .i64 x, .int .i64 y, .int .i64 z] 2 w) (hab : a ≠ b)
    (hx : 0 ≤ x ∧ x ≤ 9223372036854775807) (hy : 0 ≤ y ∧ y ≤ 9223372036854775807) (hz : 0 ≤ z ∧ z ≤ 9223372036854775807) (hlen : l.length ≤ 900000000) :
    Calls Try.prog 79 #[.slice (some ⟨a, 0, none⟩) 3 c, .pointer (some ⟨b1, 0, none⟩), .pointer (some ⟨b2, 0, none⟩)] w (Wrote b (l ++ (enc x.toNat ++ enc y.toNat ++ enc z.toNat)) w) := by
  have h := gpNumbers b b1 b2 a [x, y, z] c l w hB hC hA hab (by simp only [List.mem_cons, List.not_mem_nil, or_false]; rintro u (rfl | rfl | rfl) <;> assumption) (by simp; omega) (by simp)
  unfold Wrote
  simpa using h
theorem gpSig2 (b b1 b2 a : Nat) (x y : Int) (c : Nat) (l : List UInt8) (w : World) (hB : Bld.At b l w) (hC : Capt b b1 b2 50 85 w) (hA : Lies a #[.int .i64 x, .int .i64 y] 2 w) (hab : a ≠ b)
    (hx : -9223372036854775808 ≤ x ∧ x ≤ 9223372036854775807) (hy : -9223372036854775808 ≤ y ∧ y ≤ 9223372036854775807) (hlen : l.length ≤ 900000000) :
    Calls Try.prog 79 #[.slice (some ⟨a, 0, none⟩) 2 c, .pointer (some ⟨b1, 0, none⟩), .pointer (some ⟨b2, 0, none⟩)] w (Wrote b (l ++ (enc (zz x) ++ enc (zz y))) w) := by
  have h := gpSigned b b1 b2 a [x, y] c l w hB hC hA hab (by simp only [List.mem_cons, List.not_mem_nil, or_false]; rintro u (rfl | rfl) <;> assumption) (by simp; omega) (by simp)
  unfold Wrote
  simpa using h
theorem gpTxt1 (b b1 b2 a : Nat) (k : List UInt8) (c : Nat) (l : List UInt8) (w : World) (hB : Bld.At b l w) (hC : Capt b b1 b2 52 88 w) (hA : Lies a #[.string (kS k)] 9 w) (hab : a ≠ b)
    (hx : k.length ≤ 16) (hlen : l.length ≤ 900000000) :
    Calls Try.prog 84 #[.slice (some ⟨a, 0, none⟩) 1 c, .pointer (some ⟨b1, 0, none⟩), .pointer (some ⟨b2, 0, none⟩)] w (Wrote b (l ++ (enc k.length ++ k)) w) := by
  have h := gpTexts b b1 b2 a [kS k] c l w hB hC hA hab (by simp only [List.mem_cons, List.not_mem_nil, or_false]; rintro u rfl; rw [kS_size]; exact hx) (by simp; omega) (by simp)
  have e1 : sl (kS k) = k := (key_bytes k).1
  have e2 : (kS k).size = k.length := kS_size k
  unfold Wrote
  simpa [e1, e2] using h
theorem pnB_len {x : Pn} (hm : Pan.may x = true) (hf : FitP x) : (pnB x).length ≤ 76 := by
  obtain ⟨h1, h2, h3, h4, h5, h6⟩ := of_decide_eq_true hm
  obtain ⟨f1, f2, f3, f4, f5⟩ := hf
  have e1 := enc10 x.p.key.length (by omega)
  have e2 := enc10 x.p.lo.toNat (by omega)
  have e3 := enc10 x.p.hi.toNat (by omega)
  have e4 := enc10 x.acc.n.toNat (by omega)
  have e5 := enc10 (zz x.acc.a) (zz_lt f2 f3)
  have e6 := enc10 (zz x.acc.b) (zz_lt f4 f5)
  unfold pnB
  simp only [List.length_append]
  omega
set_option maxRecDepth 100000 in
set_option maxHeartbeats 4000000 in
theorem gpPutBad (g : Gp) (A : Option Addr) (c : Nat) (w : World) (hA : Row w A (pc g.ps)) (hl : g.ps.length ≤ 9223372036854775807) (hr : right g = false) :
    Calls Try.prog 22 #[gpV g.no g.mark (.slice A g.ps.length c)] w (IsStrErr [] 1 w) := by
  have HR := Lib.hid (fun w' (hb : Below w.heap.size w w') => hr ▸ gpRight g A c w' (hA.below hb) hl)
  clear hr hA
  go_enter Try.func22, Try.ntmps22
  go_wp2_with fail
  refine (HR.out _ (below_al (Below.refl _ _))).mono ?_
  rintro e w1 ⟨rfl, hb1⟩
  have HB1 := Lib.hid (below_next (below_al (Below.refl _ _)) hb1)
  clear hb1
  go_wp2_with fail
  go_ret2
  exact ⟨rfl, HB1.out⟩
/-- Where the loop over panes stands. -/
structure PutAt (b n1 n2 s1 s2 t1 t2 : Nat) (no mark : Int) (sv : Value) (l : List UInt8) (w0 w : World) : Prop where
  bld : Bld.At b l w
  num : Capt b n1 n2 49 85 w
  sig : Capt b s1 s2 50 85 w
  txt : Capt b t1 t2 52 88 w
  gp : Lies w0.heap.size (gpC no mark sv) 26 w
  below : Below w0.heap.size w0 w
  base : w0.heap.size < b
theorem PutAt.wrote {b n1 n2 s1 s2 t1 t2 : Nat} {no mark : Int} {sv : Value} {l l' : List UInt8} {w0 w w' : World} (h : PutAt b n1 n2 s1 s2 t1 t2 no mark sv l w0 w) (hB : Bld.At b l' w') (hk : Kp b w w') : PutAt b n1 n2 s1 s2 t1 t2 no mark sv l' w0 w' :=
  ⟨hB, h.num.kp hk (by decide), h.sig.kp hk (by decide), h.txt.kp hk (by decide), hk.lies h.gp (Nat.ne_of_lt h.base) (by decide), h.below.trans (hk.below.mono (Nat.le_of_lt h.base)), h.base⟩
theorem PutAt.next {b n1 n2 s1 s2 t1 t2 : Nat} {no mark : Int} {sv : Value} {l : List UInt8} {w0 w w' : World} (h : PutAt b n1 n2 s1 s2 t1 t2 no mark sv l w0 w) (hb : Below w.heap.size w w') : PutAt b n1 n2 s1 s2 t1 t2 no mark sv l w0 w' :=
  h.wrote (h.bld.below hb) (Kp.of_below hb (Nat.le_of_lt h.bld.lt))
theorem PutAt.gps {b n1 n2 s1 s2 t1 t2 : Nat} {no mark : Int} {sv : Value} {l : List UInt8} {w0 w : World} (h : PutAt b n1 n2 s1 s2 t1 t2 no mark sv l w0 w) :
    w.cell? ⟨w0.heap.size, 0, none⟩ = some (.int .i64 no) ∧ w.cell? ⟨w0.heap.size, 1, none⟩ = some (.int .i64 mark) ∧ w.cell? ⟨w0.heap.size, 2, none⟩ = some sv := ⟨h.gp.cell (j := 0) rfl, h.gp.cell (j := 1) rfl, h.gp.cell (j := 2) rfl⟩
set_option maxRecDepth 100000 in
set_option maxHeartbeats 4000000 in
theorem gpPutOk (g : Gp) (A : Option Addr) (c : Nat) (w : World) (hA : Row w A (pc g.ps)) (hr : right g = true) (hf : ∀ x ∈ g.ps, FitP x) :
    Calls Try.prog 22 #[gpV g.no g.mark (.slice A g.ps.length c)] w (IsStrErr (gpB g) 0 w) := by
  obtain ⟨⟨r1, r2, r3, r4⟩, r5, r6⟩ := (right_iff g).1 hr
  obtain ⟨p1, p2, _⟩ := (Pan.right_iff _).1 r5
  obtain ⟨no, mark, xs⟩ := g
  simp only at r1 r2 r3 r4 p1 p2 hA hf ⊢
  have HR := Lib.hid (fun w' (hb : Below w.heap.size w w') => hr ▸ gpRight ⟨no, mark, xs⟩ A c w' (hA.below hb) (by show xs.length ≤ _; omega))
  have HA := Lib.hid hA; have HM := Lib.hid p2; have HFT := Lib.hid hf
  have HN := Lib.hid (And.intro (And.intro r1 r2) (And.intro r3 r4))
  have HP := Lib.hid p1
  obtain ⟨hd, hhd⟩ : ∃ hd, hd = enc no.toNat ++ enc mark.toNat ++ enc xs.length := ⟨_, rfl⟩
  have HHD := Lib.hid hhd
  have hhl : hd.length ≤ 30 := by
    have e1 := enc10 no.toNat (by omega); have e2 := enc10 mark.toNat (by omega); have e3 := enc10 xs.length (by omega)
    rw [hhd]; simp only [List.length_append]; omega
  have hh0 : hd ≠ [] := by
    rw [hhd]; intro h; have := enc_ne xs.length; simp at h; exact this h.2.2
  have HHL := Lib.hid hhl; have HH0 := Lib.hid hh0
  clear hr hA r1 r2 r3 r4 r5 r6 p1 p2 hf hhd hhl hh0
  go_enter Try.func22, Try.ntmps22
  go_wp2_with fail
  refine (HR.out _ (below_al (Below.refl _ _))).mono ?_
  rintro e w1 ⟨rfl, hb1⟩
  have HB1 := Lib.hid (below_next (below_al (Below.refl _ _)) hb1)
  have L1 := Lib.hid (show Lies w.heap.size (gpC no mark (.slice A xs.length c)) 26 w1 from (hb1.block _ (by simp)).trans (Lies.new w _ _))
  have N1 := Lib.hid (Bld.At.new w1)
  have Q1 := Lib.hid (show w.heap.size < w1.heap.size from lt_of_block L1.out)
  have HWN := Lib.hid (fun G w' (h : w1.heap.size < w'.heap.size) => gpWriterN w1.heap.size G w' h)
  have HWS := Lib.hid (fun G w' (h : w1.heap.size < w'.heap.size) => gpWriterS w1.heap.size G w' h)
  clear hb1
  go_wp2_with fail
  refine (HWN.out _ _ N1.out.lt).mono ?_
  rintro e w2 ⟨n1, n2, rfl, C1, hb2⟩
  have N2 := Lib.hid (N1.out.below hb2)
  have C1 := Lib.hid C1
  have L2 := Lib.hid (L1.out.al.below hb2)
  have HB2 := Lib.hid (below_next (below_next HB1.out (below_al (Below.refl _ _))) hb2)
  clear hb2
  go_wp2_with fail
  refine (HWN.out _ _ N2.out.lt).mono ?_
  rintro e w3 ⟨s1, s2, rfl, C2, hb3⟩
  have N3 := Lib.hid (N2.out.below hb3)
  have C1 := Lib.hid (C1.out.kp (Kp.of_below hb3 (Nat.le_of_lt N2.out.lt)) (by decide))
  have C2 := Lib.hid C2
  have L3 := Lib.hid (L2.out.below hb3)
  have HB3 := Lib.hid (below_next HB2.out hb3)
  clear hb3
  go_wp2_with fail
  refine (HWS.out _ _ N3.out.lt).mono ?_
  rintro e w4 ⟨t1, t2, rfl, C3, hb4⟩
  obtain ⟨b, hbq⟩ : ∃ b, b = w1.heap.size := ⟨_, rfl⟩
  have P4 := Lib.hid (show PutAt b n1 n2 s1 s2 t1 t2 no mark (.slice A xs.length c) [] w w4 from hbq ▸ ⟨N3.out.below hb4, C1.out.kp (Kp.of_below hb4 (Nat.le_of_lt N3.out.lt)) (by decide), C2.out.kp (Kp.of_below hb4 (Nat.le_of_lt N3.out.lt)) (by decide), C3, L3.out.below hb4, below_next HB3.out hb4, Q1.out⟩)
  rw [← hbq]
  clear hb4 C3 HWN HWS N1 N2 N3 L1 L2 L3 HB1 HB2 HB3 C1 C2 Q1 hbq
  obtain ⟨g0, g1, g2⟩ := P4.out.gps
  have P5 := Lib.hid (P4.out.next (below_al (o := .cells #[.int .i64 no, .int .i64 mark, .int .i64 (xs.length : Int)] 2) (Below.refl _ _)))
  have HW1 := Lib.hid (gpNum3 b n1 n2 w4.heap.size no mark xs.length 3 [] _ P5.out.bld P5.out.num (Lies.new w4 _ _) (by have := P4.out.bld.lt; omega) (by have := HN.out; omega) (by have := HN.out; omega) (by have := HP.out; omega) (by simp))
  rw [List.nil_append, Int.toNat_natCast, ← HHD.out] at HW1
  go_wp2_with fail
  refine HW1.out.mono ?_
  rintro e w6 ⟨rfl, hB6, hk6⟩
  have P6 := Lib.hid (P5.out.wrote hB6 hk6)
  clear hB6 hk6 g0 g1 g2 HW1 P4 P5
  obtain ⟨g0, g1, g2⟩ := P6.out.gps
  have hp20 : xs.length ≤ 2000 := HP.out
  go_wp2_with fail
  clear g0 g1 g2
  go_loopw [29] (fun i wr => ∃ k : Nat, i = .int .i64 k ∧ k ≤ xs.length ∧ PutAt b n1 n2 s1 s2 t1 t2 no mark (.slice A xs.length c) (hd ++ (xs.take k).flatMap pnB) w wr ∧ (hd ++ (xs.take k).flatMap pnB).length ≤ 30 + 76 * k) (fun i _ => xs.length - (intOf i).toNat)
  case atStart => exact ⟨0, rfl, Nat.zero_le _, by simpa using P6.out, by simpa using HHL.out⟩
  case round =>
    obtain ⟨k, rfl, hk, hPr, hLk⟩ := hrel
    have PR := Lib.hid hPr; have HLK := Lib.hid hLk
    clear hPr hLk
    by_cases hlt : k < xs.length
    · obtain ⟨x, hx⟩ : ∃ x, xs[k]? = some x := ⟨_, List.getElem?_eq_getElem hlt⟩
      obtain ⟨bA, oA, rfl, c0, c1, c2, c3, c4, c5⟩ := (HA.out.below PR.out.below).pn hx
      have HX := Lib.hid (List.mem_of_getElem? hx)
      have HT := Lib.hid (show (xs.take (k + 1)).flatMap pnB = (xs.take k).flatMap pnB ++ pnB x by rw [List.take_add_one, hx, List.flatMap_append]; simp)
      have HMX := Lib.hid (HM.out x HX.out); have HFX := Lib.hid (HFT.out x HX.out)
      obtain ⟨l, hl⟩ : ∃ l, l = hd ++ (xs.take k).flatMap pnB := ⟨_, rfl⟩
      rw [← hl] at PR HLK
      have HL := Lib.hid hl
      clear hx hl
      have hbl : b < wr.heap.size := PR.out.bld.lt
      have hll : l.length ≤ 800000000 := by have := HLK.out; omega
      have HPL := Lib.hid (pnB_len HMX.out HFX.out)
      have PQ := Lib.hid ((PR.out.next (below_al (o := .cells (paC x) 59) (Below.refl _ _))).next (below_al (o := .cells #[.string (kS x.p.key)] 9) (Below.refl _ _)))
      have LQ := Lib.hid (Lies.al (o := .cells #[.string (kS x.p.key)] 9) (Lies.new wr (paC x) 59))
      obtain ⟨m1, m2, m3, m4, m5, m6⟩ := of_decide_eq_true HMX.out
      have HB2 := Lib.hid hbl
      have HW2 := Lib.hid (gpTxt1 b t1 t2 (wr.heap.size + 1) x.p.key 1 l _ PQ.out.bld PQ.out.txt (lies_two _ _ _ _) (by omega) (by omega) (by omega))
      have HMM := Lib.hid (show (0 ≤ x.p.lo ∧ x.p.lo ≤ 9223372036854775807) ∧ (0 ≤ x.p.hi ∧ x.p.hi ≤ 9223372036854775807) ∧ (0 ≤ x.acc.n ∧ x.acc.n ≤ 9223372036854775807) from by have := HFX.out.n; omega)
      have HLL := Lib.hid (show (l ++ (enc x.p.key.length ++ x.p.key)).length ≤ 800000100 from by have := enc10 x.p.key.length (by omega); simp only [List.length_append]; omega)
      have HLM := Lib.hid (show ((l ++ (enc x.p.key.length ++ x.p.key)) ++ (enc x.p.lo.toNat ++ enc x.p.hi.toNat ++ enc x.acc.n.toNat)).length ≤ 800000200 from by
        have e2 := enc10 x.p.lo.toNat (by omega); have e3 := enc10 x.p.hi.toNat (by omega); have e4 := enc10 x.acc.n.toNat (by have := HFX.out.n; omega); have e5 := HLL.out
        simp only [List.length_append] at e5 ⊢; omega)
      clear m1 m2 m3 m4 m5 m6 hbl hll
      go_wp2_with fail
      refine HW2.out.mono ?_
      rintro e w7 ⟨rfl, hB7, hk7⟩
      have P7 := Lib.hid (PQ.out.wrote hB7 hk7)
      have L7 := Lib.hid (hk7.lies LQ.out (by have := HB2.out; omega) (by decide))
      clear hB7 hk7 c0 c1 c2 c3 c4 c5
      have z0 := L7.out.cell (j := 0) rfl; have z1 := L7.out.cell (j := 1) rfl; have z3 := L7.out.cell (j := 3) rfl
      have P8 := Lib.hid (P7.out.next (below_al (o := .cells #[.int .i64 x.p.lo, .int .i64 x.p.hi, .int .i64 x.acc.n] 2) (Below.refl _ _)))
      have L8 := Lib.hid (Lies.al (o := .cells #[.int .i64 x.p.lo, .int .i64 x.p.hi, .int .i64 x.acc.n] 2) L7.out)
      have HW3 := Lib.hid (gpNum3 b n1 n2 w7.heap.size x.p.lo x.p.hi x.acc.n 3 _ _ P8.out.bld P8.out.num (Lies.new w7 _ _) (by have := P7.out.bld.lt; omega) HMM.out.1 HMM.out.2.1 HMM.out.2.2 (by have := HLL.out; omega))
      go_wp2_with fail
      refine HW3.out.mono ?_
      rintro e w8 ⟨rfl, hB8, hk8⟩
      have P9 := Lib.hid (P8.out.wrote hB8 hk8)
      have L9 := Lib.hid (hk8.lies L8.out (by have := HB2.out; omega) (by decide))
      clear hB8 hk8 z0 z1 z3
      have z4 := L9.out.cell (j := 4) rfl; have z5 := L9.out.cell (j := 5) rfl
      have P10 := Lib.hid (P9.out.next (below_al (o := .cells #[.int .i64 x.acc.a, .int .i64 x.acc.b] 2) (Below.refl _ _)))
      have HW4 := Lib.hid (gpSig2 b s1 s2 w8.heap.size x.acc.a x.acc.b 2 _ _ P10.out.bld P10.out.sig (Lies.new w8 _ _) (by have := P9.out.bld.lt; omega) ⟨HFX.out.a0, HFX.out.a1⟩ ⟨HFX.out.b0, HFX.out.b1⟩ (by have := HLM.out; omega))
      go_wp2_with fail
      refine HW4.out.mono ?_
      rintro e w9 ⟨rfl, hB9, hk9⟩
      have P11 := Lib.hid (P10.out.wrote hB9 hk9)
      clear hB9 hk9 z4 z5
      have HE := Lib.hid (show l ++ (enc x.p.key.length ++ x.p.key) ++ (enc x.p.lo.toNat ++ enc x.p.hi.toNat ++ enc x.acc.n.toNat) ++ (enc (zz x.acc.a) ++ enc (zz x.acc.b)) = hd ++ (xs.take (k + 1)).flatMap pnB from by
        rw [HT.out, ← List.append_assoc hd, ← HL.out]; unfold pnB; simp only [List.append_assoc])
      go_wp2_with fail
      go_roundw
      case rel => exact ⟨k + 1, rfl, by omega, by rw [← HE.out]; exact P11.out, by have h1 := HLK.out; have h2 := HPL.out; rw [HT.out, ← List.append_assoc, ← HL.out, List.length_append]; omega⟩
      case measure => simp [intOf]; omega
    · have PE := Lib.hid (show PutAt b n1 n2 s1 s2 t1 t2 no mark (.slice A xs.length c) (gpB ⟨no, mark, xs⟩) w wr from by
        have h := PR.out
        rw [List.take_of_length_le (by omega), HHD.out] at h
        exact h)
      have HS := Lib.hid (Bld.string b (gpB ⟨no, mark, xs⟩) wr PE.out.bld (by
        intro h
        have h1 : gpB ⟨no, mark, xs⟩ = hd ++ xs.flatMap pnB := by rw [HHD.out]; rfl
        rw [h1] at h
        exact HH0.out (List.append_eq_nil_iff.1 h).1))
      go_wp2_with fail
      refine HS.out.mono ?_
      rintro e w7 ⟨rfl, hb7⟩
      have HB7 := Lib.hid (PE.out.below.trans (hb7.mono (Nat.le_of_lt PE.out.base)))
      clear hb7
      go_wp2_with fail
      go_ret2
      exact ⟨rfl, HB7.out⟩
end Grp
end Go.Proofs.Ythfbcfddfbipfaa
