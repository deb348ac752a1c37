/- The walk of the law LinkAcks. -/
import Derived.Test.YtbdlmokgmgpbfaaLawsLinkA
import Derived.Test.YtbdlmokgmgpbfaaLinkAckC
import Derived.Test.YtbdlmokgmgpbfaaLinkPlay
import Derived.Lib.MinMax
namespace Go.Proofs.Ytbdlmokgmgpbfaa
open Go.ChangeShapes Go.WideShapes Go.ChangeAt Go.RowKit
set_option linter.unusedVariables false
set_option maxRecDepth 8000
namespace Lk
open Gen (TellsB TellsI)
theorem tmod_bounds (a : Int) {n : Int} (h : 0 < n) : -n < a.tmod n ∧ a.tmod n < n := by
  refine ⟨?_, Int.tmod_lt_of_pos a h⟩
  rcases Int.le_total 0 a with h0 | h0
  · have := Int.tmod_nonneg n h0; omega
  · have e : a = -(-a) := by omega
    rw [e, Int.neg_tmod, Int.tmod_eq_emod_of_nonneg (by omega)]
    have := Int.emod_lt_of_pos (-a) h
    omega
/-- A place of n, of any number. -/
theorem place {a n : Int} (h : 0 < n) : 0 ≤ (a.tmod n + n).tmod n ∧ (a.tmod n + n).tmod n < n := by
  have h1 := tmod_bounds a h
  exact ⟨Int.tmod_nonneg n (by omega), Int.tmod_lt_of_pos _ h⟩
set_option maxRecDepth 100000 in
set_option maxHeartbeats 1000000 in
/-- Where nothing is asked. -/
theorem acksNot (s : Sn) (A : Option Addr) (c : Nat) (a b : Int) (w : World) (h : Row w A (bcs s.bodies)) (hno : (20 : Int) < s.bodies.length ∨ ¬ (20 : Int) < s.bodies.length ∧ rightS s = false) :
    Calls Try.prog 8 #[snV s A c, .int .i64 a, .int .i64 b] w (TellsB true w) := by
  obtain ⟨ep, ba, bs, ti⟩ := s
  simp only at h hno
  obtain ⟨n, hn⟩ : ∃ n, n = bs.length := ⟨_, rfl⟩
  obtain ⟨r, hr⟩ : ∃ r, r = rightS ⟨ep, ba, bs, ti⟩ := ⟨_, rfl⟩
  show Calls _ _ #[.agg #[.int .i64 ep, .int .i64 ba, .slice A bs.length c, .int .i64 ti], _, _] _ _
  rw [← hn] at hno ⊢
  rw [← hr] at hno
  have hb0 := below_al (o := .cells #[.int .i64 ep, .int .i64 ba, .slice A n c, .int .i64 ti] 24) (Below.refl w.heap.size w)
  have HB := Lib.hid hb0
  have HR := Lib.hid (fun (hl : n ≤ 4611686018427387904) w' (hb' : Below w.heap.size w w') => ckRight ep ba bs n ti A c r hn hr w' (h.below hb') hl)
  have HA := Lib.hid (fun w => lawAliveL w)
  clear hn hr h hb0
  rcases hno with g | ⟨g, rfl⟩
  · go_enter Try.func8, Try.ntmps8
    go_wp2_with fail
    refine (HA.out _).mono ?_
    rintro e w1 ⟨rfl, hb1⟩
    have HB1 := Lib.hid (below_next HB.out hb1)
    clear hb1
    go_wp2_with fail
    go_ret
    exact ⟨rfl, HB1.out⟩
  · go_enter Try.func8, Try.ntmps8
    go_wp2_with fail
    refine (HR.out (by omega) _ HB.out).mono ?_
    rintro e w1 ⟨rfl, hb1⟩
    have HB1 := Lib.hid (below_next HB.out hb1)
    clear hb1
    go_wp2_with fail
    refine (HA.out _).mono ?_
    rintro e w2 ⟨rfl, hb2⟩
    have HB2 := Lib.hid (below_next HB1.out hb2)
    clear hb2
    go_wp2_with fail
    go_ret
    exact ⟨rfl, HB2.out⟩
/-- A sender in a block, with its bodies. -/
structure SnAt (b : Nat) (s : Sn) (n : Nat) (A : Option Addr) (c : Nat) (w : World) : Prop where
  at_ : Lies b #[.int .i64 s.epoch, .int .i64 s.base, .slice A n c, .int .i64 s.timer] 24 w
  row : Row w A (bcs s.bodies)
  len : n = s.bodies.length
theorem SnAt.next {b : Nat} {s : Sn} {n : Nat} {A : Option Addr} {c : Nat} {w w' : World} (h : SnAt b s n A c w) (hb : Below w.heap.size w w') : SnAt b s n A c w' := ⟨h.at_.below hb, h.row.below hb, h.len⟩
theorem SnAt.new {s : Sn} {n : Nat} {A : Option Addr} {c : Nat} {w : World} (h : Row w A (bcs s.bodies)) (hn : n = s.bodies.length) : SnAt w.heap.size s n A c (w.alloc (.cells #[.int .i64 s.epoch, .int .i64 s.base, .slice A n c, .int .i64 s.timer] 24)) :=
  ⟨Lies.new w _ _, h.below (below_al (Below.refl _ _)), hn⟩
/-- Hands back a sender, and why not. -/
def GivesA (s : Sn) (n : Nat) (z : Int) (w : World) (e : Ending) (w' : World) : Prop :=
  ∃ A c, e = .returned (.tuple #[.agg #[.int .i64 s.epoch, .int .i64 s.base, .slice A n c, .int .i64 s.timer], .int .i64 z]) ∧ Row w' A (bcs s.bodies) ∧ Below w.heap.size w w'
theorem ckAckS (s : Sn) (n : Nat) (A : Option Addr) (c : Nat) (epoch want : Int) (s' : Sn) (z : Int) (n' : Nat) (ho : (s', z) = ackO s epoch want) (w : World) (hn : n = s.bodies.length) (hn' : n' = s'.bodies.length) (hl : n ≤ 4611686018427387904) (h : Row w A (bcs s.bodies)) :
    Calls Try.prog 15 #[.agg #[.int .i64 s.epoch, .int .i64 s.base, .slice A n c, .int .i64 s.timer], .int .i64 epoch, .int .i64 want] w (GivesA s' n' z w) := by
  obtain ⟨ep, ba, bs, ti⟩ := s
  subst hn'
  refine (ckAck ep ba ti bs n hn hl A c epoch want _ ho w h).mono ?_
  rintro e w' ⟨A', c', rfl, ho', hb⟩
  exact ⟨A', c', rfl, row_of_ownL ho' (by omega), hb⟩
theorem rfLikeS (s : Sn) (n : Nat) (A A' : Option Addr) (c c' : Nat) (w : World) (hn : n = s.bodies.length) (hl : n ≤ 100000) (hA : Row w A (bcs s.bodies)) (hA' : Row w A' (bcs s.bodies)) :
    Calls Try.prog 14 #[.agg #[.int .i64 s.epoch, .int .i64 s.base, .slice A n c, .int .i64 s.timer], .agg #[.int .i64 s.epoch, .int .i64 s.base, .slice A' n c', .int .i64 s.timer]] w (TellsB true w) := by
  obtain ⟨ep, ba, bs, ti⟩ := s
  exact rfLike ep ba ti bs n hn hl A A' c c' w hA hA'
set_option maxRecDepth 100000 in
set_option maxHeartbeats 2000000 in
theorem acksYes (s : Sn) (A : Option Addr) (c : Nat) (a b : Int) (w : World) (h : Row w A (bcs s.bodies)) (hr : rightS s = true) : Calls Try.prog 8 #[snV s A c, .int .i64 a, .int .i64 b] w (TellsB true w) := by
  obtain ⟨q1, q2, q3, q4, q5, q6⟩ := (right_iff _).1 hr
  obtain ⟨n, hn⟩ : ∃ n, n = s.bodies.length := ⟨_, rfl⟩
  show Calls _ _ #[.agg #[.int .i64 s.epoch, .int .i64 s.base, .slice A s.bodies.length c, .int .i64 s.timer], _, _] _ _
  rw [← hn] at q2 q4 ⊢
  -- the numbers
  obtain ⟨N, hN⟩ : ∃ N : Int, N = (n : Int) + 1 := ⟨_, rfl⟩
  have hw0 : IntKind.i64.wrap ((n : Int) + 1) = N := by rw [hN]; exact wrap64L (by omega) (by omega)
  have hne : (N == 0) = false := ne_b (by omega)
  have hne2 : ¬ N = 0 := by omega
  obtain ⟨i1, hi1⟩ : ∃ i, i = (a.tmod N + N).tmod N := ⟨_, rfl⟩
  obtain ⟨i2, hi2⟩ : ∃ i, i = (b.tmod N + N).tmod N := ⟨_, rfl⟩
  have p1 := place (a := a) (n := N) (by omega)
  have p2 := place (a := b) (n := N) (by omega)
  have t1 := tmod_bounds a (n := N) (by omega)
  have t2 := tmod_bounds b (n := N) (by omega)
  rw [← hi1] at p1
  rw [← hi2] at p2
  obtain ⟨x1, hx1⟩ : ∃ x, a.tmod N = x := ⟨_, rfl⟩
  obtain ⟨x2, hx2⟩ : ∃ x, b.tmod N = x := ⟨_, rfl⟩
  rw [hx1] at hi1 t1
  rw [hx2] at hi2 t2
  obtain ⟨y1, hy1⟩ : ∃ y, y = x1 + N := ⟨_, rfl⟩
  obtain ⟨y2, hy2⟩ : ∃ y, y = x2 + N := ⟨_, rfl⟩
  have hw1 : IntKind.i64.wrap (x1 + N) = y1 := by rw [hy1]; exact wrap64L (by omega) (by omega)
  have hw2 : IntKind.i64.wrap (x2 + N) = y2 := by rw [hy2]; exact wrap64L (by omega) (by omega)
  rw [← hy1] at hi1
  rw [← hy2] at hi2
  obtain ⟨a1, ha1⟩ : ∃ a1, a1 = s.base + i1 := ⟨_, rfl⟩
  obtain ⟨b1, hb1⟩ : ∃ b1, b1 = s.base + i2 := ⟨_, rfl⟩
  have hw3 : IntKind.i64.wrap (s.base + i1) = a1 := by rw [ha1]; exact wrap64L (by omega) (by omega)
  have hw4 : IntKind.i64.wrap (s.base + i2) = b1 := by rw [hb1]; exact wrap64L (by omega) (by omega)
  obtain ⟨lo, hlo⟩ : ∃ lo, min a1 b1 = lo := ⟨_, rfl⟩
  obtain ⟨hi, hhi⟩ : ∃ hi, max a1 b1 = hi := ⟨_, rfl⟩
  have hle : s.base ≤ lo ∧ lo ≤ hi ∧ hi ≤ s.base + n := by omega
  have hi1' := hi1.symm
  have hi2' := hi2.symm
  have HLE := Lib.hid hle
  -- what acknowledging makes
  have hak := acks hr hle.1 hle.2.1 (by rw [← hn]; exact hle.2.2)
  obtain ⟨X, hX⟩ : ∃ X, X = ackO s s.epoch lo := ⟨_, rfl⟩
  obtain ⟨Z, hZ⟩ : ∃ Z, Z = ackO s s.epoch hi := ⟨_, rfl⟩
  rw [← hX, ← hZ] at hak
  obtain ⟨k1, k2, k3, k4, k5⟩ := hak
  obtain ⟨Xs, Xz⟩ := X
  obtain ⟨Zs, Zz⟩ := Z
  simp only at k1 k2 k3 k4 k5
  subst k2
  subst k3
  rw [← hn] at k5
  have hX8 : Xs.bodies.length ≤ 100 := by
    have e := congrArg (fun o : Sn × Int => o.1.bodies.length) (hX.trans (ack_ok hr hle.1 (by rw [← hn]; omega)))
    simp only at e
    rw [e]
    split
    · omega
    · simp only [List.length_drop]; omega
  have hsub : IntKind.i64.wrap (s.base + (n : Int)) = s.base + (n : Int) := wrap64L (by omega) (by omega)
  obtain ⟨zn, hzn⟩ : ∃ zn, zn = Zs.bodies.length := ⟨_, rfl⟩
  rw [← hzn] at k5
  have hsub2 : IntKind.i64.wrap (s.base + (n : Int) - hi) = (zn : Int) := by rw [k5]; exact wrap64L (by omega) (by omega)
  have HZ8 : Hid (zn ≤ 100) := Lib.hid (by omega)
  have HX8 := Lib.hid hX8
  obtain ⟨r, hrr⟩ : ∃ r, r = rightS ⟨s.epoch, s.base, s.bodies, s.timer⟩ := ⟨_, rfl⟩
  have HR := Lib.hid (fun w' (hb' : Below w.heap.size w w') => show Calls Try.prog 12 #[.agg #[.int .i64 s.epoch, .int .i64 s.base, .slice A n c, .int .i64 s.timer]] w' (TellsB true w') from ckRight s.epoch s.base s.bodies n s.timer A c true hn hr.symm w' (h.below hb') (by omega))
  have HA := Lib.hid (fun w => lawAliveL w)
  have S0 := Lib.hid (SnAt.new (n := n) (c := c) h hn)
  have HB0 := Lib.hid (below_al (o := .cells #[.int .i64 s.epoch, .int .i64 s.base, .slice A n c, .int .i64 s.timer] 24) (Below.refl w.heap.size w))
  obtain ⟨xn, hxn⟩ : ∃ xn, xn = Xs.bodies.length := ⟨_, rfl⟩
  have A1 := Lib.hid (fun w' (h' : Row w' A (bcs s.bodies)) => ckAckS s n A c s.epoch lo Xs 0 xn hX w' hn hxn (by omega) h')
  have A2 := Lib.hid (fun (A : Option Addr) (c : Nat) w' (h' : Row w' A (bcs Xs.bodies)) => ckAckS Xs xn A c s.epoch hi Zs 0 zn k1.symm w' hxn hzn (by omega) h')
  have A3 := Lib.hid (fun w' (h' : Row w' A (bcs s.bodies)) => ckAckS s n A c s.epoch hi Zs 0 zn hZ w' hn hzn (by omega) h')
  have A4 := Lib.hid (fun (A : Option Addr) (c : Nat) w' (h' : Row w' A (bcs Zs.bodies)) => ckAckS Zs zn A c s.epoch lo Zs 0 zn k4.symm w' hzn hzn (by omega) h')
  have HL := Lib.hid (fun (A A' : Option Addr) (c c' : Nat) w' (hA : Row w' A (bcs Zs.bodies)) (hA' : Row w' A' (bcs Zs.bodies)) => rfLikeS Zs zn A A' c c' w' hzn (by omega) hA hA')
  have g0 : ¬ (20 : Int) < (n : Int) := by omega
  have HZN := Lib.hid hzn
  have HXN := Lib.hid hxn
  clear q1 q2 q3 q4 q5 q6 hn hr hN p1 p2 t1 t2 hy1 hy2 ha1 hb1 hle hX hZ k1 k4 k5 hX8 hi1 hi2 hrr hzn hxn h
  go_enter Try.func8, Try.ntmps8
  go_upto_region 1 with fail
  obtain ⟨W, hW⟩ : ∃ W, W = w.alloc (.cells #[.int .i64 s.epoch, .int .i64 s.base, .slice A n c, .int .i64 s.timer] 24) := ⟨_, rfl⟩
  rw [← hW] at S0 HB0 ⊢
  clear hW
  have x0 := S0.out.at_.cell (j := 0) rfl; have x1 := S0.out.at_.cell (j := 1) rfl; have x2 := S0.out.at_.cell (j := 2) rfl; have x3 := S0.out.at_.cell (j := 3) rfl
  go_wp2_with fail
  refine (HR.out _ HB0.out).mono ?_
  rintro e w1 ⟨rfl, hb1⟩
  have S1 := Lib.hid (S0.out.next hb1)
  have HB1 := Lib.hid (below_next HB0.out hb1)
  clear x0 x1 x2 x3 hb1 S0 HB0
  go_wp2_with fail
  refine (HA.out _).mono ?_
  rintro e w2 ⟨rfl, hb2⟩
  have S2 := Lib.hid (S1.out.next hb2)
  have HB2 := Lib.hid (below_next HB1.out hb2)
  clear hb2 S1 HB1
  have x1 := S2.out.at_.cell (j := 1) rfl; have x2 := S2.out.at_.cell (j := 2) rfl
  go_wp2_with fail
  go_quiet (fail)
  clear x1 x2
  go_upto_region 6 with fail
  obtain ⟨W3, hW⟩ : ∃ W3, W3 = w2.drewN nq := ⟨_, rfl⟩
  have S3 := Lib.hid (S2.out.next (below_drewN (n := nq) (Below.refl w2.heap.size w2)))
  have HB3 := Lib.hid (below_next HB2.out (below_drewN (n := nq) (Below.refl w2.heap.size w2)))
  rw [← hW] at S3 HB3 ⊢
  clear hW S2 HB2
  have x0 := S3.out.at_.cell (j := 0) rfl; have x1 := S3.out.at_.cell (j := 1) rfl; have x2 := S3.out.at_.cell (j := 2) rfl; have x3 := S3.out.at_.cell (j := 3) rfl
  go_wp2_with fail
  refine (A1.out _ S3.out.row).mono ?_
  rintro e w4 ⟨XA, xc, rfl, hr4, hb4⟩
  have S4 := Lib.hid ((S3.out.next hb4).next (below_al (o := .cells #[.int .i64 Xs.epoch, .int .i64 Xs.base, .slice XA xn xc, .int .i64 Xs.timer] 24) (Below.refl _ _)))
  have X4 := Lib.hid (SnAt.new (c := xc) hr4 HXN.out)
  have HB4 := Lib.hid (below_al (o := .cells #[.int .i64 Xs.epoch, .int .i64 Xs.base, .slice XA xn xc, .int .i64 Xs.timer] 24) (below_next HB3.out hb4))
  clear x0 x1 x2 x3 hr4 hb4 S3 HB3
  go_upto_region 7 with fail
  obtain ⟨bx, hbx⟩ : ∃ b, b = w4.heap.size := ⟨_, rfl⟩
  obtain ⟨W4, hW⟩ : ∃ W, W = w4.alloc (.cells #[.int .i64 Xs.epoch, .int .i64 Xs.base, .slice XA xn xc, .int .i64 Xs.timer] 24) := ⟨_, rfl⟩
  rw [← hW] at S4 X4 HB4 ⊢
  rw [← hbx] at X4 ⊢
  clear hW hbx
  have x0 := S4.out.at_.cell (j := 0) rfl
  have y0 := X4.out.at_.cell (j := 0) rfl; have y1 := X4.out.at_.cell (j := 1) rfl; have y2 := X4.out.at_.cell (j := 2) rfl; have y3 := X4.out.at_.cell (j := 3) rfl
  go_wp2_with fail
  refine (A2.out _ _ _ X4.out.row).mono ?_
  rintro e w5 ⟨YA, yc, rfl, hr5, hb5⟩
  have S5 := Lib.hid ((S4.out.next hb5).next (below_al (o := .cells #[.int .i64 Zs.epoch, .int .i64 Zs.base, .slice YA zn yc, .int .i64 Zs.timer] 24) (Below.refl _ _)))
  have Y5 := Lib.hid (SnAt.new (c := yc) hr5 HZN.out)
  have HB5 := Lib.hid (below_al (o := .cells #[.int .i64 Zs.epoch, .int .i64 Zs.base, .slice YA zn yc, .int .i64 Zs.timer] 24) (below_next HB4.out hb5))
  clear x0 y0 y1 y2 y3 hr5 hb5 S4 X4 HB4
  go_upto_region 8 with fail
  obtain ⟨bY, hbY⟩ : ∃ b, b = w5.heap.size := ⟨_, rfl⟩
  obtain ⟨W5, hW⟩ : ∃ W, W = w5.alloc (.cells #[.int .i64 Zs.epoch, .int .i64 Zs.base, .slice YA zn yc, .int .i64 Zs.timer] 24) := ⟨_, rfl⟩
  rw [← hW] at S5 Y5 HB5 ⊢
  rw [← hbY] at Y5 ⊢
  clear hW hbY
  have x0 := S5.out.at_.cell (j := 0) rfl; have x1 := S5.out.at_.cell (j := 1) rfl; have x2 := S5.out.at_.cell (j := 2) rfl; have x3 := S5.out.at_.cell (j := 3) rfl
  go_wp2_with fail
  refine (A3.out _ S5.out.row).mono ?_
  rintro e w6 ⟨ZA, zc, rfl, hr6, hb6⟩
  have S6 := Lib.hid ((S5.out.next hb6).next (below_al (o := .cells #[.int .i64 Zs.epoch, .int .i64 Zs.base, .slice ZA zn zc, .int .i64 Zs.timer] 24) (Below.refl _ _)))
  have Y6 := Lib.hid ((Y5.out.next hb6).next (below_al (o := .cells #[.int .i64 Zs.epoch, .int .i64 Zs.base, .slice ZA zn zc, .int .i64 Zs.timer] 24) (Below.refl _ _)))
  have Z6 := Lib.hid (SnAt.new (c := zc) hr6 HZN.out)
  have HB6 := Lib.hid (below_al (o := .cells #[.int .i64 Zs.epoch, .int .i64 Zs.base, .slice ZA zn zc, .int .i64 Zs.timer] 24) (below_next HB5.out hb6))
  clear x0 x1 x2 x3 hr6 hb6 S5 Y5 HB5
  go_upto_region 9 with fail
  obtain ⟨bZ, hbZ⟩ : ∃ b, b = w6.heap.size := ⟨_, rfl⟩
  obtain ⟨W6, hW⟩ : ∃ W, W = w6.alloc (.cells #[.int .i64 Zs.epoch, .int .i64 Zs.base, .slice ZA zn zc, .int .i64 Zs.timer] 24) := ⟨_, rfl⟩
  rw [← hW] at S6 Y6 Z6 HB6 ⊢
  rw [← hbZ] at Z6 ⊢
  clear hW hbZ
  have x0 := S6.out.at_.cell (j := 0) rfl
  have y0 := Z6.out.at_.cell (j := 0) rfl; have y1 := Z6.out.at_.cell (j := 1) rfl; have y2 := Z6.out.at_.cell (j := 2) rfl; have y3 := Z6.out.at_.cell (j := 3) rfl
  go_wp2_with fail
  refine (A4.out _ _ _ Z6.out.row).mono ?_
  rintro e w7 ⟨VA, vc, rfl, hr7, hb7⟩
  have S7 := Lib.hid ((S6.out.next hb7).next (below_al (o := .cells #[.int .i64 Zs.epoch, .int .i64 Zs.base, .slice VA zn vc, .int .i64 Zs.timer] 24) (Below.refl _ _)))
  have Y7 := Lib.hid ((Y6.out.next hb7).next (below_al (o := .cells #[.int .i64 Zs.epoch, .int .i64 Zs.base, .slice VA zn vc, .int .i64 Zs.timer] 24) (Below.refl _ _)))
  have Z7 := Lib.hid ((Z6.out.next hb7).next (below_al (o := .cells #[.int .i64 Zs.epoch, .int .i64 Zs.base, .slice VA zn vc, .int .i64 Zs.timer] 24) (Below.refl _ _)))
  have V7 := Lib.hid (SnAt.new (c := vc) hr7 HZN.out)
  have HB7 := Lib.hid (below_al (o := .cells #[.int .i64 Zs.epoch, .int .i64 Zs.base, .slice VA zn vc, .int .i64 Zs.timer] 24) (below_next HB6.out hb7))
  clear x0 y0 y1 y2 y3 hr7 hb7 S6 Y6 Z6 HB6
  go_upto_region 10 with fail
  obtain ⟨bV, hbV⟩ : ∃ b, b = w7.heap.size := ⟨_, rfl⟩
  obtain ⟨W7, hW⟩ : ∃ W, W = w7.alloc (.cells #[.int .i64 Zs.epoch, .int .i64 Zs.base, .slice VA zn vc, .int .i64 Zs.timer] 24) := ⟨_, rfl⟩
  rw [← hW] at S7 Y7 Z7 V7 HB7 ⊢
  rw [← hbV] at V7 ⊢
  clear hW hbV
  have y0 := Y7.out.at_.cell (j := 0) rfl; have y1 := Y7.out.at_.cell (j := 1) rfl; have y2 := Y7.out.at_.cell (j := 2) rfl; have y3 := Y7.out.at_.cell (j := 3) rfl
  have z0 := Z7.out.at_.cell (j := 0) rfl; have z1 := Z7.out.at_.cell (j := 1) rfl; have z2 := Z7.out.at_.cell (j := 2) rfl; have z3 := Z7.out.at_.cell (j := 3) rfl
  go_wp2_with fail
  refine (HL.out _ _ _ _ _ Y7.out.row Z7.out.row).mono ?_
  rintro e w8 ⟨rfl, hb8⟩
  have S8 := Lib.hid (S7.out.next hb8)
  have Z8 := Lib.hid (Z7.out.next hb8)
  have V8 := Lib.hid (V7.out.next hb8)
  have HB8 := Lib.hid (below_next HB7.out hb8)
  clear y0 y1 y2 y3 z0 z1 z2 z3 hb8 S7 Y7 Z7 V7 HB7
  have y0 := V8.out.at_.cell (j := 0) rfl; have y1 := V8.out.at_.cell (j := 1) rfl; have y2 := V8.out.at_.cell (j := 2) rfl; have y3 := V8.out.at_.cell (j := 3) rfl
  have z0 := Z8.out.at_.cell (j := 0) rfl; have z1 := Z8.out.at_.cell (j := 1) rfl; have z2 := Z8.out.at_.cell (j := 2) rfl; have z3 := Z8.out.at_.cell (j := 3) rfl
  go_wp2_with fail
  refine (HL.out _ _ _ _ _ Z8.out.row V8.out.row).mono ?_
  rintro e w9 ⟨rfl, hb9⟩
  have S9 := Lib.hid (S8.out.next hb9)
  have Z9 := Lib.hid (Z8.out.next hb9)
  have HB9 := Lib.hid (below_next HB8.out hb9)
  clear y0 y1 y2 y3 z0 z1 z2 z3 hb9 S8 Z8 V8 HB8
  have x1 := S9.out.at_.cell (j := 1) rfl; have x2 := S9.out.at_.cell (j := 2) rfl
  have z2 := Z9.out.at_.cell (j := 2) rfl
  go_wp2_with fail
  go_ret
  exact ⟨rfl, HB9.out⟩
theorem lawLinkAcks : Lift.Owes 8 [24, 3, 3] := by
  intro H enc W base args ds ps hval hA _ _
  obtain ⟨v0, v1, v2, d0, d1, d2, p0, p1, p2, rfl, rfl, rfl, h0, h1, h2⟩ := trodAll_three hA
  obtain ⟨s, A, c, rfl, _, _, _, hc1, hc2, hrow, _⟩ := openSender (hval 0 _ v0 rfl rfl) h0
  obtain ⟨x1, rfl, _, _, wf1⟩ := open_int Try.underlying3 (hval 1 _ v1 rfl rfl) h1
  obtain ⟨x2, rfl, _, _, wf2⟩ := open_int Try.underlying3 (hval 2 _ v2 rfl rfl) h2
  by_cases h20 : (20 : Int) < s.bodies.length
  · exact acksNot s A c x1 x2 W hrow (.inl h20)
  · by_cases hr : rightS s = true
    · exact acksYes s A c x1 x2 W hrow hr
    · exact acksNot s A c x1 x2 W hrow (.inr ⟨h20, by simpa using hr⟩)
end Lk
theorem lawLinkAcks : Lift.Owes 8 [24, 3, 3] := Lk.lawLinkAcks
end Go.Proofs.Ytbdlmokgmgpbfaa
