/- The walk of the law LinkSends. -/
import Derived.Test.YtbdlmokgmgpbfaaLawsLinkB
import Derived.Test.YtbdlmokgmgpbfaaLinkPushC
import Derived.Test.YtbdlmokgmgpbfaaLinkTickC
namespace Go.Proofs.Ytbdlmokgmgpbfaa
open Go.ChangeShapes Go.WideShapes Go.ChangeAt Go.RowKit
set_option linter.unusedVariables false
set_option maxRecDepth 8000
namespace Lk
open Gen (TellsB TellsI)
/-- Hands back a sender, a packet, and why not. -/
def GivesPP (s : Sn) (n : Nat) (p : Pk) (z : Int) (w : World) (e : Ending) (w' : World) : Prop :=
  ∃ A c, e = .returned (.tuple #[.agg #[.int .i64 s.epoch, .int .i64 s.base, .slice A n c, .int .i64 s.timer], .agg #[.int .i64 p.epoch, .int .i64 p.no, .string p.body], .int .i64 z]) ∧ Row w' A (bcs s.bodies) ∧ Below w.heap.size w w'
/-- Hands back a sender, and packets. -/
def GivesTP (s : Sn) (n : Nat) (l : List Pk) (m : Nat) (w : World) (e : Ending) (w' : World) : Prop :=
  ∃ A c A' c', e = .returned (.tuple #[.agg #[.int .i64 s.epoch, .int .i64 s.base, .slice A n c, .int .i64 s.timer], .slice A' m c']) ∧ Row w' A (bcs s.bodies) ∧ Row w' A' (pcs l) ∧ Below w.heap.size w w'
theorem ckPushS (s : Sn) (n : Nat) (A : Option Addr) (c : Nat) (body : ByteArray) (s' : Sn) (p : Pk) (z : Int) (n' : Nat) (ho : (s', p, z) = pushO s body) (w : World) (hn : n = s.bodies.length) (hn' : n' = s'.bodies.length) (hl : n ≤ 4611686018427387904) (h : Row w A (bcs s.bodies)) :
    Calls Try.prog 9 #[.agg #[.int .i64 s.epoch, .int .i64 s.base, .slice A n c, .int .i64 s.timer], .string body] w (GivesPP s' n' p z w) := by
  obtain ⟨ep, ba, bs, ti⟩ := s
  subst hn'
  refine (ckPush ep ba ti bs n hn hl A c body _ ho w h).mono ?_
  rintro e w' ⟨A', c', rfl, ho', hb⟩
  exact ⟨A', c', rfl, row_of_ownL ho' (by omega), hb⟩
theorem rfPushS (s : Sn) (n : Nat) (A : Option Addr) (c : Nat) (body : ByteArray) (s' : Sn) (p : Pk) (z : Int) (n' : Nat) (ho : (s', p, z) = pushO s body) (w : World) (hn : n = s.bodies.length) (hn' : n' = s'.bodies.length) (hl : n ≤ 4611686018427387904) (h : Row w A (bcs s.bodies)) :
    Calls Try.prog 10 #[.agg #[.int .i64 s.epoch, .int .i64 s.base, .slice A n c, .int .i64 s.timer], .string body] w (GivesPP s' n' p z w) := by
  obtain ⟨ep, ba, bs, ti⟩ := s
  subst hn'
  have h2 := rfPush ep ba ti bs n hn hl A c body w h
  rw [← ho] at h2
  refine h2.mono ?_
  rintro e w' ⟨A', c', rfl, _, _, ho', hb⟩
  exact ⟨A', c', rfl, ho', hb⟩
theorem rfAckS (s : Sn) (n : Nat) (A : Option Addr) (c : Nat) (epoch want : Int) (s' : Sn) (z : Int) (n' : Nat) (ho : (s', z) = ackO s epoch want) (w : World) (hn : n = s.bodies.length) (hn' : n' = s'.bodies.length) (hl : n ≤ 4611686018427387904) (h : Row w A (bcs s.bodies))
    (h1 : n ≤ c) (h2 : c ≤ maxLen) (h3 : inW s.base) :
    Calls Try.prog 16 #[.agg #[.int .i64 s.epoch, .int .i64 s.base, .slice A n c, .int .i64 s.timer], .int .i64 epoch, .int .i64 want] w (GivesA s' n' z w) := by
  obtain ⟨ep, ba, bs, ti⟩ := s
  subst hn'
  have h4 := rfAck ep ba ti bs n hn hl A c h1 h2 epoch want h3 w h
  rw [← ho] at h4
  refine h4.mono ?_
  rintro e w' ⟨A', c', rfl, _, _, ho', hb⟩
  exact ⟨A', c', rfl, ho', hb⟩
theorem ckTickS (s : Sn) (n : Nat) (A : Option Addr) (c : Nat) (s' : Sn) (l : List Pk) (n' m : Nat) (ho : (s', l) = tickO s) (w : World) (hn : n = s.bodies.length) (hn' : n' = s'.bodies.length) (hm : m = l.length) (hl : n ≤ 100000) (h : Row w A (bcs s.bodies)) :
    Calls Try.prog 17 #[.agg #[.int .i64 s.epoch, .int .i64 s.base, .slice A n c, .int .i64 s.timer]] w (GivesTP s' n' l m w) := by
  obtain ⟨ep, ba, bs, ti⟩ := s
  subst hn'
  subst hm
  refine (ckTick ep ba ti bs n hn hl A c _ ho w h).mono ?_
  rintro e w' ⟨A', c', A2, c2, rfl, ho', ho2, hb⟩
  exact ⟨A', c', A2, c2, rfl, row_of_ownL ho' (by omega), row_of_ownL ho2 (by omega), hb⟩
theorem rfTickS (s : Sn) (n : Nat) (A : Option Addr) (c : Nat) (s' : Sn) (l : List Pk) (n' m : Nat) (ho : (s', l) = tickO s) (w : World) (hn : n = s.bodies.length) (hn' : n' = s'.bodies.length) (hm : m = l.length) (hl : n ≤ 100000) (h : Row w A (bcs s.bodies)) (h1 : n ≤ c) (h2 : c ≤ maxLen) :
    Calls Try.prog 18 #[.agg #[.int .i64 s.epoch, .int .i64 s.base, .slice A n c, .int .i64 s.timer]] w (GivesTP s' n' l m w) := by
  obtain ⟨ep, ba, bs, ti⟩ := s
  subst hn'
  subst hm
  have h4 := rfTick ep ba ti bs n hn (by omega) A c h1 h2 w h
  rw [← ho] at h4
  refine h4.mono ?_
  rintro e w' ⟨A', c', A2, c2, rfl, _, _, ho', _, _, ho2, hb⟩
  exact ⟨A', c', A2, c2, rfl, ho', ho2, hb⟩
/-- What lies behind the two Pushes. -/
structure S5At (w0 : World) (s : Sn) (n : Nat) (A : Option Addr) (c : Nat) (bx : Nat) (x : Sn) (xn : Nat) (XA : Option Addr) (xc : Nat) (bp : Nat) (p : Pk) (bY : Nat) (YA : Option Addr) (yc : Nat) (bq : Nat) (w : World) : Prop where
  fs : SnAt w0.heap.size s n A c w
  fx : SnAt bx x xn XA xc w
  fp : Lies bp #[.int .i64 p.epoch, .int .i64 p.no, .string p.body] 26 w
  fy : SnAt bY x xn YA yc w
  fq : Lies bq #[.int .i64 p.epoch, .int .i64 p.no, .string p.body] 26 w
  below : Below w0.heap.size w0 w
theorem S5At.next {w0 : World} {s : Sn} {n : Nat} {A : Option Addr} {c : Nat} {bx : Nat} {x : Sn} {xn : Nat} {XA : Option Addr} {xc : Nat} {bp : Nat} {p : Pk} {bY : Nat} {YA : Option Addr} {yc : Nat} {bq : Nat} {w w' : World}
    (h : S5At w0 s n A c bx x xn XA xc bp p bY YA yc bq w) (hb : Below w.heap.size w w') : S5At w0 s n A c bx x xn XA xc bp p bY YA yc bq w' :=
  ⟨h.fs.next hb, h.fx.next hb, h.fp.below hb, h.fy.next hb, h.fq.below hb, below_next h.below hb⟩
set_option maxRecDepth 100000 in
set_option maxHeartbeats 4000000 in
theorem walkLinkSends (s0 : Sn) (A : Option Addr) (c : Nat) (body : ByteArray) (epoch want : Int) (w : World) (h : Row w A (bcs s0.bodies)) (h1 : s0.bodies.length ≤ c) (h2 : c ≤ maxLen) (h3 : inW s0.base) :
    Calls Try.prog 3 #[snV s0 A c, .string body, .int .i64 epoch, .int .i64 want] w (TellsB true w) := by
  obtain ⟨n0, hn0⟩ : ∃ n0, n0 = s0.bodies.length := ⟨_, rfl⟩
  obtain ⟨s, hs⟩ : ∃ s : Sn, s = { s0 with bodies := s0.bodies.take 20 } := ⟨_, rfl⟩
  obtain ⟨n, hn⟩ : ∃ n, n = s.bodies.length := ⟨_, rfl⟩
  have hnn : n = min 20 n0 := by rw [hn, hs, hn0]; simp only [List.length_take]
  have hrow : Row w A (bcs s.bodies) := by
    have e : bcs s.bodies = (bcs s0.bodies).take 20 := by rw [hs]; simp [bcs, List.map_take]
    rw [e]
    rcases h with h | ⟨b, off, rfl, h⟩
    · left; rw [h]; simp
    · refine .inr ⟨b, off, rfl, fun i u hu => ?_⟩
      rw [List.getElem?_take] at hu
      split at hu
      · exact h _ _ hu
      · cases hu
  have he1 : s0.epoch = s.epoch := by rw [hs]
  have he2 : s0.base = s.base := by rw [hs]
  have he3 : s0.timer = s.timer := by rw [hs]
  have hsome : (20 : Int) < n0 → ∃ b off, A = some ⟨b, off, none⟩ := fun hlt => by
    rcases h with h | ⟨b, off, rfl, _⟩
    · have := bcs_len s0.bodies; rw [h] at this; simp at this; omega
    · exact ⟨b, off, rfl⟩
  show Calls _ _ #[.agg #[.int .i64 s0.epoch, .int .i64 s0.base, .slice A s0.bodies.length c, .int .i64 s0.timer], _, _, _] _ _
  rw [← hn0] at h1 ⊢
  rw [he1, he2, he3]
  rw [he2] at h3
  have h20 : n ≤ 20 := by omega
  have hnc : n ≤ c := by omega
  -- what comes of it
  obtain ⟨⟨x, p, z⟩, hP⟩ : ∃ o, o = pushO s body := ⟨_, rfl⟩
  obtain ⟨⟨y, z2⟩, hA⟩ : ∃ o, o = ackO s epoch want := ⟨_, rfl⟩
  obtain ⟨⟨t, l⟩, hT⟩ : ∃ o, o = tickO s := ⟨_, rfl⟩
  obtain ⟨xn, hxn⟩ : ∃ xn, xn = x.bodies.length := ⟨_, rfl⟩
  obtain ⟨yn, hyn⟩ : ∃ yn, yn = y.bodies.length := ⟨_, rfl⟩
  obtain ⟨tn, htn⟩ : ∃ tn, tn = t.bodies.length := ⟨_, rfl⟩
  obtain ⟨ln, hln⟩ : ∃ ln, ln = l.length := ⟨_, rfl⟩
  have hx100 : xn ≤ 100 := by
    have e := congrArg (fun o : Sn × Pk × Int => o.1.bodies.length) hP
    simp only at e
    rw [hxn, e]
    unfold pushO
    split
    · simp [zS]
    · split
      · simp [zS]
      · split
        · simp [zS]
        · simp only [List.length_append, List.length_cons, List.length_nil]; omega
  have hy100 : yn ≤ 100 := by
    have e := congrArg (fun o : Sn × Int => o.1.bodies.length) hA
    simp only at e
    rw [hyn, e]
    unfold ackO
    split
    · simp [zS]
    · split
      · simp [zS]
      · split
        · simp [zS]
        · split
          · simp only; omega
          · simp only [List.length_drop]; omega
  have ht100 : tn ≤ 100 := by
    have e := (tick_same s).2.2
    rw [← hT] at e
    simp only at e
    rw [htn, e]; omega
  have hl100 : ln ≤ 100 := by
    have e := tick_sent s
    rw [← hT] at e
    simp only at e
    rcases e with e | e
    · rw [hln, e]; simp
    · rw [hln, e, packs_len]; omega
  obtain ⟨r, hr⟩ : ∃ r, r = rightS ⟨s.epoch, s.base, s.bodies, s.timer⟩ := ⟨_, rfl⟩
  have H1 := Lib.hid (fun w' (h' : Row w' A (bcs s.bodies)) => ckPushS s n A c body x p z xn hP w' hn hxn (by omega) h')
  have H2 := Lib.hid (fun w' (h' : Row w' A (bcs s.bodies)) => rfPushS s n A c body x p z xn hP w' hn hxn (by omega) h')
  have H3 := Lib.hid (fun w' (h' : Row w' A (bcs s.bodies)) => ckAckS s n A c epoch want y z2 yn hA w' hn hyn (by omega) h')
  have H4 := Lib.hid (fun w' (h' : Row w' A (bcs s.bodies)) => rfAckS s n A c epoch want y z2 yn hA w' hn hyn (by omega) h' hnc h2 h3)
  have H5 := Lib.hid (fun w' (h' : Row w' A (bcs s.bodies)) => ckTickS s n A c t l tn ln hT w' hn htn hln (by omega) h')
  have H6 := Lib.hid (fun w' (h' : Row w' A (bcs s.bodies)) => rfTickS s n A c t l tn ln hT w' hn htn hln (by omega) h' hnc h2)
  have HR1 := Lib.hid (fun w' (h' : Row w' A (bcs s.bodies)) => ckRight s.epoch s.base s.bodies n s.timer A c r hn hr w' h' (by omega))
  have HR2 := Lib.hid (fun w' (h' : Row w' A (bcs s.bodies)) => rfRight_ s.epoch s.base s.bodies n s.timer A c r hn hr w' h' (by omega))
  have HA := Lib.hid (fun w => lawAliveL w)
  have HL1 := Lib.hid (fun (A A' : Option Addr) (c c' : Nat) w' (hA : Row w' A (bcs x.bodies)) (hA' : Row w' A' (bcs x.bodies)) => rfLikeS x xn A A' c c' w' hxn (by omega) hA hA')
  have HL2 := Lib.hid (fun (A A' : Option Addr) (c c' : Nat) w' (hA : Row w' A (bcs y.bodies)) (hA' : Row w' A' (bcs y.bodies)) => rfLikeS y yn A A' c c' w' hyn (by omega) hA hA')
  have HL3 := Lib.hid (fun (A A' : Option Addr) (c c' : Nat) w' (hA : Row w' A (bcs t.bodies)) (hA' : Row w' A' (bcs t.bodies)) => rfLikeS t tn A A' c c' w' htn (by omega) hA hA')
  have HL4 := Lib.hid (fun (A A' : Option Addr) (c c' : Nat) w' (hA : Row w' A (pcs l)) (hA' : Row w' A' (pcs l)) => show Calls Try.prog 19 #[.slice A ln c, .slice A' ln c'] w' (TellsB true w') from hln ▸ rfLikeP l (by omega) A A' c c' w' hA hA')
  have hnp : ∀ w, (binOp .neq 26 (.agg #[.int .i64 p.epoch, .int .i64 p.no, .string p.body]) (.agg #[.int .i64 p.epoch, .int .i64 p.no, .string p.body])).run Try.prog w = .ok (.bool false) w := fun w => run_neqPk p w
  have LS := Lib.hid (Lies.new w #[.int .i64 s.epoch, .int .i64 s.base, .slice A n0 c, .int .i64 s.timer] 24)
  have HB0 := Lib.hid (below_al (o := .cells #[.int .i64 s.epoch, .int .i64 s.base, .slice A n0 c, .int .i64 s.timer] 24) (Below.refl w.heap.size w))
  have HROW := Lib.hid hrow
  have HXN := Lib.hid hxn
  have HYN := Lib.hid hyn
  have HTN := Lib.hid htn
  have HN := Lib.hid hn
  have HNN := Lib.hid hnn
  have HSO := Lib.hid hsome
  have HC := Lib.hid h1
  clear h hn0 hs hn hnn hrow he1 he2 he3 hsome h1 h2 h3 hP hA hT hxn hyn htn hln hx100 hy100 ht100 hl100 hr h20 hnc
  go_enter Try.func3, Try.ntmps3
  go_upto_region 1 with fail
  obtain ⟨W, hW⟩ : ∃ W, W = w.alloc (.cells #[.int .i64 s.epoch, .int .i64 s.base, .slice A n0 c, .int .i64 s.timer] 24) := ⟨_, rfl⟩
  rw [← hW] at LS HB0 ⊢
  clear hW
  have x2 := LS.out.cell (j := 2) rfl
  go_upto_if 26 with fail
  go_cut [] from 27 (fun wc => Lies w.heap.size #[.int .i64 s.epoch, .int .i64 s.base, .slice A n c, .int .i64 s.timer] 24 wc ∧ Below w.heap.size w wc)
  case first =>
    by_cases hlt : (20 : Int) < n0
    · obtain ⟨b, off, rfl⟩ := HSO.out hlt
      have g1 : (20 : Int) ≤ c := by have := HC.out; omega
      have g2 : 20 ≤ c := by have := HC.out; omega
      have g3 : n = 20 := by have := HNN.out; omega
      have f2 := LS.out.free 2
      clear HNN HN
      go_wp2_with fail
      go_meet
      case rel =>
        have h9 := LS.out.set 2 (.slice (some ⟨b, off, none⟩) 20 c)
        exact ⟨by rw [g3]; simpa using h9, HB0.out.setCell (p := ⟨w.heap.size, 2, none⟩) (Nat.le_refl _) _⟩
    · have g3 : n = n0 := by have := HNN.out; omega
      go_wp2_with fail
      go_meet
      case rel => exact ⟨by rw [g3]; exact LS.out, HB0.out⟩
  case rest =>
    obtain ⟨hc1, hc2⟩ := hcut
    have S0 : Hid (SnAt w.heap.size s n A c wc) := Lib.hid ⟨hc1, HROW.out.below hc2, HN.out⟩
    have HB1 := Lib.hid hc2
    clear hc1 hc2 x2 LS HB0 HROW HSO HC HNN
    have x0 := S0.out.at_.cell (j := 0) rfl; have x1 := S0.out.at_.cell (j := 1) rfl; have x2 := S0.out.at_.cell (j := 2) rfl; have x3 := S0.out.at_.cell (j := 3) rfl
    go_wp2_with fail
    refine (H1.out _ S0.out.row).mono ?_
    rintro e w4 ⟨XA, xc, rfl, hr4, hb4⟩
    go_upto_region 4 with fail
    have hbb := below_al (o := (.cells #[.int .i64 p.epoch, .int .i64 p.no, .string p.body] 26)) (below_al (o := (.cells #[.int .i64 x.epoch, .int .i64 x.base, .slice XA xn xc, .int .i64 x.timer] 24)) (Below.refl w4.heap.size w4))
    have S4 := Lib.hid ((S0.out.next hb4).next hbb)
    have X4 := Lib.hid ((SnAt.new (c := xc) hr4 HXN.out).next (below_al (o := (.cells #[.int .i64 p.epoch, .int .i64 p.no, .string p.body] 26)) (Below.refl _ _)))
    have P4 := Lib.hid (Gen.lies_new1 w4 (.cells #[.int .i64 x.epoch, .int .i64 x.base, .slice XA xn xc, .int .i64 x.timer] 24) #[.int .i64 p.epoch, .int .i64 p.no, .string p.body] 26)
    have HB4 := Lib.hid (below_next (below_next HB1.out hb4) hbb)
    obtain ⟨bx, hbx⟩ : ∃ b, b = w4.heap.size := ⟨_, rfl⟩
    obtain ⟨W4, hW⟩ : ∃ W, W = (w4.alloc (.cells #[.int .i64 x.epoch, .int .i64 x.base, .slice XA xn xc, .int .i64 x.timer] 24)).alloc (.cells #[.int .i64 p.epoch, .int .i64 p.no, .string p.body] 26) := ⟨_, rfl⟩
    rw [← hW] at S4 X4 P4 HB4 ⊢
    rw [← hbx] at X4 P4 ⊢
    clear hW hbx hbb hb4 hr4 x0 x1 x2 x3 S0 HB1
    have x0 := S4.out.at_.cell (j := 0) rfl; have x1 := S4.out.at_.cell (j := 1) rfl; have x2 := S4.out.at_.cell (j := 2) rfl; have x3 := S4.out.at_.cell (j := 3) rfl
    go_wp2_with fail
    refine (H2.out _ S4.out.row).mono ?_
    rintro e w5 ⟨YA, yc, rfl, hr5, hb5⟩
    go_upto_region 5 with fail
    have hbb := below_al (o := (.cells #[.int .i64 p.epoch, .int .i64 p.no, .string p.body] 26)) (below_al (o := (.cells #[.int .i64 x.epoch, .int .i64 x.base, .slice YA xn yc, .int .i64 x.timer] 24)) (Below.refl w5.heap.size w5))
    have Y5 := (SnAt.new (c := yc) hr5 HXN.out).next (below_al (o := (.cells #[.int .i64 p.epoch, .int .i64 p.no, .string p.body] 26)) (Below.refl _ _))
    have Q5 := Gen.lies_new1 w5 (.cells #[.int .i64 x.epoch, .int .i64 x.base, .slice YA xn yc, .int .i64 x.timer] 24) #[.int .i64 p.epoch, .int .i64 p.no, .string p.body] 26
    have F5 := Lib.hid (S5At.mk ((S4.out.next hb5).next hbb) ((X4.out.next hb5).next hbb) ((P4.out.below hb5).below hbb) Y5 Q5 (below_next (below_next HB4.out hb5) hbb))
    clear Y5 Q5
    obtain ⟨bY, hbY⟩ : ∃ b, b = w5.heap.size := ⟨_, rfl⟩
    obtain ⟨W5, hW⟩ : ∃ W, W = (w5.alloc (.cells #[.int .i64 x.epoch, .int .i64 x.base, .slice YA xn yc, .int .i64 x.timer] 24)).alloc (.cells #[.int .i64 p.epoch, .int .i64 p.no, .string p.body] 26) := ⟨_, rfl⟩
    rw [← hW] at F5 ⊢
    rw [← hbY] at F5 ⊢
    clear hW hbY hbb hb5 hr5 x0 x1 x2 x3 S4 X4 P4 HB4
    refine wide_all (S5At w s n A c bx x xn XA xc (bx + 1) p bY YA yc (bY + 1)) (by kernel_rfl) (by kernel_rfl) (F5.out.next (below_drewOf (Below.refl _ _))) ?_
    repeat (first
    | go_big_quiet_skip
    | (go_big_quiet_want
       apply wide_op
       · (intro w5 h5; have x0 := h5.fs.at_.cell (j := 0) rfl; have x1 := h5.fs.at_.cell (j := 1) rfl; have x2 := h5.fs.at_.cell (j := 2) rfl; have x3 := h5.fs.at_.cell (j := 3) rfl
          have u0 := h5.fx.at_.cell (j := 0) rfl; have u1 := h5.fx.at_.cell (j := 1) rfl; have u2 := h5.fx.at_.cell (j := 2) rfl; have u3 := h5.fx.at_.cell (j := 3) rfl
          have v0 := h5.fy.at_.cell (j := 0) rfl; have v1 := h5.fy.at_.cell (j := 1) rfl; have v2 := h5.fy.at_.cell (j := 2) rfl; have v3 := h5.fy.at_.cell (j := 3) rfl
          have p0 := h5.fp.cell (j := 0) rfl; have p1 := h5.fp.cell (j := 1) rfl; have p2 := h5.fp.cell (j := 2) rfl
          have q0 := h5.fq.cell (j := 0) rfl; have q1 := h5.fq.cell (j := 1) rfl; have q2 := h5.fq.cell (j := 2) rfl
          go_simp; first | done | with_reducible rfl | (refine (HA.out _).mono ?_; rintro e w6 ⟨rfl, hb6⟩; exact ⟨rfl, h5.next hb6⟩) | (refine (HR1.out _ h5.fs.row).mono ?_; rintro e w6 ⟨rfl, hb6⟩; exact ⟨rfl, h5.next hb6⟩) | (refine (HR2.out _ h5.fs.row).mono ?_; rintro e w6 ⟨rfl, hb6⟩; exact ⟨rfl, h5.next hb6⟩) | (refine (HL1.out _ _ _ _ _ h5.fx.row h5.fy.row).mono ?_; rintro e w6 ⟨rfl, hb6⟩; exact ⟨rfl, h5.next hb6⟩))
       (try simp only [Act.put, List.setIfInBounds_toArray, List.set_cons_zero, List.set_cons_succ])
       go_big_quiet_on))
    refine wpQuiet_nil ?_
    intro w6 h6
    have S6 := Lib.hid h6.fs
    have HB6 := Lib.hid h6.below
    clear h6 F5 hnp H1 H2 HR1 HR2 HL1 HA
    have x0 := S6.out.at_.cell (j := 0) rfl; have x1 := S6.out.at_.cell (j := 1) rfl; have x2 := S6.out.at_.cell (j := 2) rfl; have x3 := S6.out.at_.cell (j := 3) rfl
    go_wp2_with fail
    refine (H3.out _ S6.out.row).mono ?_
    rintro e wq ⟨CA, cc, rfl, hrq, hbq⟩
    go_upto_region 8 with fail
    have hbb := below_next hbq (below_al (o := (.cells #[.int .i64 y.epoch, .int .i64 y.base, .slice CA yn cc, .int .i64 y.timer] 24)) (Below.refl wq.heap.size wq))
    have S7 := Lib.hid (S6.out.next hbb)
    have HB7 := Lib.hid (below_next HB6.out hbb)
    have C0 := Lib.hid (SnAt.new (c := cc) hrq HYN.out)
    obtain ⟨bC, hbE⟩ : ∃ b, b = wq.heap.size := ⟨_, rfl⟩
    obtain ⟨WC, hW⟩ : ∃ W, W = wq.alloc (.cells #[.int .i64 y.epoch, .int .i64 y.base, .slice CA yn cc, .int .i64 y.timer] 24) := ⟨_, rfl⟩
    rw [← hW] at S7 HB7 C0 ⊢
    rw [← hbE] at C0 ⊢
    clear hW hbE hbb hbq hrq x0 x1 x2 x3 S6 HB6
    have x0 := S7.out.at_.cell (j := 0) rfl; have x1 := S7.out.at_.cell (j := 1) rfl; have x2 := S7.out.at_.cell (j := 2) rfl; have x3 := S7.out.at_.cell (j := 3) rfl
    go_wp2_with fail
    refine (H4.out _ S7.out.row).mono ?_
    rintro e wq ⟨DA, dc, rfl, hrq, hbq⟩
    go_upto_region 9 with fail
    have hbb := below_next hbq (below_al (o := (.cells #[.int .i64 y.epoch, .int .i64 y.base, .slice DA yn dc, .int .i64 y.timer] 24)) (Below.refl wq.heap.size wq))
    have S8 := Lib.hid (S7.out.next hbb)
    have HB8 := Lib.hid (below_next HB7.out hbb)
    have D0 := Lib.hid (SnAt.new (c := dc) hrq HYN.out)
    have C0n := Lib.hid (C0.out.next hbb)
    clear C0
    have C0 := C0n
    clear C0n
    obtain ⟨bD, hbE⟩ : ∃ b, b = wq.heap.size := ⟨_, rfl⟩
    obtain ⟨WD, hW⟩ : ∃ W, W = wq.alloc (.cells #[.int .i64 y.epoch, .int .i64 y.base, .slice DA yn dc, .int .i64 y.timer] 24) := ⟨_, rfl⟩
    rw [← hW] at S8 HB8 D0 C0 ⊢
    rw [← hbE] at D0 ⊢
    clear hW hbE hbb hbq hrq x0 x1 x2 x3 S7 HB7
    have x0 := S8.out.at_.cell (j := 0) rfl; have x1 := S8.out.at_.cell (j := 1) rfl; have x2 := S8.out.at_.cell (j := 2) rfl; have x3 := S8.out.at_.cell (j := 3) rfl
    go_wp2_with fail
    refine (H5.out _ S8.out.row).mono ?_
    rintro e wq ⟨EA, ec, LA, lc, rfl, hrq, hrl, hbq⟩
    go_upto_region 10 with fail
    have hbb := below_next hbq (below_al (o := (.cells #[.int .i64 t.epoch, .int .i64 t.base, .slice EA tn ec, .int .i64 t.timer] 24)) (Below.refl wq.heap.size wq))
    have S9 := Lib.hid (S8.out.next hbb)
    have HB9 := Lib.hid (below_next HB8.out hbb)
    have E0 := Lib.hid (SnAt.new (c := ec) hrq HTN.out)
    have C0n := Lib.hid (C0.out.next hbb)
    clear C0
    have C0 := C0n
    clear C0n
    have D0n := Lib.hid (D0.out.next hbb)
    clear D0
    have D0 := D0n
    clear D0n
    have RE := Lib.hid (hrl.below (below_al (o := (.cells #[.int .i64 t.epoch, .int .i64 t.base, .slice EA tn ec, .int .i64 t.timer] 24)) (Below.refl _ _)))
    obtain ⟨bE, hbE⟩ : ∃ b, b = wq.heap.size := ⟨_, rfl⟩
    obtain ⟨WE, hW⟩ : ∃ W, W = wq.alloc (.cells #[.int .i64 t.epoch, .int .i64 t.base, .slice EA tn ec, .int .i64 t.timer] 24) := ⟨_, rfl⟩
    rw [← hW] at S9 HB9 E0 C0 D0 RE ⊢
    rw [← hbE] at E0 ⊢
    clear hW hbE hbb hbq hrq hrl x0 x1 x2 x3 S8 HB8
    have x0 := S9.out.at_.cell (j := 0) rfl; have x1 := S9.out.at_.cell (j := 1) rfl; have x2 := S9.out.at_.cell (j := 2) rfl; have x3 := S9.out.at_.cell (j := 3) rfl
    go_wp2_with fail
    refine (H6.out _ S9.out.row).mono ?_
    rintro e wq ⟨FA, fc, MA, mc, rfl, hrq, hrl, hbq⟩
    go_upto_region 11 with fail
    have hbb := below_next hbq (below_al (o := (.cells #[.int .i64 t.epoch, .int .i64 t.base, .slice FA tn fc, .int .i64 t.timer] 24)) (Below.refl wq.heap.size wq))
    have S10 := Lib.hid (S9.out.next hbb)
    have HB10 := Lib.hid (below_next HB9.out hbb)
    have F0 := Lib.hid (SnAt.new (c := fc) hrq HTN.out)
    have C0n := Lib.hid (C0.out.next hbb)
    clear C0
    have C0 := C0n
    clear C0n
    have D0n := Lib.hid (D0.out.next hbb)
    clear D0
    have D0 := D0n
    clear D0n
    have E0n := Lib.hid (E0.out.next hbb)
    clear E0
    have E0 := E0n
    clear E0n
    have REn := Lib.hid (RE.out.below hbb)
    clear RE
    have RE := REn
    clear REn
    have RF := Lib.hid (hrl.below (below_al (o := (.cells #[.int .i64 t.epoch, .int .i64 t.base, .slice FA tn fc, .int .i64 t.timer] 24)) (Below.refl _ _)))
    obtain ⟨bF, hbE⟩ : ∃ b, b = wq.heap.size := ⟨_, rfl⟩
    obtain ⟨WF, hW⟩ : ∃ W, W = wq.alloc (.cells #[.int .i64 t.epoch, .int .i64 t.base, .slice FA tn fc, .int .i64 t.timer] 24) := ⟨_, rfl⟩
    rw [← hW] at S10 HB10 F0 C0 D0 E0 RE RF ⊢
    rw [← hbE] at F0 ⊢
    clear hW hbE hbb hbq hrq hrl x0 x1 x2 x3 S9 HB9
    have u0 := C0.out.at_.cell (j := 0) rfl; have u1 := C0.out.at_.cell (j := 1) rfl; have u2 := C0.out.at_.cell (j := 2) rfl; have u3 := C0.out.at_.cell (j := 3) rfl
    have v0 := D0.out.at_.cell (j := 0) rfl; have v1 := D0.out.at_.cell (j := 1) rfl; have v2 := D0.out.at_.cell (j := 2) rfl; have v3 := D0.out.at_.cell (j := 3) rfl
    go_wp2_with fail
    refine (HL2.out _ _ _ _ _ C0.out.row D0.out.row).mono ?_
    rintro e w11 ⟨rfl, hb11⟩
    have E1 := Lib.hid (E0.out.next hb11)
    have F1 := Lib.hid (F0.out.next hb11)
    have RE1 := Lib.hid (RE.out.below hb11)
    have RF1 := Lib.hid (RF.out.below hb11)
    have HB11 := Lib.hid (below_next HB10.out hb11)
    clear u0 u1 u2 u3 v0 v1 v2 v3 hb11 C0 D0 E0 F0 RE RF HB10
    have u0 := E1.out.at_.cell (j := 0) rfl; have u1 := E1.out.at_.cell (j := 1) rfl; have u2 := E1.out.at_.cell (j := 2) rfl; have u3 := E1.out.at_.cell (j := 3) rfl
    have v0 := F1.out.at_.cell (j := 0) rfl; have v1 := F1.out.at_.cell (j := 1) rfl; have v2 := F1.out.at_.cell (j := 2) rfl; have v3 := F1.out.at_.cell (j := 3) rfl
    go_wp2_with fail
    refine (HL3.out _ _ _ _ _ E1.out.row F1.out.row).mono ?_
    rintro e w12 ⟨rfl, hb12⟩
    have RE2 := Lib.hid (RE1.out.below hb12)
    have RF2 := Lib.hid (RF1.out.below hb12)
    have HB12 := Lib.hid (below_next HB11.out hb12)
    clear u0 u1 u2 u3 v0 v1 v2 v3 hb12 E1 F1 RE1 RF1 HB11
    go_wp2_with fail
    refine (HL4.out _ _ _ _ _ RE2.out RF2.out).mono ?_
    rintro e w13 ⟨rfl, hb13⟩
    have HB13 := Lib.hid (below_next HB12.out hb13)
    clear hb13
    go_wp2_with fail
    go_ret
    exact ⟨rfl, HB13.out⟩
theorem lawLinkSends : Lift.Owes 3 [24, 9, 3, 3] := by
  intro H enc W base args ds ps hval hA _ _
  obtain ⟨v0, v1, v2, v3, d0, d1, d2, d3, p0, p1, p2, p3, rfl, rfl, rfl, h0, h1, h2, h3⟩ := trodAll_four hA
  obtain ⟨s, A, c, rfl, _, hb, _, hc1, hc2, hrow, _⟩ := openSender (hval 0 _ v0 rfl rfl) h0
  obtain ⟨x1, rfl, _, _, _⟩ := ChangeMaps.open_string Try.underlying9 (hval 1 _ v1 rfl rfl) h1
  obtain ⟨x2, rfl, _, _, wf2⟩ := open_int Try.underlying3 (hval 2 _ v2 rfl rfl) h2
  obtain ⟨x3, rfl, _, _, wf3⟩ := open_int Try.underlying3 (hval 3 _ v3 rfl rfl) h3
  exact walkLinkSends s A c _ x2 x3 W hrow hc1 hc2 hb
end Lk
theorem lawLinkSends : Lift.Owes 3 [24, 9, 3, 3] := Lk.lawLinkSends
end Go.Proofs.Ytbdlmokgmgpbfaa
