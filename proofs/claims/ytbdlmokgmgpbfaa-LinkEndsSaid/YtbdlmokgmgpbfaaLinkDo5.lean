/- The law's do: time goes on. -/
import Derived.Test.YtbdlmokgmgpbfaaLinkDo1
namespace Go.Proofs.Ytbdlmokgmgpbfaa
open Go.ChangeShapes Go.WideShapes Go.ChangeAt Go.RowKit
set_option linter.unusedVariables false
set_option maxRecDepth 8000
namespace Lk
open Gen (TellsB TellsI Mine)

/-- What is new lies apart from what is old. -/
theorem apart_fresh {w w' : World} {B B2 s1 s2 n1 n2 : Nat} {e1 e2 : TypeId} {u v : Value} {xs ys : List Value} (h : w'.ownsRow B e1 s1 v n1 xs) (k : w.ownsRow B2 e2 s2 u n2 ys) (hB : w.heap.size ≤ B) : Apart v u := by
  intro q h1 h2
  have := (h.lt q h1).1
  have := (k.lt q h2).2
  omega
theorem ckTickO (s : Sn) (n : Nat) (A : Option Addr) (c : Nat) (s' : Sn) (l : List Pk) (n' m : Nat) (ho : (s', l) = tickO s) (w : World) (hn : n = s.bodies.length) (hn' : n' = s'.bodies.length) (hm : m = l.length) (hl : n ≤ 100000) (h : Row w A (bcs s.bodies)) :
    Calls Try.prog 17 #[.agg #[.int .i64 s.epoch, .int .i64 s.base, .slice A n c, .int .i64 s.timer]] w (fun e w' => ∃ A c A' c', e = .returned (.tuple #[.agg #[.int .i64 s'.epoch, .int .i64 s'.base, .slice A n' c, .int .i64 s'.timer], .slice A' m c']) ∧
      w'.ownsRow w.heap.size 9 1 (.slice A n' c) n' (bcs s'.bodies) ∧ w'.ownsRow w.heap.size 26 3 (.slice A' m c') m (pcs l) ∧ Below w.heap.size w w') := by
  obtain ⟨ep, ba, bs, ti⟩ := s
  subst hn'
  subst hm
  exact ckTick ep ba ti bs n hn hl A c _ ho w h
set_option maxRecDepth 100000 in
set_option maxHeartbeats 4000000 in
theorem lawDo5 (w0 : World) (b : Nat) (ep : Int) (N : Nat) (p : Wy) (hI : Inv ep N p) (hN : N ≤ 1000) (what which : Int) (body : ByteArray) (hwhat : what = 5) (w : World) (h : Plays w0 b p w) :
    Calls Try.prog 23 #[.pointer (some ⟨b, 0, none⟩), .agg #[.int .i64 what, .int .i64 which, .string body]] w (DidP w0 b (tickW p)) := by
  have e0 : (what == 0) = false := ne_b (by omega)
  have e1 : (what == 1) = false := ne_b (by omega)
  have e2 : (what == 2) = false := ne_b (by omega)
  have e3 : (what == 3) = false := ne_b (by omega)
  have e4 : (what == 4) = false := ne_b (by omega)
  have e5 : (what == 5) = true := eq_b (by omega)
  clear hwhat
  obtain ⟨vb, vw, vp, vg, vs, hP⟩ := h
  obtain ⟨n, hn⟩ : ∃ n, n = p.way.length := ⟨_, rfl⟩
  obtain ⟨ii, hii⟩ : ∃ ii : Nat, ii = if 0 < n then idx which n else 0 := ⟨_, rfl⟩
  have hwl : n ≤ 2000 := by rw [hn]; have := hI.wl; omega
  have hway := hP.way
  rw [← hn] at hway
  obtain ⟨WA, wc_, rfl, _⟩ := own_form hway (by omega)
  have HII := Lib.hid hii
  have HNN := Lib.hid hn
  have HI := Lib.hid hI
  have HN := Lib.hid hN
  have HWL := Lib.hid hwl
  have P0 := Lib.hid (hP.next (below_al (o := .cells #[.int .i64 what, .int .i64 which, .string body] 53) (Below.refl _ _)))
  have LA := Lib.hid (Lies.new w #[.int .i64 what, .int .i64 which, .string body] 53)
  have hbk := lies_lt hP.at_
  clear hP hway hn hii hwl hI hN
  go_enter Try.func23, Try.ntmps23
  go_upto_region 1 with fail
  obtain ⟨ka, hka⟩ : ∃ k, k = w.heap.size := ⟨_, rfl⟩
  obtain ⟨W, hW⟩ : ∃ W, W = w.alloc (.cells #[.int .i64 what, .int .i64 which, .string body] 53) := ⟨_, rfl⟩
  rw [← hW] at P0 LA ⊢
  rw [← hka] at LA hbk ⊢
  clear hW hka
  have x6 := P0.out.at_.cell (j := 6) rfl
  have a0 := LA.out.cell (j := 0) rfl
  have a1 := LA.out.cell (j := 1) rfl
  obtain ⟨pz, hpz1⟩ : ∃ z, decide (0 < n) = z := ⟨_, rfl⟩
  have hpz2 : decide ((0 : Int) < (n : Int)) = pz := by rw [← hpz1]; exact decide_eq_decide.2 (by omega)
  go_upto_if 23 with fail
  go_cut [4] from 40 (fun s4 wc => s4 = .int .i64 (ii : Int) ∧ wc = W)
  case first =>
    cases pz
    rotate_left
    · have hn0 : 0 < n := of_decide_eq_true hpz1
      have hn0' : (0 : Int) < (n : Int) := by omega
      have hne : ((n : Int) == 0) = false := ne_b (by omega)
      have hne2 : ¬ (n : Int) = 0 := by omega
      have hne3 : ¬ n = 0 := by omega
      obtain ⟨q, hq⟩ : ∃ q, which.tmod (n : Int) = q := ⟨_, rfl⟩
      have tb := tmod_bounds which hn0'
      have pl := place (a := which) hn0'
      rw [hq] at tb pl
      obtain ⟨y, hy⟩ : ∃ y, y = q + (n : Int) := ⟨_, rfl⟩
      have hw : IntKind.i64.wrap (q + (n : Int)) = y := by rw [hy]; have := HWL.out; exact wrap64L (by omega) (by omega)
      have hr : y.tmod (n : Int) = (ii : Int) := by
        rw [HII.out, if_pos hn0]
        unfold idx
        rw [hq, ← hy]
        rw [← hy] at pl
        exact (Int.toNat_of_nonneg pl.1).symm
      clear tb pl hy
      go_wp2_with fail
      go_meet
      case rel => exact ⟨rfl, rfl⟩
    · have hn0 : ¬ 0 < n := of_decide_eq_false hpz1
      have hn0' : ¬ (0 : Int) < (n : Int) := by omega
      have hii : ii = 0 := by rw [HII.out, if_neg hn0]
      have e5n : what = 5 := by simpa using e5
      have d1 : ¬ what ≤ 3 := by omega
      have d2 : 1 ≤ what := by omega
      clear e5n
      go_wp2_with fail
      go_meet
      case rel => exact ⟨by rw [hii]; rfl, rfl⟩
  case rest =>
    obtain ⟨rfl, rfl⟩ := hcut
    clear x6 a1 hpz1 hpz2
    obtain ⟨⟨t, l⟩, ht⟩ : ∃ o, o = tickO p.s := ⟨_, rfl⟩
    have hts := tick_same p.s
    have hl8 : l.length ≤ 8 := by
      have h8 := ((right_iff _).1 HI.out.right).2.1
      rcases tick_sent p.s with e | e
      · rw [← ht] at e; simp only at e; rw [e]; simp
      · rw [← ht] at e; simp only at e; rw [e, packs_len]; exact h8
    obtain ⟨tn, htn⟩ : ∃ tn, tn = t.bodies.length := ⟨_, rfl⟩
    obtain ⟨ln, hln⟩ : ∃ ln, ln = l.length := ⟨_, rfl⟩
    obtain ⟨m, hm⟩ : ∃ m, m = p.s.bodies.length := ⟨_, rfl⟩
    have hbod := P0.out.bod
    rw [← hm] at hbod
    obtain ⟨BA, bc, rfl, _⟩ := own_form hbod (by omega)
    have HR := Lib.hid (row_of_ownL hbod (by omega))
    have HT := Lib.hid (fun w h => ckTickO p.s m BA bc t l tn ln ht w hm htn hln (by rw [hm]; have := ((right_iff _).1 HI.out.right).2.1; omega) h)
    have HE : Hid (tickW p = { p with s := t, way := if n < 100 then p.way ++ l else p.way }) := Lib.hid (by unfold tickW; rw [← ht, HNN.out])
    rw [← hln] at hl8
    have HL8 := Lib.hid hl8
    have HTN := Lib.hid htn
    have HLN := Lib.hid hln
    clear ht hts hl8 htn hln hm hbod
    have x0 := P0.out.at_.cell (j := 0) rfl; have x1 := P0.out.at_.cell (j := 1) rfl; have x2 := P0.out.at_.cell (j := 2) rfl; have x3 := P0.out.at_.cell (j := 3) rfl
    go_wp2_with fail
    refine (HT.out _ HR.out).mono ?_
    rintro e w1 ⟨A1, c1, A2, c2, rfl, ho1, ho2, hb1⟩
    have hal := below_al (o := .cells #[.int .i64 t.epoch, .int .i64 t.base, .slice A1 tn c1, .int .i64 t.timer] 24) (Below.refl w1.heap.size w1)
    have P1 := Lib.hid ((P0.out.next hb1).next hal)
    have O1 := Lib.hid (own_baseL (own_upL ho1 hal) P0.out.below.size)
    have O2 := Lib.hid (own_upL ho2 hal)
    have AP := Lib.hid (And.intro (apart_fresh ho1 P0.out.put (Nat.le_refl _)) (apart_fresh ho1 P0.out.got (Nat.le_refl _)))
    have hW := P0.out.below.size
    have hbW := lies_lt P0.out.at_
    have L12 := Lib.hid (Lies.new w1 #[.int .i64 t.epoch, .int .i64 t.base, .slice A1 tn c1, .int .i64 t.timer] 24)
    clear x0 x1 x2 x3 ho1 ho2
    go_upto_region 34 with fail
    obtain ⟨k12, hk12⟩ : ∃ k, k = w1.heap.size := ⟨_, rfl⟩
    obtain ⟨W1, hW1⟩ : ∃ W, W = w1.alloc (.cells #[.int .i64 t.epoch, .int .i64 t.base, .slice A1 tn c1, .int .i64 t.timer] 24) := ⟨_, rfl⟩
    rw [← hW1] at P1 O1 O2 L12 ⊢
    rw [← hk12] at L12 ⊢
    clear hW1 hk12 hb1 hal
    have x0 := P1.out.at_.cell (j := 0) rfl; have x1 := P1.out.at_.cell (j := 1) rfl; have x2 := P1.out.at_.cell (j := 2) rfl; have x3 := P1.out.at_.cell (j := 3) rfl
    have f0 := P1.out.at_.free 0; have f1 := P1.out.at_.free 1; have f2 := P1.out.at_.free 2; have f3 := P1.out.at_.free 3
    have y0 := L12.out.cell (j := 0) rfl; have y1 := L12.out.cell (j := 1) rfl; have y2 := L12.out.cell (j := 2) rfl; have y3 := L12.out.cell (j := 3) rfl
    go_upto_region 35 with fail
    have P2 := Lib.hid (P1.out.sn t (.slice A1 tn c1) tn HTN.out O1.out AP.out.1 AP.out.2)
    have O3 := Lib.hid (own_set4C O2.out (own_far O2.out hbW) (.int .i64 t.epoch) (.int .i64 t.base) (.slice A1 tn c1) (.int .i64 t.timer))
    obtain ⟨W2, hW2⟩ : ∃ W, W = (((W1.setCell ⟨b, 0, none⟩ (.int .i64 t.epoch)).setCell ⟨b, 1, none⟩ (.int .i64 t.base)).setCell ⟨b, 2, none⟩ (.slice A1 tn c1)).setCell ⟨b, 3, none⟩ (.int .i64 t.timer) := ⟨_, rfl⟩
    rw [← hW2] at P2 O3 ⊢
    clear hW2 x0 x1 x2 x3 f0 f1 f2 f3 y0 y1 y2 y3 P1 O1 O2 L12
    have x6 := P2.out.at_.cell (j := 6) rfl
    by_cases h100 : n < 100
    · have g1 : (n : Int) < 100 := by omega
      have H100 := Lib.hid h100
      clear h100
      go_wp2_with (at_builtin; refine hold_mk ?_)
      refine hold_out ?_
      have hB : BuiltP w0 W2 (.slice WA n wc_) p.way := ⟨by rw [← HNN.out]; have := P2.out.way; simp only at this; rwa [← HNN.out] at this, P2.out.below⟩
      refine wpPushP (w0 := w0) rfl _ _ rfl _ p.way rfl hB A2 ln c2 l rfl (row_of_ownL O3.out (by omega)) HLN.out (by rw [← HNN.out, ← HLN.out]; have := HL8.out; omega) ?_
      intro v9 w9 bt9 hg9 hat9
      obtain ⟨nl, hnl⟩ : ∃ nl, nl = (p.way ++ l).length := ⟨_, rfl⟩
      have ho9 := bt9.own
      rw [← hnl] at ho9
      obtain ⟨A9, c9, rfl, _⟩ := own_form ho9 (by omega)
      have O9 := Lib.hid ho9
      have G9 := Lib.hid hg9
      have HNL := Lib.hid hnl
      have L9 := Lib.hid (lies_grownK P2.out.at_ hg9 P2.out.far.2.1)
      clear x6 bt9 hg9 hat9 ho9 hnl hB
      have y6 := L9.out.cell (j := 6) rfl
      have g6 := L9.out.free 6
      go_wp2_with fail
      go_end0
      refine ⟨rfl, ?_⟩
      rw [HE.out, if_pos H100.out]
      exact ⟨_, _, _, _, _, P2.out.wy G9.out (fun q hq => .inl hq) (p.way ++ l) (.slice A9 nl c9) nl HNL.out O9.out⟩
    · have g1 : ¬ (n : Int) < 100 := by omega
      have H100 := Lib.hid h100
      clear h100
      go_wp2_with fail
      go_end0
      refine ⟨rfl, ?_⟩
      rw [HE.out, if_neg H100.out]
      exact ⟨_, _, _, _, _, P2.out⟩
end Lk
end Go.Proofs.Ytbdlmokgmgpbfaa
