/- The walk of the law LeaseFences. -/
import Derived.Test.YtgoapkbpcfbipaaLeaseFst
import Derived.Test.YtgoapkbpcfbipaaLawsLeaseE
import Derived.Deep.CutRange
import Derived.Maps.RangeWalk
namespace Go.Proofs.Ytgoapkbpcfbipaa
open Go.ChangeShapes Go.WideShapes Go.ChangeAt Go.RowKit Go.Maps
set_option linter.unusedVariables false
set_option maxRecDepth 8000
namespace Ls
open Gen
open Tick (cl addT)
theorem acL_len (a : Ac) : (acL a).length = 6 := rfl
theorem ac_row {w : World} {A : Option Addr} {l : List Ac} (h : Row w A (acs l)) {k : Nat} {x : Ac} (hk : l[k]? = some x) :
    ∃ q off, A = some ⟨q, off, none⟩ ∧ w.cell? ⟨q, off + k * 6, none⟩ = some (.int .i64 x.wh) ∧ w.cell? ⟨q, off + k * 6 + 1, none⟩ = some (.int .i64 x.gr) ∧ w.cell? ⟨q, off + k * 6 + 2, none⟩ = some (.int .i64 x.wk) ∧
      w.cell? ⟨q, off + k * 6 + 3, none⟩ = some (.int .i64 x.tk) ∧ w.cell? ⟨q, off + k * 6 + 4, none⟩ = some (.int .i64 x.by_) ∧ w.cell? ⟨q, off + k * 6 + 5, none⟩ = some (.int .i64 x.lo) := by
  obtain ⟨q, off, rfl, g⟩ := row_one acL_len (by omega) h hk
  exact ⟨q, off, rfl, by simpa using g 0 _ rfl, g 1 _ rfl, g 2 _ rfl, g 3 _ rfl, g 4 _ rfl, g 5 _ rfl⟩
/-- Inside a round. -/
structure RdAt (w0 : World) (bt mb bw : Nat) (t told : Tb) (N : Nat) (A A0 : Option Addr) (c c0 n : Nat) (D : DataW Unit) (w : World) : Prop where
  fn : FnAt w0 bt mb t N A c n D w
  old : TbAt bw told N A0 c0 w
  ne : bw ≠ bt
theorem RdAt.up {w0 w w' : World} {bt mb bw : Nat} {t told : Tb} {N : Nat} {A A0 : Option Addr} {c c0 n : Nat} {D : DataW Unit} (h : RdAt w0 bt mb bw t told N A A0 c c0 n D w) (hb : Below w.heap.size w w') : RdAt w0 bt mb bw t told N A A0 c c0 n D w' :=
  ⟨h.fn.up hb, h.old.next hb, h.ne⟩
theorem RdAt.turnM {w0 w w' : World} {bt mb bw : Nat} {t told : Tb} {N : Nat} {A A0 : Option Addr} {c c0 n n' : Nat} {D D' : DataW Unit} (h : RdAt w0 bt mb bw t told N A A0 c c0 n D w) (hq : FMap w' mb n' D') (hg : w.grownBy w' (some mb)) : RdAt w0 bt mb bw t told N A A0 c c0 n' D' w' :=
  ⟨h.fn.turnM hq hg, h.old.turnM h.fn.n1 h.fn.map hg, h.ne⟩
theorem RdAt.lay {w0 w : World} {bt mb bw k : Nat} {t t' told : Tb} {N : Nat} {A A' A0 : Option Addr} {c c' c0 n : Nat} {D : DataW Unit} (h : RdAt w0 bt mb bw t told N A A0 c c0 n D w) (hk : TbAt k t' N A' c' w) :
    RdAt w0 bt mb bw t' told N A' A0 c' c0 n D ((w.setCell ⟨bt, 0, none⟩ (.slice A' N c')).setCell ⟨bt, 1, none⟩ (.int .i64 t'.last)) :=
  ⟨h.fn.lay hk, h.old.beside h.fn.tb h.ne h.fn.n1 _ _, h.ne⟩
set_option maxRecDepth 100000 in
set_option maxHeartbeats 4000000 in
theorem walkFences (n : Int) (l : List Ac) (A : Option Addr) (c : Nat) (w : World) (hA : Row w A (acs l)) :
    Calls Try.prog 6 #[.int .i64 n, .slice A l.length c] w (TellsB true w) := by
  obtain ⟨N, hN⟩ : ∃ N : Nat, min (max n 1) 32 = (N : Int) := ⟨(min (max n 1) 32).toNat, by omega⟩
  obtain ⟨M, hM⟩ : ∃ M, M = l.length := ⟨_, rfl⟩
  rw [← hM]
  have HA := Lib.hid hA
  have HM := Lib.hid hM
  have hN1 : 1 ≤ N := by omega
  have hN2 : N ≤ 32 := by omega
  have HNN : Hid (1 ≤ N ∧ N ≤ 32) := Lib.hid ⟨hN1, hN2⟩
  have hN0 : ((N : Int) == 0) = false := ne_b (by omega)
  obtain ⟨l0, hl0⟩ : ∃ l0, l0 = List.replicate N (⟨0, 0, 0⟩ : Le) := ⟨_, rfl⟩
  have HN := Lib.hid (fun w' => ckNew (N : Int) (⟨l0, 0⟩, 0) (by rw [hl0]; unfold newO; rw [if_neg (by omega), Int.toNat_natCast]) N (by rw [hl0]; exact List.length_replicate.symm) w')
  have HOK0 : Hid (Ok ⟨l0, 0⟩) := Lib.hid (by rw [hl0]; exact ok_zero hN1 hN2)
  have HAL := Lib.hid (fun w' => lawAlive w')
  clear hl0 hA hM
  have hmm := @run_makeMap Try.prog
  go_enter Try.func6, Try.ntmps6
  go_wp2_with fail
  refine (HN.out _).mono ?_
  rintro e w1 ⟨A0, c0, rfl, ho0, hb1⟩
  have hb2 := below_next hb1 (below_al (o := .cells #[.slice A0 N c0, .int .i64 0] 24) (Below.refl w1.heap.size w1))
  have HB1 := Lib.hid hb2
  have HSZ := Lib.hid hb1.size
  have T1 := Lib.hid (TbAt.own (t := ⟨l0, 0⟩) ho0)
  clear hb1 hb2 ho0 hN HN
  go_upto_region 2 with fail
  obtain ⟨bt, hbt⟩ : ∃ b, b = w1.heap.size := ⟨_, rfl⟩
  obtain ⟨W1, hW1⟩ : ∃ W, W = w1.alloc (.cells #[.slice A0 N c0, .int .i64 0] 24) := ⟨_, rfl⟩
  rw [← hW1] at HB1 T1 ⊢
  rw [← hbt] at T1 HSZ ⊢
  clear hW1 hbt
  have x0 := T1.out.at_.cell (j := 0) rfl; have x1 := T1.out.at_.cell (j := 1) rfl
  have F0 : Hid (FnAt w bt W1.heap.size ⟨l0, 0⟩ N A0 c0 0 (.map []) (W1.alloc (.map #[] 0))) := Lib.hid
    ⟨T1.out.next (below_al (Below.refl _ _)), World.ownsMap_made (H := Unit) W1 Try.prog 49 (plainElem (H := Unit) Try.prog 4), below_next HB1.out (below_al (Below.refl _ _)), HSZ.out, HB1.out.size, hN1⟩
  go_upto_region 7 with fail
  obtain ⟨mb, hmb⟩ : ∃ b, b = W1.heap.size := ⟨_, rfl⟩
  obtain ⟨W2, hW2⟩ : ∃ W, W = W1.alloc (.map #[] 0) := ⟨_, rfl⟩
  rw [← hW2] at F0 ⊢
  rw [← hmb] at F0 ⊢
  clear hW2 hmb x0 x1 T1 HB1 HSZ hmm
  go_wp2_with fail
  go_loopw [7, 8, 45] (fun s7 s8 s45 wr => ∃ (i : Nat) (now : Int) (ls : List Le) (la : Int) (A1 : Option Addr) (c1 n1 : Nat) (D : DataW Unit), s7 = .int .i64 now ∧ s8 = .int .i64 la ∧ s45 = .int .i64 i ∧ i ≤ M ∧ i ≤ 100 ∧ (0 ≤ now ∧ now ≤ fin) ∧ Ok ⟨ls, la⟩ ∧ n1 ≤ i ∧ FnAt w bt mb ⟨ls, la⟩ N A1 c1 n1 D wr ∧ InAt D ⟨ls, la⟩ (fun _ => false)) (fun _ _ s45 _ => M - (intOf s45).toNat)
  case atStart => exact ⟨0, 0, l0, 0, A0, c0, 0, _, rfl, rfl, rfl, Nat.zero_le _, Nat.zero_le _, ⟨Int.le_refl _, by decide⟩, HOK0.out, Nat.le_refl _, F0.out, InAt.start _ _⟩
  case round =>
    clear F0 HOK0
    obtain ⟨i, now, ls, la, A1, c1, n1, D, rfl, rfl, rfl, hi, hi2, hnow, hok, hn1, hfn, hin⟩ := hrel
    have HI := Lib.hid hi; have HI2 := Lib.hid hi2; have HNOW := Lib.hid hnow; have HOK := Lib.hid hok; have HNE := Lib.hid hn1; have F := Lib.hid hfn; have HIN := Lib.hid hin
    clear hi hi2 hnow hok hn1 hfn hin
    by_cases hlt : i < M
    · obtain ⟨x, hx⟩ : ∃ x, l[i]? = some x := ⟨_, List.getElem?_eq_getElem (by rw [← HM.out]; exact hlt)⟩
      obtain ⟨q, off, hA1, d0, d1, d2, d3, d4, d5⟩ := ac_row (HA.out.below F.out.below) hx
      subst hA1
      have HIM := Lib.hid hlt
      have hki : (i : Int) < (M : Int) := by omega
      clear hx hlt
      obtain ⟨wh, gr, wk, tk, by_, lo⟩ := x
      simp only at d0 d1 d2 d3 d4 d5
      by_cases h100 : 100 ≤ i
      · have g1 : decide ((100 : Int) ≤ (i : Int)) = true := decide_eq_true (by omega)
        have F1 := Lib.hid (F.out.up (below_al (o := .cells #[.int .i64 wh, .int .i64 gr, .int .i64 wk, .int .i64 tk, .int .i64 by_, .int .i64 lo] 44) (Below.refl wr.heap.size wr)))
        clear h100
        go_wp2_with fail
        refine (HAL.out _).mono ?_
        rintro e w5 ⟨rfl, hb5⟩
        have HB5 := Lib.hid (below_next F1.out.below hb5)
        clear hb5
        go_wp2_with fail
        go_ret
        exact ⟨rfl, HB5.out⟩
      · have g1 : decide ((100 : Int) ≤ (i : Int)) = false := decide_eq_false (by omega)
        have HI3 : Hid (i + 1 ≤ 100) := Lib.hid (by omega)
        have hw := wrapK (k := i) (by omega)
        clear h100
        -- the act's copy
        go_upto_region 10 with fail
        have hbx := below_al (o := .cells #[.int .i64 wh, .int .i64 gr, .int .i64 wk, .int .i64 tk, .int .i64 by_, .int .i64 lo] 44) (Below.refl wr.heap.size wr)
        have F1 := Lib.hid (F.out.up hbx)
        have LA1 := Lib.hid (Lies.new wr #[.int .i64 wh, .int .i64 gr, .int .i64 wk, .int .i64 tk, .int .i64 by_, .int .i64 lo] 44)
        obtain ⟨ba, hba⟩ : ∃ b, b = wr.heap.size := ⟨_, rfl⟩
        obtain ⟨W3, hW3⟩ : ∃ W, W = wr.alloc (.cells #[.int .i64 wh, .int .i64 gr, .int .i64 wk, .int .i64 tk, .int .i64 by_, .int .i64 lo] 44) := ⟨_, rfl⟩
        rw [← hW3] at F1 LA1 ⊢
        rw [← hba] at LA1 ⊢
        clear hW3 hba hbx d0 d1 d2 d3 d4 d5 F
        have a0 := LA1.out.cell (j := 0) rfl; have a1 := LA1.out.cell (j := 1) rfl; have a4 := LA1.out.cell (j := 4) rfl
        obtain ⟨nw, hnw⟩ : ∃ nw, nw = min (now + min (max by_ 0) 1000) 1099511627776 := ⟨_, rfl⟩
        have hnw1 : min (now + min (max by_ 0) 1000) 1099511627776 = nw := hnw.symm
        have hwn : IntKind.i64.wrap (now + min (max by_ 0) 1000) = now + min (max by_ 0) 1000 := by
          have h1 := HNOW.out.1; have h2 := HNOW.out.2
          simp only [fin] at h2
          exact wrapS (by omega) (by omega)
        have HNW : Hid (0 ≤ nw ∧ nw ≤ fin) := Lib.hid (by have h1 := HNOW.out.1; have h2 := HNOW.out.2; simp only [fin] at h2 ⊢; omega)
        have HCN : Hid (cl nw = nw) := Lib.hid (Tick.cl_mid HNW.out.1 HNW.out.2)
        clear hnw
        go_upto_region 12 with fail
        have x0 := F1.out.tb.at_.cell (j := 0) rfl; have x1 := F1.out.tb.at_.cell (j := 1) rfl
        clear a0 a1 a4 hnw1 hwn
        go_upto_region 13 with fail
        have hbx := below_al (o := .cells #[.slice A1 N c1, .int .i64 la] 24) (Below.refl W3.heap.size W3)
        have R4 : Hid (RdAt w bt mb W3.heap.size ⟨ls, la⟩ ⟨ls, la⟩ N A1 A1 c1 c1 n1 D (W3.alloc (.cells #[.slice A1 N c1, .int .i64 la] 24))) := Lib.hid ⟨F1.out.up hbx, TbAt.new (t := ⟨ls, la⟩) F1.out.tb.row F1.out.tb.len F1.out.tb.cap, by have := lt_of_block F1.out.tb.at_; omega⟩
        have LA4 := Lib.hid (LA1.out.below hbx)
        obtain ⟨bw, hbw⟩ : ∃ b, b = W3.heap.size := ⟨_, rfl⟩
        obtain ⟨W4, hW4⟩ : ∃ W, W = W3.alloc (.cells #[.slice A1 N c1, .int .i64 la] 24) := ⟨_, rfl⟩
        rw [← hW4] at R4 LA4 ⊢
        rw [← hbw] at R4 ⊢
        clear hW4 hbw hbx x0 x1 F1 LA1
        obtain ⟨q, j, hq, hj, hjN, hq1, hq2⟩ := tn_mod gr hN1
        have hwq : IntKind.i64.wrap (q + N) = q + N := wrapS (by omega) (by omega)
        have x0 := R4.out.fn.tb.at_.cell (j := 0) rfl
        have a0 := LA4.out.cell (j := 0) rfl; have a1 := LA4.out.cell (j := 1) rfl
        have HJN : Hid (j < ls.length) := Lib.hid (by have h := R4.out.fn.tb.len; simp only at h; omega)
        clear hq1 hq2 hjN
        go_wp2_with fail
        go_quiet (fail)
        go_upto_block 2 with fail
        clear hq hj hwq x0 a0 a1
        have hbd := below_drewN (n := nq) (Below.refl W4.heap.size W4)
        have R5 := Lib.hid (R4.out.up hbd)
        have LA5 := Lib.hid (LA4.out.below hbd)
        obtain ⟨W5, hW5⟩ : ∃ W, W = W4.drewN nq := ⟨_, rfl⟩
        rw [← hW5] at R5 LA5 ⊢
        clear hW5 hbd R4 LA4
        go_cut [8, 14, 15, 16, 17, 18, 19, 20] from 76 to 136 (fun s8 s14 s15 s16 s17 s18 s19 s20 wd => ∃ (ls' : List Le) (la' : Int) (A' : Option Addr) (c' n' : Nat) (D' : DataW Unit), s8 = .int .i64 la' ∧ RdAt w bt mb bw ⟨ls', la'⟩ ⟨ls, la⟩ N A' A1 c' c1 n' D' wd ∧ Moved ⟨ls, la⟩ ⟨ls', la'⟩ nw ∧ n' ≤ n1 + 1 ∧ InAt D' ⟨ls', la'⟩ (Maps.has D'))
        case first =>
          by_cases h0 : wh = 0
          · have g0 : (wh == 0) = true := eq_b h0
            clear h0
            have o0 := R5.out.fn.tb.at_.cell (j := 0) rfl; have o1 := R5.out.fn.tb.at_.cell (j := 1) rfl
            have a2 := LA5.out.cell (j := 2) rfl; have a5 := LA5.out.cell (j := 5) rfl
            obtain ⟨o, ho⟩ : ∃ o, o = grantO ⟨ls, la⟩ (j : Int) wk nw (addT nw lo) := ⟨_, rfl⟩
            obtain ⟨m, hm⟩ : ∃ m, m = o.1.ls.length := ⟨_, rfl⟩
            have HG := Lib.hid (ckGrant ls N la j wk nw lo A1 c1 o m R5.out.fn.tb.len (by rw [ho, HCN.out]) hm W5 R5.out.fn.tb.row (by have := HNN.out; omega) R5.out.fn.tb.cap)
            have HGR : Hid (o.2.2 = 0 → ∃ x, Granted ⟨ls, la⟩ j nw o x) := Lib.hid (fun e => by rw [ho] at e ⊢; exact grant_moved HOK.out HJN.out (addT_lo _ _) e)
            have HM6 := Lib.hid hm
            clear ho hm
            obtain ⟨⟨ls6, la6⟩, tk6, z⟩ := o
            simp only at HGR
            go_wp2_with fail
            refine HG.out.mono ?_
            rintro e w6 ⟨A6, c6, rfl, ho6, hb6⟩
            have hbk := below_next hb6 (below_al (o := .cells #[.slice A6 m c6, .int .i64 la6] 24) (Below.refl w6.heap.size w6))
            have R7 := Lib.hid (R5.out.up hbk)
            have LA7 := Lib.hid (LA5.out.below hbk)
            have K7 := Lib.hid (TbAt.own (t := ⟨ls6, la6⟩) ho6)
            clear hb6 hbk o0 o1 a2 a5
            go_upto_region 20 with fail
            obtain ⟨b14, hb14⟩ : ∃ b, b = w6.heap.size := ⟨_, rfl⟩
            obtain ⟨W7, hW7⟩ : ∃ W, W = w6.alloc (.cells #[.slice A6 m c6, .int .i64 la6] 24) := ⟨_, rfl⟩
            rw [← hW7] at R7 LA7 K7 ⊢
            rw [← hb14] at K7 ⊢
            clear hW7 hb14 ho6 HG
            rcases (Classical.em (z = 0)).symm with hz | hz
            · have gz : (z == 0) = false := ne_b hz
              clear hz
              go_wp2_with fail
              go_meet
              case rel => exact ⟨ls, la, A1, c1, n1, D, rfl, R7.out, moved_refl HOK.out nw, by omega, HIN.out.act (moved_refl HOK.out nw)⟩
            · obtain ⟨xj, hgr⟩ := HGR.out hz
              obtain ⟨hget, hfree, htok, hlast, hmv⟩ := hgr
              simp only at hget htok hlast hmv
              have hmN : m = N := by rw [HM6.out]; exact hmv.len.trans R7.out.fn.tb.len.symm
              have HMV := Lib.hid hmv
              clear HGR hmv
              subst hz htok hlast hmN
              have gl : decide (la + 1 ≤ la) = false := decide_eq_false (by omega)
              obtain ⟨xo, xt, xu⟩ := xj
              have HCC := Lib.hid (fun w' => rfCounts xo xt xu nw false (by rw [HCN.out]; exact hfree.symm) w')
              obtain ⟨q7, off7, hA7, e0, e1, e2⟩ := lease_row R7.out.old.row hget
              subst hA7
              have hji : (j : Int) < (m : Int) := by have h1 := HJN.out; have h2 := R7.out.fn.tb.len; simp only at h2; omega
              have o0 := R7.out.old.at_.cell (j := 0) rfl
              simp only at e0 e1 e2
              clear hfree hget
              go_wp2_with fail
              refine (HCC.out _).mono ?_
              rintro e w8 ⟨rfl, hb8⟩
              have R8 := Lib.hid (R7.out.up hb8)
              have LA8 := Lib.hid (LA7.out.below hb8)
              have K8 := Lib.hid (K7.out.next hb8)
              have HJW : Hid (inW (j : Int)) := Lib.hid (by have := HJN.out; have := HNN.out; unfold inW; omega)
              have HLW : Hid (inW (la + 1)) := Lib.hid (by have h := HMV.out.ok.last; simp only at h; unfold inW; omega)
              have HNB : Hid (n1 < maxLen) := Lib.hid (by have := HNE.out; have := HI2.out; unfold maxLen; omega)
              clear hb8 e0 e1 e2 o0 R7 LA7 K7
              go_upto_region 24 with fail
              go_wp2_with (first | (at_mapUpdate; refine wpList_mapUpdate_own _ rfl _ _ _ 42 rfl 49 4 (Keyed.of_law lawGk) Try.underlying42 (plainElem (H := Unit) Try.prog 4) mb n1 D rfl R8.out.fn.map HNB.out _ _ (gkK (j : Int) (la + 1)) rfl rfl (keyOf_gk HJW.out HLW.out) (.lit (.bool false)) [] (bR_mk false) ?_; intro w9 hown9 hg9; have R9 := Lib.hid (R8.out.turnM hown9 hg9); have K9 := Lib.hid (K8.out.turnM R8.out.fn.n1 R8.out.fn.map hg9); have k0 := K9.out.at_.cell (j := 0) rfl; have k1 := K9.out.at_.cell (j := 1) rfl; have t0 := R9.out.fn.tb.at_.cell (j := 0) rfl; have t1 := R9.out.fn.tb.at_.cell (j := 1) rfl; have f0 := R9.out.fn.tb.at_.free 0; have f1 := R9.out.fn.tb.at_.free 1; clear hown9 hg9) | fail)
              go_meet
              case rel => exact ⟨ls6, la + 1, A6, c6, n1 + 1, D.put (gkK (j : Int) (la + 1)) (.lit (.bool false)), rfl, R9.out.lay K9.out, HMV.out, Nat.le_refl _, (HIN.out.act HMV.out).given HJW.out HLW.out ⟨by omega, by have h1 := HJN.out; have h2 := HMV.out.len; simp only at h2 ⊢; omega, Int.le_refl _⟩⟩
          · have g0 : (wh == 0) = false := ne_b h0
            by_cases h1 : wh = 1
            · have g1 : (wh == 1) = true := eq_b h1
              clear h0 h1
              have o0 := R5.out.fn.tb.at_.cell (j := 0) rfl; have o1 := R5.out.fn.tb.at_.cell (j := 1) rfl
              have a3 := LA5.out.cell (j := 3) rfl; have a5 := LA5.out.cell (j := 5) rfl
              obtain ⟨o, ho⟩ : ∃ o, o = renewO ⟨ls, la⟩ (j : Int) tk nw (addT nw lo) := ⟨_, rfl⟩
              obtain ⟨m, hm⟩ : ∃ m, m = o.1.ls.length := ⟨_, rfl⟩
              have HG := Lib.hid (ckRenew ls N la j tk nw lo A1 c1 o m R5.out.fn.tb.len (by rw [ho, HCN.out]) hm W5 R5.out.fn.tb.row (by have := HNN.out; omega) R5.out.fn.tb.cap)
              have HGR : Hid (o.2 = 0 → Moved ⟨ls, la⟩ o.1 nw ∧ o.1.last = la) := Lib.hid (fun e => by rw [ho] at e ⊢; exact renew_moved HOK.out HJN.out (addT_lo _ _) e)
              have HM6 := Lib.hid hm
              clear ho hm
              obtain ⟨⟨ls6, la6⟩, z⟩ := o
              simp only at HGR
              go_wp2_with fail
              refine HG.out.mono ?_
              rintro e w6 ⟨A6, c6, rfl, ho6, hb6⟩
              have hbk := below_next hb6 (below_al (o := .cells #[.slice A6 m c6, .int .i64 la6] 24) (Below.refl w6.heap.size w6))
              have R7 := Lib.hid (R5.out.up hbk)
              have K7 := Lib.hid (TbAt.own (t := ⟨ls6, la6⟩) ho6)
              clear hb6 hbk o0 o1
              go_upto_region 28 with fail
              obtain ⟨b14, hb14⟩ : ∃ b, b = w6.heap.size := ⟨_, rfl⟩
              obtain ⟨W7, hW7⟩ : ∃ W, W = w6.alloc (.cells #[.slice A6 m c6, .int .i64 la6] 24) := ⟨_, rfl⟩
              rw [← hW7] at R7 K7 ⊢
              rw [← hb14] at K7 ⊢
              clear hW7 hb14 ho6 HG
              rcases (Classical.em (z = 0)).symm with hz | hz
              · have gz : (z == 0) = false := ne_b hz
                clear hz
                go_wp2_with fail
                go_meet
                case rel => exact ⟨ls, la, A1, c1, n1, D, rfl, R7.out, moved_refl HOK.out nw, by omega, HIN.out.act (moved_refl HOK.out nw)⟩
              · obtain ⟨hmv, hlast⟩ := HGR.out hz
                (try simp only at hlast)
                have hmN : m = N := by rw [HM6.out]; exact hmv.len.trans R7.out.fn.tb.len.symm
                have HMV := Lib.hid hmv
                clear HGR hmv
                subst hz hlast hmN
                have k0 := K7.out.at_.cell (j := 0) rfl; have k1 := K7.out.at_.cell (j := 1) rfl
                have t0 := R7.out.fn.tb.at_.cell (j := 0) rfl; have t1 := R7.out.fn.tb.at_.cell (j := 1) rfl
                have f0 := R7.out.fn.tb.at_.free 0; have f1 := R7.out.fn.tb.at_.free 1
                go_wp2_with fail
                go_meet
                case rel => exact ⟨ls6, la6, A6, c6, n1, D, rfl, R7.out.lay K7.out, HMV.out, by omega, HIN.out.act HMV.out⟩
            · have g1 : (wh == 1) = false := ne_b h1
              clear h0 h1
              have o0 := R5.out.fn.tb.at_.cell (j := 0) rfl; have o1 := R5.out.fn.tb.at_.cell (j := 1) rfl
              have a3 := LA5.out.cell (j := 3) rfl
              obtain ⟨o, ho⟩ : ∃ o, o = giveO ⟨ls, la⟩ (j : Int) tk := ⟨_, rfl⟩
              obtain ⟨m, hm⟩ : ∃ m, m = o.1.ls.length := ⟨_, rfl⟩
              have HG := Lib.hid (ckGive ls N la j tk A1 c1 o m R5.out.fn.tb.len ho hm W5 R5.out.fn.tb.row (by have := HNN.out; omega) R5.out.fn.tb.cap)
              have HGR : Hid (o.2 = 0 → Moved ⟨ls, la⟩ o.1 nw ∧ o.1.last = la) := Lib.hid (fun e => by rw [ho] at e ⊢; exact give_moved HOK.out HJN.out e)
              have HM6 := Lib.hid hm
              clear ho hm
              obtain ⟨⟨ls6, la6⟩, z⟩ := o
              simp only at HGR
              go_wp2_with fail
              refine HG.out.mono ?_
              rintro e w6 ⟨A6, c6, rfl, ho6, hb6⟩
              have hbk := below_next hb6 (below_al (o := .cells #[.slice A6 m c6, .int .i64 la6] 24) (Below.refl w6.heap.size w6))
              have R7 := Lib.hid (R5.out.up hbk)
              have K7 := Lib.hid (TbAt.own (t := ⟨ls6, la6⟩) ho6)
              clear hb6 hbk o0 o1
              go_upto_region 16 with fail
              obtain ⟨b14, hb14⟩ : ∃ b, b = w6.heap.size := ⟨_, rfl⟩
              obtain ⟨W7, hW7⟩ : ∃ W, W = w6.alloc (.cells #[.slice A6 m c6, .int .i64 la6] 24) := ⟨_, rfl⟩
              rw [← hW7] at R7 K7 ⊢
              rw [← hb14] at K7 ⊢
              clear hW7 hb14 ho6 HG
              rcases (Classical.em (z = 0)).symm with hz | hz
              · have gz : (z == 0) = false := ne_b hz
                clear hz
                go_wp2_with fail
                go_meet
                case rel => exact ⟨ls, la, A1, c1, n1, D, rfl, R7.out, moved_refl HOK.out nw, by omega, HIN.out.act (moved_refl HOK.out nw)⟩
              · obtain ⟨hmv, hlast⟩ := HGR.out hz
                (try simp only at hlast)
                have hmN : m = N := by rw [HM6.out]; exact hmv.len.trans R7.out.fn.tb.len.symm
                have HMV := Lib.hid hmv
                clear HGR hmv
                subst hz hlast hmN
                have k0 := K7.out.at_.cell (j := 0) rfl; have k1 := K7.out.at_.cell (j := 1) rfl
                have t0 := R7.out.fn.tb.at_.cell (j := 0) rfl; have t1 := R7.out.fn.tb.at_.cell (j := 1) rfl
                have f0 := R7.out.fn.tb.at_.free 0; have f1 := R7.out.fn.tb.at_.free 1
                go_wp2_with fail
                go_meet
                case rel => exact ⟨ls6, la6, A6, c6, n1, D, rfl, R7.out.lay K7.out, HMV.out, by omega, HIN.out.act HMV.out⟩
        case rest =>
          obtain ⟨ls2, la2, A2, c2, n2, D2, rfl, hR, hMV, hn2, hIN⟩ := hcut
          have R := Lib.hid hR; have MV := Lib.hid hMV; have HN2 := Lib.hid hn2; have IN := Lib.hid hIN
          have HOK2 := Lib.hid hMV.ok
          have HNE2 : Hid (n2 ≤ i + 1) := Lib.hid (by have := HNE.out; omega)
          have HNB : Hid (n2 < maxLen) := Lib.hid (by have := HNE.out; have := HI2.out; unfold maxLen; omega)
          have HRT := Lib.hid (ckRight ls2 N la2 A2 c2 true hR.fn.tb.len ((ok_iff _).2 hMV.ok).symm wc hR.fn.tb.row (by have := HNN.out; omega) hR.fn.tb.cap)
          clear hR hMV hn2 hIN R5 LA5 HIN HNE HOK
          obtain ⟨wo, hwo⟩ : ∃ wo, wo = wr := ⟨_, rfl⟩
          subst hwo
          have x0 := R.out.fn.tb.at_.cell (j := 0) rfl; have x1 := R.out.fn.tb.at_.cell (j := 1) rfl
          go_wp2_with fail
          refine HRT.out.mono ?_
          rintro e w7 ⟨rfl, hb7⟩
          have R7 := Lib.hid (R.out.up hb7)
          clear hb7 x0 x1 R HRT
          have x0 := R7.out.fn.tb.at_.cell (j := 0) rfl
          have y0 := R7.out.old.at_.cell (j := 0) rfl
          go_wp2_with fail
          clear x0 y0
          go_loopw [152] (fun s wr => ∃ k : Nat, s = .int .i64 k ∧ k ≤ N ∧ RdAt w bt mb bw ⟨ls2, la2⟩ ⟨ls, la⟩ N A2 A1 c2 c1 n2 D2 wr) (fun s _ => N - (intOf s).toNat)
          case atStart => exact ⟨0, rfl, Nat.zero_le _, R7.out⟩
          case round =>
            clear R7
            obtain ⟨k, rfl, hk, hR⟩ := hrel
            have R := Lib.hid hR
            clear hR
            by_cases hkN : k < N
            · have hkl : k < ls2.length := by have h := R.out.fn.tb.len; simp only at h; omega
              have hkl' : k < ls.length := by have h := R.out.old.len; simp only at h; omega
              obtain ⟨y, hy⟩ : ∃ y, ls2[k]? = some y := ⟨_, List.getElem?_eq_getElem hkl⟩
              obtain ⟨x, hx⟩ : ∃ x, ls[k]? = some x := ⟨_, List.getElem?_eq_getElem hkl'⟩
              have HX := Lib.hid hx
              have HKEEP := Lib.hid (MV.out.keep k x y hx hy)
              have HKN := Lib.hid hkN
              have hki2 : (k : Int) < (N : Int) := by omega
              have hw2 := wrapK (k := k) (by have := HNN.out; omega)
              obtain ⟨q1, off1, hA1, d0, d1, d2⟩ := lease_row R.out.fn.tb.row hy
              subst hA1
              clear hy hx hkl hkl' hkN hk
              obtain ⟨yo, yt, yu⟩ := y
              obtain ⟨xo, xt, xu⟩ := x
              simp only at d0 d1 d2 HKEEP
              go_upto_region 35 with fail
              have hb8 := below_al (o := .cells #[.int .i64 yo, .int .i64 yt, .int .i64 yu] 47) (Below.refl wr.heap.size wr)
              have R8 := Lib.hid (R.out.up hb8)
              have L8 := Lib.hid (Lies.new wr #[.int .i64 yo, .int .i64 yt, .int .i64 yu] 47)
              obtain ⟨b22, hb22⟩ : ∃ b, b = wr.heap.size := ⟨_, rfl⟩
              obtain ⟨W8, hW8⟩ : ∃ W, W = wr.alloc (.cells #[.int .i64 yo, .int .i64 yt, .int .i64 yu] 47) := ⟨_, rfl⟩
              rw [← hW8] at R8 L8 ⊢
              rw [← hb22] at L8 ⊢
              clear hW8 hb22 hb8 d0 d1 d2
              obtain ⟨q2, off2, hA2, e0, e1, e2⟩ := lease_row R8.out.old.row HX.out
              subst hA2
              simp only at e0 e1 e2
              have y0 := R8.out.old.at_.cell (j := 0) rfl
              go_upto_region 36 with fail
              have hb9 := below_al (o := .cells #[.int .i64 xo, .int .i64 xt, .int .i64 xu] 47) (Below.refl W8.heap.size W8)
              have R9 := Lib.hid (R8.out.up hb9)
              have L9 := Lib.hid (L8.out.below hb9)
              have M9 := Lib.hid (Lies.new W8 #[.int .i64 xo, .int .i64 xt, .int .i64 xu] 47)
              obtain ⟨b23, hb23⟩ : ∃ b, b = W8.heap.size := ⟨_, rfl⟩
              obtain ⟨W9, hW9⟩ : ∃ W, W = W8.alloc (.cells #[.int .i64 xo, .int .i64 xt, .int .i64 xu] 47) := ⟨_, rfl⟩
              rw [← hW9] at R9 L9 M9 ⊢
              rw [← hb23] at M9 ⊢
              clear hW9 hb23 hb9 e0 e1 e2 y0 R8 L8
              obtain ⟨r, hr⟩ : ∃ r, r = inF ⟨xo, xt, xu⟩ nw := ⟨_, rfl⟩
              have HCC := Lib.hid (fun w' => rfCounts xo xt xu nw r (by rw [HCN.out]; exact hr) w')
              have HRK : Hid (r = true → yo = 0 ∨ (yo = xo ∧ yt = xt)) := Lib.hid (fun e => HKEEP.out (by rw [← hr]; exact e))
              clear hr HKEEP
              have v0 := M9.out.cell (j := 0) rfl; have v1 := M9.out.cell (j := 1) rfl; have v2 := M9.out.cell (j := 2) rfl
              go_wp2_with fail
              refine (HCC.out _).mono ?_
              rintro e w10 ⟨rfl, hb10⟩
              have R10 := Lib.hid (R9.out.up hb10)
              have L10 := Lib.hid (L9.out.below hb10)
              have M10 := Lib.hid (M9.out.below hb10)
              clear hb10 v0 v1 v2 R9 L9 M9
              have z0 := L10.out.cell (j := 0) rfl; have z1 := L10.out.cell (j := 1) rfl
              have v0 := M10.out.cell (j := 0) rfl; have v1 := M10.out.cell (j := 1) rfl
              cases r
              · clear HRK
                go_wp2_with fail
                go_roundw
                case rel => exact ⟨k + 1, rfl, HKN.out, R10.out⟩
                case measure => simp [intOf]; have := HKN.out; omega
              · by_cases hy0 : yo = 0
                · have gy : (yo != 0) = false := nb0 hy0
                  clear HRK hy0
                  go_wp2_with fail
                  go_roundw
                  case rel => exact ⟨k + 1, rfl, HKN.out, R10.out⟩
                  case measure => simp [intOf]; have := HKN.out; omega
                · have gy : (yo != 0) = true := nb hy0
                  obtain ⟨h1, h2⟩ := (HRK.out rfl).resolve_left hy0
                  have gx : (yo != xo) = false := nb0 h1
                  have gt : (yt != xt) = false := nb0 h2
                  clear HRK hy0 h1 h2
                  go_wp2_with fail
                  go_roundw
                  case rel => exact ⟨k + 1, rfl, HKN.out, R10.out⟩
                  case measure => simp [intOf]; have := HKN.out; omega
            · have hki2 : ¬ (k : Int) < (N : Int) := by omega
              obtain ⟨wi, hwi⟩ : ∃ wi, wi = wr := ⟨_, rfl⟩
              subst hwi
              go_wp2_with (first | (at_range; refine wpList_range_own _ rfl _ 42 rfl 49 4 (Keyed.of_law lawGk) Try.underlying42 (plainElem (H := Unit) Try.prog 4) mb n2 D2 rfl R.out.fn.map ?_; intro w0 hrg0 hg0 hs0) | fail)
              (try go_frame)
              clear hk hkN hki2
              have F0 := Lib.hid (R.out.fn.up ((Below.refl _ _).grown hg0 (Nat.le_refl _) (fun k hk => by cases hk)))
              have RB : Hid (w.heap.size ≤ wi.heap.size) := Lib.hid R.out.fn.below.size
              have G0 := Lib.hid hrg0
              obtain ⟨rb, hrb⟩ : ∃ b, b = wi.heap.size := ⟨_, rfl⟩
              rw [← hrb] at RB G0 ⊢
              clear hg0 hs0 hrb hrg0 R
              go_loopw [] (fun wr => ∃ left cnt D3, FRan wr mb rb n2 D3 left cnt ∧ FnAt w bt mb ⟨ls2, la2⟩ N A2 c2 n2 D3 wr ∧ InAt D3 ⟨ls2, la2⟩ left) (fun wr => wr.rangeLeft mb rb)
              case atStart => exact ⟨_, _, D2, G0.out, F0.out, IN.out⟩
              case round =>
                clear F0 G0 IN
                obtain ⟨left, cnt, D3, hG, hF, hI⟩ := hrel
                have G := Lib.hid hG; have F := Lib.hid hF; have IN := Lib.hid hI
                clear hG hF hI
                go_wp2_with (first
                  | (at_next; refine wpList_next_ranges _ rfl _ rfl 49 (Keyed.of_law lawGk) (plainElem (H := Unit) Try.prog 4) (fun p : Int × Int => gkV p.1 p.2) Value.bool (fun key kl h => by obtain ⟨g, k, _, _, e, _⟩ := keyOf_gk_inv h; exact ⟨(g, k), e⟩) (fun v y hv => by obtain ⟨c, e, _⟩ := bR_inv hv; exact ⟨c, e⟩) mb rb n2 D3 left cnt rfl G.out ?_ ?_)
                  | fail)
                · intro hc0 hl0
                  have HL0 := Lib.hid hl0
                  clear hc0 hl0
                  go_wp2_with fail
                  go_roundw
                  case rel => exact ⟨i + 1, nw, ls2, la2, A2, c2, n2, D3, rfl, rfl, rfl, HIM.out, HI3.out, HNW.out, HOK2.out, HNE2.out, F.out, IN.out.done HL0.out⟩
                  case measure => simp [intOf]; have := HIM.out; omega
                · intro g k
                  refine ⟨?_, ?_⟩
                  · intro kl yd yp w1 cnt1 hkey hlk hv hat hrg1 hlt1 hg1 hs1 hen
                    obtain ⟨g', k', hg', hk', e, rfl⟩ := keyOf_gk_inv hkey
                    simp only [Value.agg.injEq, Array.mk.injEq, List.cons.injEq, Value.int.injEq, true_and, and_true] at e
                    obtain ⟨rfl, rfl⟩ := e
                    obtain ⟨cc, ec, ey⟩ := bR_inv hv
                    cases ec
                    cases ey
                    have hh : Maps.has D3 (gkK g k) = true := has_true_of_atKey hat
                    obtain ⟨hr, b, hb, hbt, _⟩ := IN.out.each g k hg' hk' hh
                    have hbc : b = false := by
                      have h1 := (hb .nil).symm.trans (hat .nil)
                      simpa using h1
                    subst hbc
                    obtain ⟨f, hf⟩ : ∃ f, f = fencedO ⟨ls2, la2⟩ g k := ⟨_, rfl⟩
                    have HFT : Hid (false = true → f = true) := Lib.hid (by rw [hf]; exact hbt)
                    have HFE := Lib.hid (fun w' hrow hcap => ckFenced ls2 N la2 g k A2 c2 f F.out.tb.len hf w' hrow (by have := HNN.out; omega) hcap)
                    have HKEY := Lib.hid (keyOf_gk hg' hk')
                    have HH := Lib.hid hh
                    have F1 := Lib.hid (F.out.turnI G.out hg1 hrg1 RB.out)
                    have G1 := Lib.hid hrg1
                    have LT := Lib.hid hlt1
                    have IN1 := Lib.hid (IN.out.step hg' hk' hh)
                    rw [← hf] at IN1
                    clear hkey hlk hv hat hrg1 hlt1 hg1 hs1 hh hr hb hbt hg' hk' hf
                    (try simp only at hen)
                    go_upto_region 42 with fail
                    have hb11 := below_al (o := .cells #[.int .i64 g, .int .i64 k] 49) (Below.refl w1.heap.size w1)
                    have F11 := Lib.hid (F1.out.up hb11)
                    have G11 := Lib.hid (ran_below G1.out hb11)
                    have L11 := Lib.hid (Lies.new w1 #[.int .i64 g, .int .i64 k] 49)
                    obtain ⟨b24, hb24⟩ : ∃ b, b = w1.heap.size := ⟨_, rfl⟩
                    obtain ⟨W11, hW11⟩ : ∃ W, W = w1.alloc (.cells #[.int .i64 g, .int .i64 k] 49) := ⟨_, rfl⟩
                    rw [← hW11] at F11 G11 L11 ⊢
                    rw [← hb24] at L11 ⊢
                    clear hW11 hb24 hb11 hen
                    have x0 := F11.out.tb.at_.cell (j := 0) rfl; have x1 := F11.out.tb.at_.cell (j := 1) rfl
                    have k0 := L11.out.cell (j := 0) rfl; have k1 := L11.out.cell (j := 1) rfl
                    go_wp2_with fail
                    refine (HFE.out _ F11.out.tb.row F11.out.tb.cap).mono ?_
                    rintro e w12 ⟨rfl, hb12⟩
                    have F12 := Lib.hid (F11.out.up hb12)
                    have G12 := Lib.hid (ran_below G11.out hb12)
                    have L12 := Lib.hid (L11.out.below hb12)
                    clear hb12 x0 x1 k0 k1 F11 G11 L11
                    have k0 := L12.out.cell (j := 0) rfl; have k1 := L12.out.cell (j := 1) rfl
                    go_wp2_with (first | (at_mapUpdate; refine Gen.wpList_store_ranges _ rfl _ _ _ 42 rfl 49 4 (Keyed.of_law lawGk) Try.underlying42 (plainElem (H := Unit) Try.prog 4) mb rb n2 D3 _ cnt1 rfl G12.out HNB.out _ _ (gkK g k) rfl rfl HKEY.out HH.out (.lit (.bool f)) [] (bR_mk f) ?_; intro w13 hrg13 hg13 hs13; have F13 := Lib.hid (F12.out.turnM hrg13.owns hg13); have G13 := Lib.hid hrg13; clear hrg13 hg13 hs13) | fail)
                    (try go_frame)
                    go_wp2_with fail
                    go_roundw
                    case rel => exact ⟨_, cnt1, _, G13.out, F13.out, IN1.out⟩
                    case measure => rw [G13.out.left_eq, G.out.left_eq]; exact LT.out
                  · intro kl yd yp w1 cnt1 hkey hlk hv hat hrg1 hlt1 hg1 hs1 hen
                    obtain ⟨g', k', hg', hk', e, rfl⟩ := keyOf_gk_inv hkey
                    simp only [Value.agg.injEq, Array.mk.injEq, List.cons.injEq, Value.int.injEq, true_and, and_true] at e
                    obtain ⟨rfl, rfl⟩ := e
                    obtain ⟨cc, ec, ey⟩ := bR_inv hv
                    cases ec
                    cases ey
                    have hh : Maps.has D3 (gkK g k) = true := has_true_of_atKey hat
                    obtain ⟨hr, b, hb, hbt, _⟩ := IN.out.each g k hg' hk' hh
                    have hbc : b = true := by
                      have h1 := (hb .nil).symm.trans (hat .nil)
                      simpa using h1
                    subst hbc
                    obtain ⟨f, hf⟩ : ∃ f, f = fencedO ⟨ls2, la2⟩ g k := ⟨_, rfl⟩
                    have HFT : Hid (true = true → f = true) := Lib.hid (by rw [hf]; exact hbt)
                    have HFE := Lib.hid (fun w' hrow hcap => ckFenced ls2 N la2 g k A2 c2 f F.out.tb.len hf w' hrow (by have := HNN.out; omega) hcap)
                    have HKEY := Lib.hid (keyOf_gk hg' hk')
                    have HH := Lib.hid hh
                    have F1 := Lib.hid (F.out.turnI G.out hg1 hrg1 RB.out)
                    have G1 := Lib.hid hrg1
                    have LT := Lib.hid hlt1
                    have IN1 := Lib.hid (IN.out.step hg' hk' hh)
                    rw [← hf] at IN1
                    clear hkey hlk hv hat hrg1 hlt1 hg1 hs1 hh hr hb hbt hg' hk' hf
                    (try simp only at hen)
                    go_upto_region 42 with fail
                    have hb11 := below_al (o := .cells #[.int .i64 g, .int .i64 k] 49) (Below.refl w1.heap.size w1)
                    have F11 := Lib.hid (F1.out.up hb11)
                    have G11 := Lib.hid (ran_below G1.out hb11)
                    have L11 := Lib.hid (Lies.new w1 #[.int .i64 g, .int .i64 k] 49)
                    obtain ⟨b24, hb24⟩ : ∃ b, b = w1.heap.size := ⟨_, rfl⟩
                    obtain ⟨W11, hW11⟩ : ∃ W, W = w1.alloc (.cells #[.int .i64 g, .int .i64 k] 49) := ⟨_, rfl⟩
                    rw [← hW11] at F11 G11 L11 ⊢
                    rw [← hb24] at L11 ⊢
                    clear hW11 hb24 hb11 hen
                    have x0 := F11.out.tb.at_.cell (j := 0) rfl; have x1 := F11.out.tb.at_.cell (j := 1) rfl
                    have k0 := L11.out.cell (j := 0) rfl; have k1 := L11.out.cell (j := 1) rfl
                    go_wp2_with fail
                    refine (HFE.out _ F11.out.tb.row F11.out.tb.cap).mono ?_
                    rintro e w12 ⟨rfl, hb12⟩
                    have F12 := Lib.hid (F11.out.up hb12)
                    have G12 := Lib.hid (ran_below G11.out hb12)
                    have L12 := Lib.hid (L11.out.below hb12)
                    clear hb12 x0 x1 k0 k1 F11 G11 L11
                    have k0 := L12.out.cell (j := 0) rfl; have k1 := L12.out.cell (j := 1) rfl
                    have hft := HFT.out (by first | rfl | trivial)
                    subst hft
                    go_wp2_with (first | (at_mapUpdate; refine Gen.wpList_store_ranges _ rfl _ _ _ 42 rfl 49 4 (Keyed.of_law lawGk) Try.underlying42 (plainElem (H := Unit) Try.prog 4) mb rb n2 D3 _ cnt1 rfl G12.out HNB.out _ _ (gkK g k) rfl rfl HKEY.out HH.out (.lit (.bool true)) [] (bR_mk true) ?_; intro w13 hrg13 hg13 hs13; have F13 := Lib.hid (F12.out.turnM hrg13.owns hg13); have G13 := Lib.hid hrg13; clear hrg13 hg13 hs13) | fail)
                    (try go_frame)
                    go_wp2_with fail
                    go_roundw
                    case rel => exact ⟨_, cnt1, _, G13.out, F13.out, IN1.out⟩
                    case measure => rw [G13.out.left_eq, G.out.left_eq]; exact LT.out
    · have hki : ¬ (i : Int) < (M : Int) := by omega
      go_wp2_with fail
      refine (HAL.out _).mono ?_
      rintro e w5 ⟨rfl, hb5⟩
      have HB5 := Lib.hid (below_next F.out.below hb5)
      clear hb5
      go_wp2_with fail
      go_ret
      exact ⟨rfl, HB5.out⟩
end Ls
theorem lawLeaseFences : Lift.Owes 6 [3, 41] := by
  intro H enc W base args ds ps hval hA _ _
  obtain ⟨v0, v1, d0, d1, p0, p1, rfl, rfl, rfl, h0, h1⟩ := trodAll_two hA
  obtain ⟨a, rfl, rfl, rfl, w1⟩ := open_int Try.underlying3 (hval 0 _ v0 rfl rfl) h0
  obtain ⟨l, A, c, rfl, hr⟩ := Ls.openActs (hval 1 _ v1 rfl rfl) h1
  exact Ls.walkFences a l A c W hr
end Go.Proofs.Ytgoapkbpcfbipaa
