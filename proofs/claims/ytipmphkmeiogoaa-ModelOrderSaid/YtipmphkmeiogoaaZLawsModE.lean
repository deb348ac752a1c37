/- The walk of the law ModelOrder. -/
import Derived.Test.YtipmphkmeiogoaaZ30
import Derived.Test.YtipmphkmeiogoaaZ4
import Derived.Deep.CutBlock
import Derived.RegionTactic
import Derived.BigRegion
import Derived.ChangeAlike
import Derived.LoopTactic
namespace Go.Proofs.Ytipmphkmeiogoaa
open Go.ChangeShapes Go.WideShapes Go.ChangeAt Go.RowKit Go.Shelf Tick
set_option linter.unusedVariables false
set_option maxRecDepth 8000
namespace Mo
open Gen (TellsI TellsB SaysI lies_new1)
open Jo (Jb Ev Sr evIs srcOk insOk jbC jbV srV evL Srs)
open Pan (Pl Pn Rs adds)
set_option maxRecDepth 100000 in
set_option maxHeartbeats 1000000 in
theorem walkModelOrder (j : Jb) (hlim : Lp.inI j.limit) (t : Sr) (SA : Option Addr) (ss : List Int) (sc : Nat) (w : World) (h : SrOk w t) (hsw : Row w SA (ss.map (Value.int .i64))) (hsl : ss.length ≤ 9223372036854775807) :
    Calls Try.prog 6 #[jbV j, .slice t.A t.l.length t.c, .slice SA ss.length sc] w (TellsB true w) := by
  have hok := cutS_ok (k := 30) h
  obtain ⟨s, hs⟩ : ∃ s, s = cutS 30 t := ⟨_, rfl⟩
  rw [← hs] at hok
  obtain ⟨n, hn⟩ : ∃ n, n = s.l.length := ⟨_, rfl⟩
  have hsA : s.A = t.A := by rw [hs]; unfold cutS; split <;> rfl
  have hsc : s.c = t.c := by rw [hs]; unfold cutS; split <;> rfl
  have hway : (¬ 30 < t.l.length ∧ n = t.l.length) ∨ (30 < t.l.length ∧ ¬ t.l.length ≤ 200 ∧ n = t.l.length) ∨ (30 < t.l.length ∧ t.l.length ≤ 200 ∧ n = 30) := by
    rw [hn, hs]
    unfold cutS
    by_cases h1 : 30 < t.l.length
    · by_cases h2 : t.l.length ≤ 200
      · rw [if_pos ⟨h1, h2⟩]; simp only [List.length_take]; omega
      · rw [if_neg (by omega)]; omega
    · rw [if_neg (by omega)]; omega
  have hfewt := h.few
  have hsome : 30 < t.l.length → ∃ b off, t.A = some ⟨b, off, none⟩ := fun h1 => some_of h (by omega)
  have HFE := Lib.hid (fun h200 => cutS_few (k := 30) (s := t) h200)
  rw [← hs] at HFE
  obtain ⟨J, hJ⟩ : ∃ J : Jb, J = ⟨j.groups, j.size, j.slide, j.fold, j.fuel, j.limit, 1099511627776, j.idle⟩ := ⟨_, rfl⟩
  have hlimJ : Lp.inI J.limit := by rw [hJ]; exact hlim
  have hJd : J.delay = 1099511627776 := by rw [hJ]
  have HJV : Hid (Value.agg #[.int .i64 j.groups, .int .i64 j.size, .int .i64 j.slide, .int .i64 j.fold, .int .i64 j.fuel, .int .i64 j.limit, .int .i64 1099511627776, .int .i64 j.idle] = jbV J) := Lib.hid (by rw [hJ])
  have HJC : Hid (#[.int .i64 j.groups, .int .i64 j.size, .int .i64 j.slide, .int .i64 j.fold, .int .i64 j.fuel, .int .i64 j.limit, .int .i64 1099511627776, .int .i64 j.idle] = jbC J) := Lib.hid (by rw [hJ])
  have HO := Lib.hid (one_of (j := J) hlimJ hok hn)
  have HA := Lib.hid (fun w => lawAliveM w)
  have HLR := Lib.hid (fun (xs : List Rs) A A' c c' w (hl : xs.length ≤ 100000) h1 h2 => paLikeR xs (by omega) A A' c c' w h1 h2)
  have HRUN : Hid (∀ (u : Sr) (m : Nat), m = u.l.length → (insOk [u] = true → (keptAll J ([u].map (·.l))).length ≤ 120) → ∀ w' b, SrOk w' u → Row w' (some ⟨b, 0, none⟩) [.slice u.A m u.c] → Calls Try.prog 18 #[jbV J, .slice (some ⟨b, 0, none⟩) 1 1] w' (GivesRE (runOut J [u]) w')) := Lib.hid (fun u m hm hb w' b hu hr => by
    subst hm
    exact mdRun J hlimJ [u] _ 1 w' hr (srs_one hu.row hu.len) (fun x hx => by simp only [List.mem_singleton] at hx; subst hx; exact hu.fit) hb)
  have LJ := Lib.hid (Lies.new w (jbC J) 23)
  have HB0 := Lib.hid (below_al (o := .cells (jbC J) 23) (Below.refl w.heap.size w))
  obtain ⟨z, hz⟩ : ∃ z, z = chk J [s] := ⟨_, rfl⟩
  have HZ := Lib.hid hz
  have HSA := Lib.hid hsA
  have HSC := Lib.hid hsc
  have HN := Lib.hid hn
  have HOK := Lib.hid hok
  have HSW := Lib.hid hsw
  have HJD := Lib.hid hJd
  obtain ⟨i0, hi0, hz0', hz1, hz2⟩ := info_parts evInfo
  have HI0 := Lib.hid hi0; have HZ0 := Lib.hid hz0'; have HZ1 := Lib.hid hz1; have HZ2 := Lib.hid hz2
  clear hlim h hok hn hz hs hsA hsc hsw hJd hJ hlimJ hi0 hz0' hz1 hz2
  rcases hway with ⟨h1, h2⟩ | ⟨h1, h2, h3⟩ | ⟨h1, h2, h3⟩
  · have e1 : ¬ (30 : Int) < (t.l.length : Int) := by omega
    have hnn : n = t.l.length := h2
    have HNN := Lib.hid hnn
    clear h1 h2 hnn hsome hfewt
    go_enter Try.func6, Try.ntmps6
    go_upto_if 24 with fail
    go_cut [1] from 25 (fun v wc => v = .slice s.A n s.c ∧ wc = w.alloc (.cells (jbC j) 23))
    case first =>
      go_wp2_with fail
      go_meet
      case rel => exact ⟨by rw [HSA.out, HSC.out, HNN.out], rfl⟩
    case rest =>
      obtain ⟨rfl, rfl⟩ := hcut
      clear e1 HSA HSC HNN
      go_upto_region 4 with fail
      rw [HJC.out]
      obtain ⟨w0, hw0⟩ : ∃ w0, w0 = w.alloc (.cells (jbC J) 23) := ⟨_, rfl⟩
      rw [← hw0] at LJ HB0 ⊢
      clear hw0
      have x0 := LJ.out.cell (j := 0) rfl; have x1 := LJ.out.cell (j := 1) rfl; have x2 := LJ.out.cell (j := 2) rfl; have x3 := LJ.out.cell (j := 3) rfl; have x4 := LJ.out.cell (j := 4) rfl; have x5 := LJ.out.cell (j := 5) rfl; have x6 := LJ.out.cell (j := 6) rfl; have x7 := LJ.out.cell (j := 7) rfl
      by_cases hz0 : z = 0
      · have hc0 : chk J [s] = 0 := by rw [← HZ.out]; exact hz0
        have hn30 : n ≤ 30 := by rw [HN.out]; exact HFE.out (insOk_one (chk_ok hc0).2).1
        have hmx := fun (B : Option Addr) (e : Nat) (ms : List Ev) (hp : ms.Perm s.l) => mixed_run (j := J) HJD.out (s := s) (t := ⟨B, e, ms⟩) hc0 hp (by rw [← HN.out]; exact hn30)
        have hms := mixed_run (j := J) HJD.out (s := s) (t := s) hc0 (List.Perm.refl _) (by rw [← HN.out]; exact hn30)
        obtain ⟨_, ho2, hkl, _, hbs, hrl⟩ := hms
        obtain ⟨ro, hro⟩ : ∃ ro, ro = runOut J [s] := ⟨_, rfl⟩
        rw [← hro] at ho2 hrl
        have HMX := Lib.hid (fun B e ms hp => (hmx B e ms hp).1.trans hro.symm)
        have HMB := Lib.hid (fun B e ms hp => (hmx B e ms hp).2.2.2.1)
        obtain ⟨rs, re⟩ := ro
        simp only at ho2 hrl
        subst ho2
        have HRS := Lib.hid (fun w' b hu hr => show Calls Try.prog 18 #[jbV J, .slice (some ⟨b, 0, none⟩) 1 1] w' (GivesRE (rs, 0) w') from hro ▸ HRUN.out s n HN.out hbs w' b hu hr)
        have HK := Lib.hid (fun w' hb => show Calls Try.prog 10 #[jbV J, .slice s.A n s.c] w' (GivesE (kept J 0 s.l, 0) w') from keptOut_ok (j := J) hc0 ▸ HO.out.kept w' hb)
        have HKL : Hid ((kept J 0 s.l).length = n) := Lib.hid (by rw [hkl, HN.out])
        have HRLL := Lib.hid hrl
        have hnn : ((n : Int) == (n : Int)) = true := eq_b rfl
        have HRW := Lib.hid (row_new1 w0 (.slice s.A n s.c))
        have HBR := Lib.hid (below_al (o := .cells #[.slice s.A n s.c] 24) (Below.refl w0.heap.size w0))
        clear hz0 hc0 hmx hkl hbs hrl hro HZ HO HFE
        go_wp2_with fail
        refine (HRS.out _ _ (HOK.out.below (below_next HB0.out HBR.out)) HRW.out).mono ?_
        rintro e w1 ⟨A1, c1, rfl, l1, l2, r1, hb1⟩
        have hb01 := below_next HBR.out hb1
        have HB1 := Lib.hid (below_next HB0.out hb01)
        have LJ1 := Lib.hid (LJ.out.below hb01)
        have R1 := Lib.hid r1
        clear hb1 r1 l1 l2 hb01 x0 x1 x2 x3 x4 x5 x6 x7
        have x0 := LJ1.out.cell (j := 0) rfl; have x1 := LJ1.out.cell (j := 1) rfl; have x2 := LJ1.out.cell (j := 2) rfl; have x3 := LJ1.out.cell (j := 3) rfl; have x4 := LJ1.out.cell (j := 4) rfl; have x5 := LJ1.out.cell (j := 5) rfl; have x6 := LJ1.out.cell (j := 6) rfl; have x7 := LJ1.out.cell (j := 7) rfl
        go_wp2_with fail
        refine (HK.out _ HB1.out).mono ?_
        rintro e w2 ⟨A2, c2, rfl, m1, m2, r2, hb2⟩
        simp only
        rw [HKL.out]
        have HB2 := Lib.hid (below_next HB1.out hb2)
        have LJ2 := Lib.hid (LJ1.out.below hb2)
        have R2 := Lib.hid (R1.out.below hb2)
        have HU := Lib.hid (HOK.out.below HB2.out)
        have HSC := Lib.hid (HSW.out.below HB2.out)
        clear hb2 r2 m1 m2 x0 x1 x2 x3 x4 x5 x6 x7
        go_wp2_with (at_builtin; refine hold_mk ?_)
        refine hold_out ?_
        refine wpApp rfl _ _ _ rfl w2.heap.size 45 i0 _ 3 32 Try.underlying24 HI0.out HZ0.out HZ1.out HZ2.out rfl (by omega) _ 0 [] rfl (own_new (Nat.le_refl _)) s.A n s.c (ec s.l) rfl (HU.out.row.below (below_al (Below.refl _ _))) (by rw [ec_len, HN.out]) (ec_ones s.l) (by unfold maxLen; omega) (by omega) (by simp) ?_
        intro v1 w3 hown1 hb3
        rw [Nat.zero_add, List.nil_append] at hown1
        have B3 := Lib.hid ((below_al (o := .cells #[] 45) (Below.refl w2.heap.size w2)).trans hb3)
        have HOW := Lib.hid hown1
        clear hown1 hb3
        go_upto_block 0 with fail
        go_cut [11, 12, 13, 14] from 68 (fun s7 s8 s9 s10 wx => ∃ B e ms, s7 = .slice B n e ∧ ms.Perm s.l ∧ Row wx B (ec ms) ∧ Below w2.heap.size w2 wx ∧ n ≤ e ∧ e ≤ maxLen)
        case first =>
          rcases HOW.out.2 with ⟨rfl, h0⟩ | ⟨g, cap, cur, rfl, hg, hh, hn, hm, hcur, hx⟩
          · have hyn : s.l = [] := List.eq_nil_of_length_eq_zero (by have := HN.out; omega)
            have HYN := Lib.hid hyn
            subst h0
            clear HOW hyn
            go_wp2_with fail
            go_loop [68] (fun i => i = .int .i64 (0 : Nat)) (fun _ => 0)
            case atStart => rfl
            case round =>
              obtain rfl := hrel
              by_cases hlt : 0 < ss.length
              · obtain ⟨x, b, off, rfl, hx, hc2⟩ := (HSC.out.below B3.out).ints hlt
                rw [Nat.add_zero] at hc2
                clear hx
                go_wp2_with fail
                go_meet
                case rel => exact ⟨none, 0, [], rfl, by rw [HYN.out], Row.nil, B3.out, Nat.le_refl _, by simp [maxLen]⟩
              · go_wp2_with fail
                go_meet
                case rel => exact ⟨none, 0, [], rfl, by rw [HYN.out], Row.nil, B3.out, Nat.le_refl _, by simp [maxLen]⟩
          · have T1 := Lib.hid (show MixedE w2 s.l n g cap w3 from ⟨⟨s.l, List.Perm.refl _, HOW.out⟩, B3.out⟩)
            have HG := Lib.hid hg
            clear hh hn hm hcur hx hg B3 HOW
            go_wp2_with fail
            go_loopw [68] (fun i wr => (∃ j : Nat, i = .int .i64 j ∧ j ≤ ss.length) ∧ MixedE w2 s.l n g cap wr) (fun i _ => ss.length - (intOf i).toNat)
            case atStart => exact ⟨⟨0, rfl, Nat.zero_le _⟩, T1.out⟩
            case round =>
              obtain ⟨⟨i, rfl, hj⟩, ⟨ms, hp, hown⟩, hbw⟩ := hrel
              have hml : ms.length = n := hp.length_eq.trans HN.out.symm
              have HP := Lib.hid hp
              have HOO := Lib.hid hown
              have BB := Lib.hid hbw
              have HM := Lib.hid (show Row wr (some ⟨g, 0, none⟩) (ec ms) ∧ n ≤ cap ∧ cap ≤ maxLen from by
                obtain ⟨A', c', he, k1, k2, _, hr', _⟩ := own_form hown (by omega)
                cases he
                exact ⟨hr', k1, k2⟩)
              clear hp hown hbw T1
              by_cases hlt : i < ss.length
              · obtain ⟨x, b, off, rfl, hx, hc2⟩ := (HSC.out.below BB.out).ints hlt
                clear hx
                by_cases hn : i + 1 < n
                · obtain ⟨q, hq⟩ : ∃ q, x.tmod ((n : Int) - i) = q := ⟨_, rfl⟩
                  have q1 : -((n : Int) - i) < q := hq ▸ tmod_loM (by omega)
                  have q2 : q < (n : Int) - i := hq ▸ Int.tmod_lt_of_pos _ (by omega)
                  obtain ⟨r, hr⟩ : ∃ r, (q + n - i).tmod ((n : Int) - i) = r := ⟨_, rfl⟩
                  have r1 : 0 ≤ r := hr ▸ Int.tmod_nonneg _ (by omega)
                  have r2 : r < (n : Int) - i := hr ▸ Int.tmod_lt_of_pos _ (by omega)
                  have hr3 : (q + n - i) % ((n : Int) - i) = r := by rw [← Int.tmod_eq_emod_of_nonneg (by omega)]; exact hr
                  obtain ⟨kk, hk⟩ : ∃ kk : Nat, (i : Int) + r = kk := ⟨((i : Int) + r).toNat, by omega⟩
                  have k1 : i ≤ kk := by omega
                  have k2 : kk < n := by omega
                  obtain ⟨u, hu⟩ : ∃ u, ms[i]? = some u := ⟨_, List.getElem?_eq_getElem (by omega)⟩
                  obtain ⟨v, hv⟩ : ∃ v, ms[kk]? = some v := ⟨_, List.getElem?_eq_getElem (by omega)⟩
                  obtain ⟨⟨a0, a1, a2⟩, a4, a5, a6⟩ := own_cellE HOO.out hu
                  obtain ⟨⟨b0, b1, b2⟩, b4, b5, b6⟩ := own_cellE HOO.out hv
                  have HUU := Lib.hid hu
                  have HVV := Lib.hid hv
                  clear hu hv hml
                  by_cases hjk : i = kk
                  · subst hjk
                    go_wp2_with fail
                    go_region
                    have T2 := Lib.hid (MixedE.swap HG.out HP.out HOO.out BB.out HUU.out HUU.out)
                    clear a0 a1 a2 a4 a5 a6 b0 b1 b2 b4 b5 b6 hq hr hr3 hk
                    go_wp2
                    go_roundw
                    case rel => exact ⟨⟨i + 1, by go_num, by omega⟩, T2.out⟩
                    case measure => simp [intOf]; omega
                  · have hij : i < kk := by omega
                    clear hjk
                    go_wp2_with fail
                    go_region
                    have T2 := Lib.hid (MixedE.swap HG.out HP.out HOO.out BB.out HUU.out HVV.out)
                    clear a0 a1 a2 a4 a5 a6 b0 b1 b2 b4 b5 b6 hq hr hr3 hk
                    go_wp2
                    go_roundw
                    case rel => exact ⟨⟨i + 1, by go_num, by omega⟩, T2.out⟩
                    case measure => simp [intOf]; omega
                · have hge : n ≤ i + 1 := by omega
                  go_wp2_with fail
                  go_meet
                  case rel => exact ⟨_, _, ms, rfl, HP.out, HM.out.1, BB.out, HM.out.2⟩
              · have hge : ss.length ≤ i := by omega
                clear hlt
                go_wp2_with fail
                go_meet
                case rel => exact ⟨_, _, ms, rfl, HP.out, HM.out.1, BB.out, HM.out.2⟩
        case rest =>
          obtain ⟨B, d, ms, rfl, hp, hrow, hbe, hd1, hd2⟩ := hcut
          obtain ⟨wb, hwb⟩ : ∃ wb, wb = wc := ⟨_, rfl⟩
          subst hwb
          have hlm : n = ms.length := by rw [hp.length_eq]; exact HN.out
          have HU4 : Hid (SrOk wb ⟨B, d, ms⟩) := Lib.hid ⟨hrow, by rw [← hlm]; exact hd1, hd2, fun e he => HOK.out.fit e (hp.mem_iff.1 he)⟩
          have HR4 := Lib.hid (fun w' b hu hr => show Calls Try.prog 18 #[jbV J, .slice (some ⟨b, 0, none⟩) 1 1] w' (GivesRE (rs, 0) w') from HMX.out B d ms hp ▸ HRUN.out ⟨B, d, ms⟩ n hlm (HMB.out B d ms hp) w' b hu hr)
          have HB4 := Lib.hid (below_next HB2.out hbe)
          have LJ4 := Lib.hid (LJ2.out.below hbe)
          have R4 := Lib.hid (R2.out.below hbe)
          have HRW4 := Lib.hid (row_new1 wb (.slice B n d))
          have HBR4 := Lib.hid (below_al (o := .cells #[.slice B n d] 24) (Below.refl wb.heap.size wb))
          clear hp hrow hbe hd1 hd2 hlm
          have x0 := LJ4.out.cell (j := 0) rfl; have x1 := LJ4.out.cell (j := 1) rfl; have x2 := LJ4.out.cell (j := 2) rfl; have x3 := LJ4.out.cell (j := 3) rfl; have x4 := LJ4.out.cell (j := 4) rfl; have x5 := LJ4.out.cell (j := 5) rfl; have x6 := LJ4.out.cell (j := 6) rfl; have x7 := LJ4.out.cell (j := 7) rfl
          go_wp2_with fail
          refine (HR4.out _ _ (HU4.out.below HBR4.out) HRW4.out).mono ?_
          rintro e w5 ⟨A5, c5, rfl, p1, p2, p3, hb5⟩
          have hb45 := below_next HBR4.out hb5
          have HB5 := Lib.hid (below_next HB4.out hb45)
          have R5 := Lib.hid (R4.out.below hb45)
          have P5 := Lib.hid p3
          clear hb5 hb45 p1 p2 p3 x0 x1 x2 x3 x4 x5 x6 x7
          go_wp2_with fail
          refine (HA.out _).mono ?_
          rintro e w6 ⟨rfl, hb6⟩
          have HB6 := Lib.hid (below_next HB5.out hb6)
          have R6 := Lib.hid (R5.out.below hb6)
          have P6 := Lib.hid (P5.out.below hb6)
          clear hb6
          go_wp2_with fail
          refine (HLR.out rs _ _ _ _ _ HRLL.out R6.out P6.out).mono ?_
          rintro e w7 ⟨rfl, hb7⟩
          have HB7 := Lib.hid (below_next HB6.out hb7)
          clear hb7
          go_wp2_with fail
          go_ret
          exact ⟨rfl, HB7.out⟩
      · have hc0 : chk J [s] ≠ 0 := by rw [← HZ.out]; exact hz0
        have hbs : insOk [s] = true → (keptAll J ([s].map (·.l))).length ≤ 120 := fun hi => by
          have h1 := HFE.out (insOk_one hi).1
          have h2 := keptAll_len J [s] 30 (fun x hx => by simp only [List.mem_singleton] at hx; subst hx; exact h1)
          simp only [List.length_singleton] at h2
          omega
        have HRS := Lib.hid (fun w' b hu hr => show Calls Try.prog 18 #[jbV J, .slice (some ⟨b, 0, none⟩) 1 1] w' (GivesRE ([], z) w') from HZ.out ▸ runOut_not (j := J) (ls := [s]) hc0 ▸ HRUN.out s n HN.out hbs w' b hu hr)
        have HK := Lib.hid (fun w' hb => show Calls Try.prog 10 #[jbV J, .slice s.A n s.c] w' (GivesE ([], z) w') from HZ.out ▸ keptOut_not (j := J) (s := s) hc0 ▸ HO.out.kept w' hb)
        have g1 : (z == 0) = false := ne_b hz0
        have g2 := nb hz0
        have g3 : (z == z) = true := eq_b rfl
        have g4 : (z != z) = false := nb0 rfl
        have HRW := Lib.hid (row_new1 w0 (.slice s.A n s.c))
        have HBR := Lib.hid (below_al (o := .cells #[.slice s.A n s.c] 24) (Below.refl w0.heap.size w0))
        clear hc0 hbs HZ HO HFE
        go_wp2_with fail
        refine (HRS.out _ _ (HOK.out.below (below_next HB0.out HBR.out)) HRW.out).mono ?_
        rintro e w1 ⟨A1, c1, rfl, l1, l2, r1, hb1⟩
        have hb01 := below_next HBR.out hb1
        have HB1 := Lib.hid (below_next HB0.out hb01)
        have LJ1 := Lib.hid (LJ.out.below hb01)
        clear hb1 r1 l1 l2 hb01 x0 x1 x2 x3 x4 x5 x6 x7
        have x0 := LJ1.out.cell (j := 0) rfl; have x1 := LJ1.out.cell (j := 1) rfl; have x2 := LJ1.out.cell (j := 2) rfl; have x3 := LJ1.out.cell (j := 3) rfl; have x4 := LJ1.out.cell (j := 4) rfl; have x5 := LJ1.out.cell (j := 5) rfl; have x6 := LJ1.out.cell (j := 6) rfl; have x7 := LJ1.out.cell (j := 7) rfl
        go_wp2_with fail
        refine (HK.out _ HB1.out).mono ?_
        rintro e w2 ⟨A2, c2, rfl, m1, m2, r2, hb2⟩
        have HB2 := Lib.hid (below_next HB1.out hb2)
        clear hb2 r2 m1 m2 x0 x1 x2 x3 x4 x5 x6 x7
        go_wp2_with fail
        refine (HA.out _).mono ?_
        rintro e w3 ⟨rfl, hb3⟩
        have HB3 := Lib.hid (below_next HB2.out hb3)
        clear hb3
        go_wp2_with fail
        go_ret
        exact ⟨rfl, HB3.out⟩
  · have e1 : (30 : Int) < (t.l.length : Int) := by omega
    have e2 : ¬ (t.l.length : Int) ≤ 200 := by omega
    have hnn : n = t.l.length := h3
    have HNN := Lib.hid hnn
    clear h1 h2 hnn hsome hfewt h3
    go_enter Try.func6, Try.ntmps6
    go_upto_if 24 with fail
    go_cut [1] from 25 (fun v wc => v = .slice s.A n s.c ∧ wc = w.alloc (.cells (jbC j) 23))
    case first =>
      go_wp2_with fail
      go_meet
      case rel => exact ⟨by rw [HSA.out, HSC.out, HNN.out], rfl⟩
    case rest =>
      obtain ⟨rfl, rfl⟩ := hcut
      clear e1 e2 HSA HSC HNN
      go_upto_region 4 with fail
      rw [HJC.out]
      obtain ⟨w0, hw0⟩ : ∃ w0, w0 = w.alloc (.cells (jbC J) 23) := ⟨_, rfl⟩
      rw [← hw0] at LJ HB0 ⊢
      clear hw0
      have x0 := LJ.out.cell (j := 0) rfl; have x1 := LJ.out.cell (j := 1) rfl; have x2 := LJ.out.cell (j := 2) rfl; have x3 := LJ.out.cell (j := 3) rfl; have x4 := LJ.out.cell (j := 4) rfl; have x5 := LJ.out.cell (j := 5) rfl; have x6 := LJ.out.cell (j := 6) rfl; have x7 := LJ.out.cell (j := 7) rfl
      by_cases hz0 : z = 0
      · have hc0 : chk J [s] = 0 := by rw [← HZ.out]; exact hz0
        have hn30 : n ≤ 30 := by rw [HN.out]; exact HFE.out (insOk_one (chk_ok hc0).2).1
        have hmx := fun (B : Option Addr) (e : Nat) (ms : List Ev) (hp : ms.Perm s.l) => mixed_run (j := J) HJD.out (s := s) (t := ⟨B, e, ms⟩) hc0 hp (by rw [← HN.out]; exact hn30)
        have hms := mixed_run (j := J) HJD.out (s := s) (t := s) hc0 (List.Perm.refl _) (by rw [← HN.out]; exact hn30)
        obtain ⟨_, ho2, hkl, _, hbs, hrl⟩ := hms
        obtain ⟨ro, hro⟩ : ∃ ro, ro = runOut J [s] := ⟨_, rfl⟩
        rw [← hro] at ho2 hrl
        have HMX := Lib.hid (fun B e ms hp => (hmx B e ms hp).1.trans hro.symm)
        have HMB := Lib.hid (fun B e ms hp => (hmx B e ms hp).2.2.2.1)
        obtain ⟨rs, re⟩ := ro
        simp only at ho2 hrl
        subst ho2
        have HRS := Lib.hid (fun w' b hu hr => show Calls Try.prog 18 #[jbV J, .slice (some ⟨b, 0, none⟩) 1 1] w' (GivesRE (rs, 0) w') from hro ▸ HRUN.out s n HN.out hbs w' b hu hr)
        have HK := Lib.hid (fun w' hb => show Calls Try.prog 10 #[jbV J, .slice s.A n s.c] w' (GivesE (kept J 0 s.l, 0) w') from keptOut_ok (j := J) hc0 ▸ HO.out.kept w' hb)
        have HKL : Hid ((kept J 0 s.l).length = n) := Lib.hid (by rw [hkl, HN.out])
        have HRLL := Lib.hid hrl
        have hnn : ((n : Int) == (n : Int)) = true := eq_b rfl
        have HRW := Lib.hid (row_new1 w0 (.slice s.A n s.c))
        have HBR := Lib.hid (below_al (o := .cells #[.slice s.A n s.c] 24) (Below.refl w0.heap.size w0))
        clear hz0 hc0 hmx hkl hbs hrl hro HZ HO HFE
        go_wp2_with fail
        refine (HRS.out _ _ (HOK.out.below (below_next HB0.out HBR.out)) HRW.out).mono ?_
        rintro e w1 ⟨A1, c1, rfl, l1, l2, r1, hb1⟩
        have hb01 := below_next HBR.out hb1
        have HB1 := Lib.hid (below_next HB0.out hb01)
        have LJ1 := Lib.hid (LJ.out.below hb01)
        have R1 := Lib.hid r1
        clear hb1 r1 l1 l2 hb01 x0 x1 x2 x3 x4 x5 x6 x7
        have x0 := LJ1.out.cell (j := 0) rfl; have x1 := LJ1.out.cell (j := 1) rfl; have x2 := LJ1.out.cell (j := 2) rfl; have x3 := LJ1.out.cell (j := 3) rfl; have x4 := LJ1.out.cell (j := 4) rfl; have x5 := LJ1.out.cell (j := 5) rfl; have x6 := LJ1.out.cell (j := 6) rfl; have x7 := LJ1.out.cell (j := 7) rfl
        go_wp2_with fail
        refine (HK.out _ HB1.out).mono ?_
        rintro e w2 ⟨A2, c2, rfl, m1, m2, r2, hb2⟩
        simp only
        rw [HKL.out]
        have HB2 := Lib.hid (below_next HB1.out hb2)
        have LJ2 := Lib.hid (LJ1.out.below hb2)
        have R2 := Lib.hid (R1.out.below hb2)
        have HU := Lib.hid (HOK.out.below HB2.out)
        have HSC := Lib.hid (HSW.out.below HB2.out)
        clear hb2 r2 m1 m2 x0 x1 x2 x3 x4 x5 x6 x7
        go_wp2_with (at_builtin; refine hold_mk ?_)
        refine hold_out ?_
        refine wpApp rfl _ _ _ rfl w2.heap.size 45 i0 _ 3 32 Try.underlying24 HI0.out HZ0.out HZ1.out HZ2.out rfl (by omega) _ 0 [] rfl (own_new (Nat.le_refl _)) s.A n s.c (ec s.l) rfl (HU.out.row.below (below_al (Below.refl _ _))) (by rw [ec_len, HN.out]) (ec_ones s.l) (by unfold maxLen; omega) (by omega) (by simp) ?_
        intro v1 w3 hown1 hb3
        rw [Nat.zero_add, List.nil_append] at hown1
        have B3 := Lib.hid ((below_al (o := .cells #[] 45) (Below.refl w2.heap.size w2)).trans hb3)
        have HOW := Lib.hid hown1
        clear hown1 hb3
        go_upto_block 0 with fail
        go_cut [11, 12, 13, 14] from 68 (fun s7 s8 s9 s10 wx => ∃ B e ms, s7 = .slice B n e ∧ ms.Perm s.l ∧ Row wx B (ec ms) ∧ Below w2.heap.size w2 wx ∧ n ≤ e ∧ e ≤ maxLen)
        case first =>
          rcases HOW.out.2 with ⟨rfl, h0⟩ | ⟨g, cap, cur, rfl, hg, hh, hn, hm, hcur, hx⟩
          · have hyn : s.l = [] := List.eq_nil_of_length_eq_zero (by have := HN.out; omega)
            have HYN := Lib.hid hyn
            subst h0
            clear HOW hyn
            go_wp2_with fail
            go_loop [68] (fun i => i = .int .i64 (0 : Nat)) (fun _ => 0)
            case atStart => rfl
            case round =>
              obtain rfl := hrel
              by_cases hlt : 0 < ss.length
              · obtain ⟨x, b, off, rfl, hx, hc2⟩ := (HSC.out.below B3.out).ints hlt
                rw [Nat.add_zero] at hc2
                clear hx
                go_wp2_with fail
                go_meet
                case rel => exact ⟨none, 0, [], rfl, by rw [HYN.out], Row.nil, B3.out, Nat.le_refl _, by simp [maxLen]⟩
              · go_wp2_with fail
                go_meet
                case rel => exact ⟨none, 0, [], rfl, by rw [HYN.out], Row.nil, B3.out, Nat.le_refl _, by simp [maxLen]⟩
          · have T1 := Lib.hid (show MixedE w2 s.l n g cap w3 from ⟨⟨s.l, List.Perm.refl _, HOW.out⟩, B3.out⟩)
            have HG := Lib.hid hg
            clear hh hn hm hcur hx hg B3 HOW
            go_wp2_with fail
            go_loopw [68] (fun i wr => (∃ j : Nat, i = .int .i64 j ∧ j ≤ ss.length) ∧ MixedE w2 s.l n g cap wr) (fun i _ => ss.length - (intOf i).toNat)
            case atStart => exact ⟨⟨0, rfl, Nat.zero_le _⟩, T1.out⟩
            case round =>
              obtain ⟨⟨i, rfl, hj⟩, ⟨ms, hp, hown⟩, hbw⟩ := hrel
              have hml : ms.length = n := hp.length_eq.trans HN.out.symm
              have HP := Lib.hid hp
              have HOO := Lib.hid hown
              have BB := Lib.hid hbw
              have HM := Lib.hid (show Row wr (some ⟨g, 0, none⟩) (ec ms) ∧ n ≤ cap ∧ cap ≤ maxLen from by
                obtain ⟨A', c', he, k1, k2, _, hr', _⟩ := own_form hown (by omega)
                cases he
                exact ⟨hr', k1, k2⟩)
              clear hp hown hbw T1
              by_cases hlt : i < ss.length
              · obtain ⟨x, b, off, rfl, hx, hc2⟩ := (HSC.out.below BB.out).ints hlt
                clear hx
                by_cases hn : i + 1 < n
                · obtain ⟨q, hq⟩ : ∃ q, x.tmod ((n : Int) - i) = q := ⟨_, rfl⟩
                  have q1 : -((n : Int) - i) < q := hq ▸ tmod_loM (by omega)
                  have q2 : q < (n : Int) - i := hq ▸ Int.tmod_lt_of_pos _ (by omega)
                  obtain ⟨r, hr⟩ : ∃ r, (q + n - i).tmod ((n : Int) - i) = r := ⟨_, rfl⟩
                  have r1 : 0 ≤ r := hr ▸ Int.tmod_nonneg _ (by omega)
                  have r2 : r < (n : Int) - i := hr ▸ Int.tmod_lt_of_pos _ (by omega)
                  have hr3 : (q + n - i) % ((n : Int) - i) = r := by rw [← Int.tmod_eq_emod_of_nonneg (by omega)]; exact hr
                  obtain ⟨kk, hk⟩ : ∃ kk : Nat, (i : Int) + r = kk := ⟨((i : Int) + r).toNat, by omega⟩
                  have k1 : i ≤ kk := by omega
                  have k2 : kk < n := by omega
                  obtain ⟨u, hu⟩ : ∃ u, ms[i]? = some u := ⟨_, List.getElem?_eq_getElem (by omega)⟩
                  obtain ⟨v, hv⟩ : ∃ v, ms[kk]? = some v := ⟨_, List.getElem?_eq_getElem (by omega)⟩
                  obtain ⟨⟨a0, a1, a2⟩, a4, a5, a6⟩ := own_cellE HOO.out hu
                  obtain ⟨⟨b0, b1, b2⟩, b4, b5, b6⟩ := own_cellE HOO.out hv
                  have HUU := Lib.hid hu
                  have HVV := Lib.hid hv
                  clear hu hv hml
                  by_cases hjk : i = kk
                  · subst hjk
                    go_wp2_with fail
                    go_region
                    have T2 := Lib.hid (MixedE.swap HG.out HP.out HOO.out BB.out HUU.out HUU.out)
                    clear a0 a1 a2 a4 a5 a6 b0 b1 b2 b4 b5 b6 hq hr hr3 hk
                    go_wp2
                    go_roundw
                    case rel => exact ⟨⟨i + 1, by go_num, by omega⟩, T2.out⟩
                    case measure => simp [intOf]; omega
                  · have hij : i < kk := by omega
                    clear hjk
                    go_wp2_with fail
                    go_region
                    have T2 := Lib.hid (MixedE.swap HG.out HP.out HOO.out BB.out HUU.out HVV.out)
                    clear a0 a1 a2 a4 a5 a6 b0 b1 b2 b4 b5 b6 hq hr hr3 hk
                    go_wp2
                    go_roundw
                    case rel => exact ⟨⟨i + 1, by go_num, by omega⟩, T2.out⟩
                    case measure => simp [intOf]; omega
                · have hge : n ≤ i + 1 := by omega
                  go_wp2_with fail
                  go_meet
                  case rel => exact ⟨_, _, ms, rfl, HP.out, HM.out.1, BB.out, HM.out.2⟩
              · have hge : ss.length ≤ i := by omega
                clear hlt
                go_wp2_with fail
                go_meet
                case rel => exact ⟨_, _, ms, rfl, HP.out, HM.out.1, BB.out, HM.out.2⟩
        case rest =>
          obtain ⟨B, d, ms, rfl, hp, hrow, hbe, hd1, hd2⟩ := hcut
          obtain ⟨wb, hwb⟩ : ∃ wb, wb = wc := ⟨_, rfl⟩
          subst hwb
          have hlm : n = ms.length := by rw [hp.length_eq]; exact HN.out
          have HU4 : Hid (SrOk wb ⟨B, d, ms⟩) := Lib.hid ⟨hrow, by rw [← hlm]; exact hd1, hd2, fun e he => HOK.out.fit e (hp.mem_iff.1 he)⟩
          have HR4 := Lib.hid (fun w' b hu hr => show Calls Try.prog 18 #[jbV J, .slice (some ⟨b, 0, none⟩) 1 1] w' (GivesRE (rs, 0) w') from HMX.out B d ms hp ▸ HRUN.out ⟨B, d, ms⟩ n hlm (HMB.out B d ms hp) w' b hu hr)
          have HB4 := Lib.hid (below_next HB2.out hbe)
          have LJ4 := Lib.hid (LJ2.out.below hbe)
          have R4 := Lib.hid (R2.out.below hbe)
          have HRW4 := Lib.hid (row_new1 wb (.slice B n d))
          have HBR4 := Lib.hid (below_al (o := .cells #[.slice B n d] 24) (Below.refl wb.heap.size wb))
          clear hp hrow hbe hd1 hd2 hlm
          have x0 := LJ4.out.cell (j := 0) rfl; have x1 := LJ4.out.cell (j := 1) rfl; have x2 := LJ4.out.cell (j := 2) rfl; have x3 := LJ4.out.cell (j := 3) rfl; have x4 := LJ4.out.cell (j := 4) rfl; have x5 := LJ4.out.cell (j := 5) rfl; have x6 := LJ4.out.cell (j := 6) rfl; have x7 := LJ4.out.cell (j := 7) rfl
          go_wp2_with fail
          refine (HR4.out _ _ (HU4.out.below HBR4.out) HRW4.out).mono ?_
          rintro e w5 ⟨A5, c5, rfl, p1, p2, p3, hb5⟩
          have hb45 := below_next HBR4.out hb5
          have HB5 := Lib.hid (below_next HB4.out hb45)
          have R5 := Lib.hid (R4.out.below hb45)
          have P5 := Lib.hid p3
          clear hb5 hb45 p1 p2 p3 x0 x1 x2 x3 x4 x5 x6 x7
          go_wp2_with fail
          refine (HA.out _).mono ?_
          rintro e w6 ⟨rfl, hb6⟩
          have HB6 := Lib.hid (below_next HB5.out hb6)
          have R6 := Lib.hid (R5.out.below hb6)
          have P6 := Lib.hid (P5.out.below hb6)
          clear hb6
          go_wp2_with fail
          refine (HLR.out rs _ _ _ _ _ HRLL.out R6.out P6.out).mono ?_
          rintro e w7 ⟨rfl, hb7⟩
          have HB7 := Lib.hid (below_next HB6.out hb7)
          clear hb7
          go_wp2_with fail
          go_ret
          exact ⟨rfl, HB7.out⟩
      · have hc0 : chk J [s] ≠ 0 := by rw [← HZ.out]; exact hz0
        have hbs : insOk [s] = true → (keptAll J ([s].map (·.l))).length ≤ 120 := fun hi => by
          have h1 := HFE.out (insOk_one hi).1
          have h2 := keptAll_len J [s] 30 (fun x hx => by simp only [List.mem_singleton] at hx; subst hx; exact h1)
          simp only [List.length_singleton] at h2
          omega
        have HRS := Lib.hid (fun w' b hu hr => show Calls Try.prog 18 #[jbV J, .slice (some ⟨b, 0, none⟩) 1 1] w' (GivesRE ([], z) w') from HZ.out ▸ runOut_not (j := J) (ls := [s]) hc0 ▸ HRUN.out s n HN.out hbs w' b hu hr)
        have HK := Lib.hid (fun w' hb => show Calls Try.prog 10 #[jbV J, .slice s.A n s.c] w' (GivesE ([], z) w') from HZ.out ▸ keptOut_not (j := J) (s := s) hc0 ▸ HO.out.kept w' hb)
        have g1 : (z == 0) = false := ne_b hz0
        have g2 := nb hz0
        have g3 : (z == z) = true := eq_b rfl
        have g4 : (z != z) = false := nb0 rfl
        have HRW := Lib.hid (row_new1 w0 (.slice s.A n s.c))
        have HBR := Lib.hid (below_al (o := .cells #[.slice s.A n s.c] 24) (Below.refl w0.heap.size w0))
        clear hc0 hbs HZ HO HFE
        go_wp2_with fail
        refine (HRS.out _ _ (HOK.out.below (below_next HB0.out HBR.out)) HRW.out).mono ?_
        rintro e w1 ⟨A1, c1, rfl, l1, l2, r1, hb1⟩
        have hb01 := below_next HBR.out hb1
        have HB1 := Lib.hid (below_next HB0.out hb01)
        have LJ1 := Lib.hid (LJ.out.below hb01)
        clear hb1 r1 l1 l2 hb01 x0 x1 x2 x3 x4 x5 x6 x7
        have x0 := LJ1.out.cell (j := 0) rfl; have x1 := LJ1.out.cell (j := 1) rfl; have x2 := LJ1.out.cell (j := 2) rfl; have x3 := LJ1.out.cell (j := 3) rfl; have x4 := LJ1.out.cell (j := 4) rfl; have x5 := LJ1.out.cell (j := 5) rfl; have x6 := LJ1.out.cell (j := 6) rfl; have x7 := LJ1.out.cell (j := 7) rfl
        go_wp2_with fail
        refine (HK.out _ HB1.out).mono ?_
        rintro e w2 ⟨A2, c2, rfl, m1, m2, r2, hb2⟩
        have HB2 := Lib.hid (below_next HB1.out hb2)
        clear hb2 r2 m1 m2 x0 x1 x2 x3 x4 x5 x6 x7
        go_wp2_with fail
        refine (HA.out _).mono ?_
        rintro e w3 ⟨rfl, hb3⟩
        have HB3 := Lib.hid (below_next HB2.out hb3)
        clear hb3
        go_wp2_with fail
        go_ret
        exact ⟨rfl, HB3.out⟩
  · have e1 : (30 : Int) < (t.l.length : Int) := by omega
    have e2 : (t.l.length : Int) ≤ 200 := by omega
    have e3 : (30 : Int) ≤ t.c := by omega
    have hnn : n = 30 := h3
    obtain ⟨b0, off0, hA0⟩ := hsome h1
    have HNN := Lib.hid hnn
    obtain ⟨tA, tc, tl⟩ := t
    simp only at hA0 e1 e2 e3 HSA HSC ⊢
    subst hA0
    clear h1 h2 hnn hsome hfewt h3
    go_enter Try.func6, Try.ntmps6
    go_upto_if 24 with fail
    go_cut [1] from 25 (fun v wc => v = .slice s.A n s.c ∧ wc = w.alloc (.cells (jbC j) 23))
    case first =>
      go_wp2_with fail
      go_meet
      case rel => exact ⟨by rw [HSA.out, HSC.out, HNN.out], rfl⟩
    case rest =>
      obtain ⟨rfl, rfl⟩ := hcut
      clear e1 e2 e3 HSA HSC HNN
      go_upto_region 4 with fail
      rw [HJC.out]
      obtain ⟨w0, hw0⟩ : ∃ w0, w0 = w.alloc (.cells (jbC J) 23) := ⟨_, rfl⟩
      rw [← hw0] at LJ HB0 ⊢
      clear hw0
      have x0 := LJ.out.cell (j := 0) rfl; have x1 := LJ.out.cell (j := 1) rfl; have x2 := LJ.out.cell (j := 2) rfl; have x3 := LJ.out.cell (j := 3) rfl; have x4 := LJ.out.cell (j := 4) rfl; have x5 := LJ.out.cell (j := 5) rfl; have x6 := LJ.out.cell (j := 6) rfl; have x7 := LJ.out.cell (j := 7) rfl
      by_cases hz0 : z = 0
      · have hc0 : chk J [s] = 0 := by rw [← HZ.out]; exact hz0
        have hn30 : n ≤ 30 := by rw [HN.out]; exact HFE.out (insOk_one (chk_ok hc0).2).1
        have hmx := fun (B : Option Addr) (e : Nat) (ms : List Ev) (hp : ms.Perm s.l) => mixed_run (j := J) HJD.out (s := s) (t := ⟨B, e, ms⟩) hc0 hp (by rw [← HN.out]; exact hn30)
        have hms := mixed_run (j := J) HJD.out (s := s) (t := s) hc0 (List.Perm.refl _) (by rw [← HN.out]; exact hn30)
        obtain ⟨_, ho2, hkl, _, hbs, hrl⟩ := hms
        obtain ⟨ro, hro⟩ : ∃ ro, ro = runOut J [s] := ⟨_, rfl⟩
        rw [← hro] at ho2 hrl
        have HMX := Lib.hid (fun B e ms hp => (hmx B e ms hp).1.trans hro.symm)
        have HMB := Lib.hid (fun B e ms hp => (hmx B e ms hp).2.2.2.1)
        obtain ⟨rs, re⟩ := ro
        simp only at ho2 hrl
        subst ho2
        have HRS := Lib.hid (fun w' b hu hr => show Calls Try.prog 18 #[jbV J, .slice (some ⟨b, 0, none⟩) 1 1] w' (GivesRE (rs, 0) w') from hro ▸ HRUN.out s n HN.out hbs w' b hu hr)
        have HK := Lib.hid (fun w' hb => show Calls Try.prog 10 #[jbV J, .slice s.A n s.c] w' (GivesE (kept J 0 s.l, 0) w') from keptOut_ok (j := J) hc0 ▸ HO.out.kept w' hb)
        have HKL : Hid ((kept J 0 s.l).length = n) := Lib.hid (by rw [hkl, HN.out])
        have HRLL := Lib.hid hrl
        have hnn : ((n : Int) == (n : Int)) = true := eq_b rfl
        have HRW := Lib.hid (row_new1 w0 (.slice s.A n s.c))
        have HBR := Lib.hid (below_al (o := .cells #[.slice s.A n s.c] 24) (Below.refl w0.heap.size w0))
        clear hz0 hc0 hmx hkl hbs hrl hro HZ HO HFE
        go_wp2_with fail
        refine (HRS.out _ _ (HOK.out.below (below_next HB0.out HBR.out)) HRW.out).mono ?_
        rintro e w1 ⟨A1, c1, rfl, l1, l2, r1, hb1⟩
        have hb01 := below_next HBR.out hb1
        have HB1 := Lib.hid (below_next HB0.out hb01)
        have LJ1 := Lib.hid (LJ.out.below hb01)
        have R1 := Lib.hid r1
        clear hb1 r1 l1 l2 hb01 x0 x1 x2 x3 x4 x5 x6 x7
        have x0 := LJ1.out.cell (j := 0) rfl; have x1 := LJ1.out.cell (j := 1) rfl; have x2 := LJ1.out.cell (j := 2) rfl; have x3 := LJ1.out.cell (j := 3) rfl; have x4 := LJ1.out.cell (j := 4) rfl; have x5 := LJ1.out.cell (j := 5) rfl; have x6 := LJ1.out.cell (j := 6) rfl; have x7 := LJ1.out.cell (j := 7) rfl
        go_wp2_with fail
        refine (HK.out _ HB1.out).mono ?_
        rintro e w2 ⟨A2, c2, rfl, m1, m2, r2, hb2⟩
        simp only
        rw [HKL.out]
        have HB2 := Lib.hid (below_next HB1.out hb2)
        have LJ2 := Lib.hid (LJ1.out.below hb2)
        have R2 := Lib.hid (R1.out.below hb2)
        have HU := Lib.hid (HOK.out.below HB2.out)
        have HSC := Lib.hid (HSW.out.below HB2.out)
        clear hb2 r2 m1 m2 x0 x1 x2 x3 x4 x5 x6 x7
        go_wp2_with (at_builtin; refine hold_mk ?_)
        refine hold_out ?_
        refine wpApp rfl _ _ _ rfl w2.heap.size 45 i0 _ 3 32 Try.underlying24 HI0.out HZ0.out HZ1.out HZ2.out rfl (by omega) _ 0 [] rfl (own_new (Nat.le_refl _)) s.A n s.c (ec s.l) rfl (HU.out.row.below (below_al (Below.refl _ _))) (by rw [ec_len, HN.out]) (ec_ones s.l) (by unfold maxLen; omega) (by omega) (by simp) ?_
        intro v1 w3 hown1 hb3
        rw [Nat.zero_add, List.nil_append] at hown1
        have B3 := Lib.hid ((below_al (o := .cells #[] 45) (Below.refl w2.heap.size w2)).trans hb3)
        have HOW := Lib.hid hown1
        clear hown1 hb3
        go_upto_block 0 with fail
        go_cut [11, 12, 13, 14] from 68 (fun s7 s8 s9 s10 wx => ∃ B e ms, s7 = .slice B n e ∧ ms.Perm s.l ∧ Row wx B (ec ms) ∧ Below w2.heap.size w2 wx ∧ n ≤ e ∧ e ≤ maxLen)
        case first =>
          rcases HOW.out.2 with ⟨rfl, h0⟩ | ⟨g, cap, cur, rfl, hg, hh, hn, hm, hcur, hx⟩
          · have hyn : s.l = [] := List.eq_nil_of_length_eq_zero (by have := HN.out; omega)
            have HYN := Lib.hid hyn
            subst h0
            clear HOW hyn
            go_wp2_with fail
            go_loop [68] (fun i => i = .int .i64 (0 : Nat)) (fun _ => 0)
            case atStart => rfl
            case round =>
              obtain rfl := hrel
              by_cases hlt : 0 < ss.length
              · obtain ⟨x, b, off, rfl, hx, hc2⟩ := (HSC.out.below B3.out).ints hlt
                rw [Nat.add_zero] at hc2
                clear hx
                go_wp2_with fail
                go_meet
                case rel => exact ⟨none, 0, [], rfl, by rw [HYN.out], Row.nil, B3.out, Nat.le_refl _, by simp [maxLen]⟩
              · go_wp2_with fail
                go_meet
                case rel => exact ⟨none, 0, [], rfl, by rw [HYN.out], Row.nil, B3.out, Nat.le_refl _, by simp [maxLen]⟩
          · have T1 := Lib.hid (show MixedE w2 s.l n g cap w3 from ⟨⟨s.l, List.Perm.refl _, HOW.out⟩, B3.out⟩)
            have HG := Lib.hid hg
            clear hh hn hm hcur hx hg B3 HOW
            go_wp2_with fail
            go_loopw [68] (fun i wr => (∃ j : Nat, i = .int .i64 j ∧ j ≤ ss.length) ∧ MixedE w2 s.l n g cap wr) (fun i _ => ss.length - (intOf i).toNat)
            case atStart => exact ⟨⟨0, rfl, Nat.zero_le _⟩, T1.out⟩
            case round =>
              obtain ⟨⟨i, rfl, hj⟩, ⟨ms, hp, hown⟩, hbw⟩ := hrel
              have hml : ms.length = n := hp.length_eq.trans HN.out.symm
              have HP := Lib.hid hp
              have HOO := Lib.hid hown
              have BB := Lib.hid hbw
              have HM := Lib.hid (show Row wr (some ⟨g, 0, none⟩) (ec ms) ∧ n ≤ cap ∧ cap ≤ maxLen from by
                obtain ⟨A', c', he, k1, k2, _, hr', _⟩ := own_form hown (by omega)
                cases he
                exact ⟨hr', k1, k2⟩)
              clear hp hown hbw T1
              by_cases hlt : i < ss.length
              · obtain ⟨x, b, off, rfl, hx, hc2⟩ := (HSC.out.below BB.out).ints hlt
                clear hx
                by_cases hn : i + 1 < n
                · obtain ⟨q, hq⟩ : ∃ q, x.tmod ((n : Int) - i) = q := ⟨_, rfl⟩
                  have q1 : -((n : Int) - i) < q := hq ▸ tmod_loM (by omega)
                  have q2 : q < (n : Int) - i := hq ▸ Int.tmod_lt_of_pos _ (by omega)
                  obtain ⟨r, hr⟩ : ∃ r, (q + n - i).tmod ((n : Int) - i) = r := ⟨_, rfl⟩
                  have r1 : 0 ≤ r := hr ▸ Int.tmod_nonneg _ (by omega)
                  have r2 : r < (n : Int) - i := hr ▸ Int.tmod_lt_of_pos _ (by omega)
                  have hr3 : (q + n - i) % ((n : Int) - i) = r := by rw [← Int.tmod_eq_emod_of_nonneg (by omega)]; exact hr
                  obtain ⟨kk, hk⟩ : ∃ kk : Nat, (i : Int) + r = kk := ⟨((i : Int) + r).toNat, by omega⟩
                  have k1 : i ≤ kk := by omega
                  have k2 : kk < n := by omega
                  obtain ⟨u, hu⟩ : ∃ u, ms[i]? = some u := ⟨_, List.getElem?_eq_getElem (by omega)⟩
                  obtain ⟨v, hv⟩ : ∃ v, ms[kk]? = some v := ⟨_, List.getElem?_eq_getElem (by omega)⟩
                  obtain ⟨⟨a0, a1, a2⟩, a4, a5, a6⟩ := own_cellE HOO.out hu
                  obtain ⟨⟨b0, b1, b2⟩, b4, b5, b6⟩ := own_cellE HOO.out hv
                  have HUU := Lib.hid hu
                  have HVV := Lib.hid hv
                  clear hu hv hml
                  by_cases hjk : i = kk
                  · subst hjk
                    go_wp2_with fail
                    go_region
                    have T2 := Lib.hid (MixedE.swap HG.out HP.out HOO.out BB.out HUU.out HUU.out)
                    clear a0 a1 a2 a4 a5 a6 b0 b1 b2 b4 b5 b6 hq hr hr3 hk
                    go_wp2
                    go_roundw
                    case rel => exact ⟨⟨i + 1, by go_num, by omega⟩, T2.out⟩
                    case measure => simp [intOf]; omega
                  · have hij : i < kk := by omega
                    clear hjk
                    go_wp2_with fail
                    go_region
                    have T2 := Lib.hid (MixedE.swap HG.out HP.out HOO.out BB.out HUU.out HVV.out)
                    clear a0 a1 a2 a4 a5 a6 b0 b1 b2 b4 b5 b6 hq hr hr3 hk
                    go_wp2
                    go_roundw
                    case rel => exact ⟨⟨i + 1, by go_num, by omega⟩, T2.out⟩
                    case measure => simp [intOf]; omega
                · have hge : n ≤ i + 1 := by omega
                  go_wp2_with fail
                  go_meet
                  case rel => exact ⟨_, _, ms, rfl, HP.out, HM.out.1, BB.out, HM.out.2⟩
              · have hge : ss.length ≤ i := by omega
                clear hlt
                go_wp2_with fail
                go_meet
                case rel => exact ⟨_, _, ms, rfl, HP.out, HM.out.1, BB.out, HM.out.2⟩
        case rest =>
          obtain ⟨B, d, ms, rfl, hp, hrow, hbe, hd1, hd2⟩ := hcut
          obtain ⟨wb, hwb⟩ : ∃ wb, wb = wc := ⟨_, rfl⟩
          subst hwb
          have hlm : n = ms.length := by rw [hp.length_eq]; exact HN.out
          have HU4 : Hid (SrOk wb ⟨B, d, ms⟩) := Lib.hid ⟨hrow, by rw [← hlm]; exact hd1, hd2, fun e he => HOK.out.fit e (hp.mem_iff.1 he)⟩
          have HR4 := Lib.hid (fun w' b hu hr => show Calls Try.prog 18 #[jbV J, .slice (some ⟨b, 0, none⟩) 1 1] w' (GivesRE (rs, 0) w') from HMX.out B d ms hp ▸ HRUN.out ⟨B, d, ms⟩ n hlm (HMB.out B d ms hp) w' b hu hr)
          have HB4 := Lib.hid (below_next HB2.out hbe)
          have LJ4 := Lib.hid (LJ2.out.below hbe)
          have R4 := Lib.hid (R2.out.below hbe)
          have HRW4 := Lib.hid (row_new1 wb (.slice B n d))
          have HBR4 := Lib.hid (below_al (o := .cells #[.slice B n d] 24) (Below.refl wb.heap.size wb))
          clear hp hrow hbe hd1 hd2 hlm
          have x0 := LJ4.out.cell (j := 0) rfl; have x1 := LJ4.out.cell (j := 1) rfl; have x2 := LJ4.out.cell (j := 2) rfl; have x3 := LJ4.out.cell (j := 3) rfl; have x4 := LJ4.out.cell (j := 4) rfl; have x5 := LJ4.out.cell (j := 5) rfl; have x6 := LJ4.out.cell (j := 6) rfl; have x7 := LJ4.out.cell (j := 7) rfl
          go_wp2_with fail
          refine (HR4.out _ _ (HU4.out.below HBR4.out) HRW4.out).mono ?_
          rintro e w5 ⟨A5, c5, rfl, p1, p2, p3, hb5⟩
          have hb45 := below_next HBR4.out hb5
          have HB5 := Lib.hid (below_next HB4.out hb45)
          have R5 := Lib.hid (R4.out.below hb45)
          have P5 := Lib.hid p3
          clear hb5 hb45 p1 p2 p3 x0 x1 x2 x3 x4 x5 x6 x7
          go_wp2_with fail
          refine (HA.out _).mono ?_
          rintro e w6 ⟨rfl, hb6⟩
          have HB6 := Lib.hid (below_next HB5.out hb6)
          have R6 := Lib.hid (R5.out.below hb6)
          have P6 := Lib.hid (P5.out.below hb6)
          clear hb6
          go_wp2_with fail
          refine (HLR.out rs _ _ _ _ _ HRLL.out R6.out P6.out).mono ?_
          rintro e w7 ⟨rfl, hb7⟩
          have HB7 := Lib.hid (below_next HB6.out hb7)
          clear hb7
          go_wp2_with fail
          go_ret
          exact ⟨rfl, HB7.out⟩
      · have hc0 : chk J [s] ≠ 0 := by rw [← HZ.out]; exact hz0
        have hbs : insOk [s] = true → (keptAll J ([s].map (·.l))).length ≤ 120 := fun hi => by
          have h1 := HFE.out (insOk_one hi).1
          have h2 := keptAll_len J [s] 30 (fun x hx => by simp only [List.mem_singleton] at hx; subst hx; exact h1)
          simp only [List.length_singleton] at h2
          omega
        have HRS := Lib.hid (fun w' b hu hr => show Calls Try.prog 18 #[jbV J, .slice (some ⟨b, 0, none⟩) 1 1] w' (GivesRE ([], z) w') from HZ.out ▸ runOut_not (j := J) (ls := [s]) hc0 ▸ HRUN.out s n HN.out hbs w' b hu hr)
        have HK := Lib.hid (fun w' hb => show Calls Try.prog 10 #[jbV J, .slice s.A n s.c] w' (GivesE ([], z) w') from HZ.out ▸ keptOut_not (j := J) (s := s) hc0 ▸ HO.out.kept w' hb)
        have g1 : (z == 0) = false := ne_b hz0
        have g2 := nb hz0
        have g3 : (z == z) = true := eq_b rfl
        have g4 : (z != z) = false := nb0 rfl
        have HRW := Lib.hid (row_new1 w0 (.slice s.A n s.c))
        have HBR := Lib.hid (below_al (o := .cells #[.slice s.A n s.c] 24) (Below.refl w0.heap.size w0))
        clear hc0 hbs HZ HO HFE
        go_wp2_with fail
        refine (HRS.out _ _ (HOK.out.below (below_next HB0.out HBR.out)) HRW.out).mono ?_
        rintro e w1 ⟨A1, c1, rfl, l1, l2, r1, hb1⟩
        have hb01 := below_next HBR.out hb1
        have HB1 := Lib.hid (below_next HB0.out hb01)
        have LJ1 := Lib.hid (LJ.out.below hb01)
        clear hb1 r1 l1 l2 hb01 x0 x1 x2 x3 x4 x5 x6 x7
        have x0 := LJ1.out.cell (j := 0) rfl; have x1 := LJ1.out.cell (j := 1) rfl; have x2 := LJ1.out.cell (j := 2) rfl; have x3 := LJ1.out.cell (j := 3) rfl; have x4 := LJ1.out.cell (j := 4) rfl; have x5 := LJ1.out.cell (j := 5) rfl; have x6 := LJ1.out.cell (j := 6) rfl; have x7 := LJ1.out.cell (j := 7) rfl
        go_wp2_with fail
        refine (HK.out _ HB1.out).mono ?_
        rintro e w2 ⟨A2, c2, rfl, m1, m2, r2, hb2⟩
        have HB2 := Lib.hid (below_next HB1.out hb2)
        clear hb2 r2 m1 m2 x0 x1 x2 x3 x4 x5 x6 x7
        go_wp2_with fail
        refine (HA.out _).mono ?_
        rintro e w3 ⟨rfl, hb3⟩
        have HB3 := Lib.hid (below_next HB2.out hb3)
        clear hb3
        go_wp2_with fail
        go_ret
        exact ⟨rfl, HB3.out⟩
theorem lawModelOrder : Lift.Owes 6 [23, 24, 43] := by
  intro H enc W base args ds ps hval hA _ _
  obtain ⟨v0, v1, v2, d0, d1, d2, p0, p1, p2, rfl, rfl, rfl, h0, h1, h2⟩ := trodAll_three hA
  obtain ⟨j, rfl, hl⟩ := Jo.openJb (hval 0 _ v0 rfl rfl) h0
  obtain ⟨s, rfl, hs⟩ := openEvsM (hval 1 _ v1 rfl rfl) h1
  obtain ⟨A, c, zs, rfl, hz1, hz2, hz3, _⟩ := openInts Try.underlying43 Try.underlying3 (by kernel_rfl) (hval 2 _ v2 rfl rfl) h2
  exact walkModelOrder j hl s A zs c W hs hz3 (by unfold maxLen at hz2; omega)
end Mo
theorem lawModelOrder : Lift.Owes 6 [23, 24, 43] := Mo.lawModelOrder
end Go.Proofs.Ytipmphkmeiogoaa
