/- GroupTakeC, GroupFieldR, GroupNum, put together. -/
import Derived.Test.YthfbcfddfbipfaaZ30
import Derived.Test.YthfbcfddfbipfaaZ29
import Derived.Test.YthfbcfddfbipfaaZ17
import Derived.Test.YthfbcfddfbipfaaZ10
import Derived.Test.YthfbcfddfbipfaaZ13
import Derived.Test.YthfbcfddfbipfaaZ9
/- Take of the code. -/
namespace Go.Proofs.Ythfbcfddfbipfaa
open Go.RowKit
set_option linter.unusedVariables false
set_option maxRecDepth 8000
namespace Grp
open Pan (Pn Pl aOut)
theorem take_endC {w W : World} {o : Gp × Int × Int} {A : Option Addr} {c : Nat} {a0 b0 : Int} {v0 : Value} {act : Act} (ht : act.tmps.getD 6 undef = .pointer (some ⟨w.heap.size + 1 + 1 + 1, 0, none⟩)) (hs : act.tmps.getD 7 undef = .int .i64 o.2.1) (hc : act.tmps.getD 8 undef = .int .i64 o.2.2) (hd : act.defers = [])
    (hL : Lies (w.heap.size + 1 + 1 + 1) (gpC a0 b0 v0) 26 W) (h1 : o.1.ps.length ≤ c) (h2 : c ≤ maxLen) (h5 : Row W A (pc o.1.ps)) (hB : Below w.heap.size w W) :
    bodyPost Try.prog Try.f11 (GivesGN o w) .ret act (set3 W (w.heap.size + 1 + 1 + 1) o.1.no o.1.mark (.slice A o.1.ps.length c)) := by
  have hL' := Lies.set3 hL o.1.no o.1.mark (.slice A o.1.ps.length c)
  have c0 := hL'.cell (j := 0) rfl
  have c1 := hL'.cell (j := 1) rfl
  have c2 := hL'.cell (j := 2) rfl
  refine bodyPost_ret (v := .tuple #[gpV o.1.no o.1.mark (.slice A o.1.ps.length c), .int .i64 o.2.1, .int .i64 o.2.2]) ?_ hd ⟨A, c, rfl, h1, h2, row_set3 h5 hL (pc_big _) _ _ _, below_set3 hB (by omega) _ _ _⟩
  have ht2 : act.tmps[6]?.getD undef = .pointer (some ⟨w.heap.size + 1 + 1 + 1, 0, none⟩) := by simpa using ht
  have hs2 : act.tmps[7]?.getD undef = .int .i64 o.2.1 := by simpa using hs
  have hc2 : act.tmps[8]?.getD undef = .int .i64 o.2.2 := by simpa using hc
  generalize set3 W (w.heap.size + 1 + 1 + 1) o.1.no o.1.mark (.slice A o.1.ps.length c) = w9 at c0 c1 c2 ⊢
  generalize w.heap.size + 1 + 1 + 1 = R at ht2 c0 c1 c2
  simp [results, Try.results11, go_sem, ht2, hs2, hc2, c0, c1, c2]
set_option maxRecDepth 100000 in
set_option maxHeartbeats 2000000 in
theorem gpTake (j : Jb) (g : Gp) (e : Ev) (A : Option Addr) (c : Nat) (w : World) (hA : Row w A (pc g.ps)) (hl : g.ps.length ≤ c) (hc : c ≤ maxLen) :
    Calls Try.prog 11 #[jbV j, gpV g.no g.mark (.slice A g.ps.length c), Itm.evV (kS e.key) e.at_ e.val] w (GivesGN (takeR j g e) w) := by
  have hL : g.ps.length ≤ 9223372036854775807 := by unfold maxLen at hc; omega
  obtain ⟨no, mark, xs⟩ := g
  simp only at hA hl hL ⊢
  have HJ := Lib.hid (fun w' => gpJob j w')
  have HR := Lib.hid (fun w' (hb : Below w.heap.size w w') => gpRight ⟨no, mark, xs⟩ A c w' (hA.below hb) hL)
  have HE := Lib.hid (fun w' => itEvent (kS e.key) e.at_ e.val w')
  have HO := Lib.hid (fun w' => winOpen j.size j.slide e.at_ mark w')
  have T0 := Lib.hid (Four.start w j no mark (.slice A xs.length c) e)
  have HA := Lib.hid hA
  clear hA
  cases hj : jobOk j
  · have HT := Lib.hid (show takeR j ⟨no, mark, xs⟩ e = (none_, 0, 130) by simp [takeR, hj])
    go_enter Try.func11, Try.ntmps11
    go_wp2_with fail
    refine (HJ.out _).mono ?_
    rw [hj]
    rintro e1 w1 ⟨rfl, hb1⟩
    have T1 := Lib.hid (T0.out.next hb1)
    have r0 := T1.out.res.cell (j := 0) rfl; have r1 := T1.out.res.cell (j := 1) rfl; have r2 := T1.out.res.cell (j := 2) rfl
    have f0 := T1.out.res.free 0; have f1 := T1.out.res.free 1; have f2 := T1.out.res.free 2
    clear hb1 hj
    go_wp2_with fail
    rw [HT.out]
    exact take_endC (o := (none_, 0, 130)) rfl rfl rfl rfl T1.out.res (Nat.le_refl _) (by simp [maxLen]) Row.nil T1.out.below
  · cases hr : right ⟨no, mark, xs⟩
    · have HT := Lib.hid (show takeR j ⟨no, mark, xs⟩ e = (none_, 0, 1) by simp [takeR, hj, hr])
      go_enter Try.func11, Try.ntmps11
      go_wp2_with fail
      refine (HJ.out _).mono ?_
      rw [hj]
      rintro e1 w1 ⟨rfl, hb1⟩
      have T1 := Lib.hid (T0.out.next hb1)
      have g0 : w1.cell? ⟨w.heap.size + 1, 0, none⟩ = some (.int .i64 no) := T1.out.gp.cell (j := 0) rfl
      have g1 : w1.cell? ⟨w.heap.size + 1, 1, none⟩ = some (.int .i64 mark) := T1.out.gp.cell (j := 1) rfl
      have g2 : w1.cell? ⟨w.heap.size + 1, 2, none⟩ = some (.slice A xs.length c) := T1.out.gp.cell (j := 2) rfl
      clear hb1 hj
      go_wp2_with fail
      refine (HR.out _ T1.out.below).mono ?_
      rw [hr]
      rintro e2 w2 ⟨rfl, hb2⟩
      have T2 := Lib.hid (T1.out.next hb2)
      have r0 := T2.out.res.cell (j := 0) rfl; have r1 := T2.out.res.cell (j := 1) rfl; have r2 := T2.out.res.cell (j := 2) rfl
      have f0 := T2.out.res.free 0; have f1 := T2.out.res.free 1; have f2 := T2.out.res.free 2
      clear hb2 hr g0 g1 g2
      go_wp2_with fail
      rw [HT.out]
      exact take_endC (o := (none_, 0, 1)) rfl rfl rfl rfl T2.out.res (Nat.le_refl _) (by simp [maxLen]) Row.nil T2.out.below
    · have HEV := Lib.hid (evOk_eq e.key e.at_ e.val)
      cases he : evOk e
      · have HT := Lib.hid (show takeR j ⟨no, mark, xs⟩ e = (none_, 0, 1) by simp [takeR, hj, hr, he])
        have HE0 := Lib.hid (show Itm.okEv (kS e.key) e.at_ = false from HEV.out.trans he)
        go_enter Try.func11, Try.ntmps11
        go_wp2_with fail
        refine (HJ.out _).mono ?_
        rw [hj]
        rintro e1 w1 ⟨rfl, hb1⟩
        have T1 := Lib.hid (T0.out.next hb1)
        have g0 : w1.cell? ⟨w.heap.size + 1, 0, none⟩ = some (.int .i64 no) := T1.out.gp.cell (j := 0) rfl
        have g1 : w1.cell? ⟨w.heap.size + 1, 1, none⟩ = some (.int .i64 mark) := T1.out.gp.cell (j := 1) rfl
        have g2 : w1.cell? ⟨w.heap.size + 1, 2, none⟩ = some (.slice A xs.length c) := T1.out.gp.cell (j := 2) rfl
        clear hb1 hj
        go_wp2_with fail
        refine (HR.out _ T1.out.below).mono ?_
        rw [hr]
        rintro e2 w2 ⟨rfl, hb2⟩
        have T2 := Lib.hid (T1.out.next hb2)
        have d0 : w2.cell? ⟨w.heap.size + 1 + 1, 0, none⟩ = some (.string (kS e.key)) := T2.out.ev.cell (j := 0) rfl
        have d1 : w2.cell? ⟨w.heap.size + 1 + 1, 1, none⟩ = some (.int .i64 e.at_) := T2.out.ev.cell (j := 1) rfl
        have d2 : w2.cell? ⟨w.heap.size + 1 + 1, 2, none⟩ = some (.int .i64 e.val) := T2.out.ev.cell (j := 2) rfl
        clear hb2 hr g0 g1 g2 he
        go_wp2_with fail
        refine (HE.out _).mono ?_
        rw [HE0.out]
        rintro e3 w3 ⟨rfl, rfl⟩
        have T3 := Lib.hid (T2.out.next (below_al (o := .cells (Itm.evC (kS e.key) e.at_ e.val) 28) (Below.refl _ _)))
        obtain ⟨w3, hw3⟩ : ∃ w3, w3 = w2.alloc (.cells (Itm.evC (kS e.key) e.at_ e.val) 28) := ⟨_, rfl⟩
        rw [← hw3] at T3 ⊢
        clear hw3
        have r0 := T3.out.res.cell (j := 0) rfl; have r1 := T3.out.res.cell (j := 1) rfl; have r2 := T3.out.res.cell (j := 2) rfl
        have f0 := T3.out.res.free 0; have f1 := T3.out.res.free 1; have f2 := T3.out.res.free 2
        clear d0 d1 d2
        go_wp2_with fail
        rw [HT.out]
        exact take_endC (o := (none_, 0, 1)) rfl rfl rfl rfl T3.out.res (Nat.le_refl _) (by simp [maxLen]) Row.nil T3.out.below
      · have HE1 := Lib.hid (show Itm.okEv (kS e.key) e.at_ = true from HEV.out.trans he)
        obtain ⟨ws, hws⟩ : ∃ ws, ws = Win.open_ j.size j.slide e.at_ mark := ⟨_, rfl⟩
        obtain ⟨vs, hvs⟩ : ∃ vs, vs = cells j.size j.slide mark e := ⟨_, rfl⟩
        have hvw : vs = ws.map fun p => (⟨p.1, p.2, e.key⟩, e.val) := by rw [hvs, hws, Win.open_eq]; rfl
        have HWV := Lib.hid hvw
        have HWL := Lib.hid (show ws.length ≤ 16 from by have := cells_len j.size j.slide mark e; rw [← hvs, hvw, List.length_map] at this; exact this)
        have HT := Lib.hid (show takeR j ⟨no, mark, xs⟩ e = if (allE j.fold xs vs).2 = 0 then (⟨no, mark, (allE j.fold xs vs).1⟩, ((ws.length : Nat) : Int), 0) else (none_, 0, (allE j.fold xs vs).2) by rw [show ws.length = vs.length by rw [hvw, List.length_map], hvs]; unfold takeR; rw [hj, hr, he]; rfl)
        have h2000 : xs.length ≤ 100000 := by
          have := ((Pan.right_iff _).1 ((right_iff _).1 hr).2.1).1
          simp only at this
          omega
        have HCL := Lib.hid (fun w' (hb : Below w.heap.size w w') => paClone xs A c w' (HA.out.below hb) h2000)
        rw [← hws] at HO
        clear hws hvs hvw h2000
        go_enter Try.func11, Try.ntmps11
        go_wp2_with fail
        refine (HJ.out _).mono ?_
        rw [hj]
        rintro e1 w1 ⟨rfl, hb1⟩
        have T1 := Lib.hid (T0.out.next hb1)
        have g0 : w1.cell? ⟨w.heap.size + 1, 0, none⟩ = some (.int .i64 no) := T1.out.gp.cell (j := 0) rfl
        have g1 : w1.cell? ⟨w.heap.size + 1, 1, none⟩ = some (.int .i64 mark) := T1.out.gp.cell (j := 1) rfl
        have g2 : w1.cell? ⟨w.heap.size + 1, 2, none⟩ = some (.slice A xs.length c) := T1.out.gp.cell (j := 2) rfl
        clear hb1 hj
        go_wp2_with fail
        refine (HR.out _ T1.out.below).mono ?_
        rw [hr]
        rintro e2 w2 ⟨rfl, hb2⟩
        have T2 := Lib.hid (T1.out.next hb2)
        have d0 : w2.cell? ⟨w.heap.size + 1 + 1, 0, none⟩ = some (.string (kS e.key)) := T2.out.ev.cell (j := 0) rfl
        have d1 : w2.cell? ⟨w.heap.size + 1 + 1, 1, none⟩ = some (.int .i64 e.at_) := T2.out.ev.cell (j := 1) rfl
        have d2 : w2.cell? ⟨w.heap.size + 1 + 1, 2, none⟩ = some (.int .i64 e.val) := T2.out.ev.cell (j := 2) rfl
        clear hb2 hr g0 g1 g2 he
        go_wp2_with fail
        refine (HE.out _).mono ?_
        rw [HE1.out]
        rintro e3 w3 ⟨rfl, rfl⟩
        have T3 := Lib.hid (T2.out.next (below_al (o := .cells (Itm.evC (kS e.key) e.at_ e.val) 28) (Below.refl _ _)))
        obtain ⟨w3, hw3⟩ : ∃ w3, w3 = w2.alloc (.cells (Itm.evC (kS e.key) e.at_ e.val) 28) := ⟨_, rfl⟩
        rw [← hw3] at T3 ⊢
        clear hw3 d0 d1 d2
        have x1 : w3.cell? ⟨w.heap.size, 1, none⟩ = some (.int .i64 j.size) := T3.out.job.cell (j := 1) rfl
        have x2 : w3.cell? ⟨w.heap.size, 2, none⟩ = some (.int .i64 j.slide) := T3.out.job.cell (j := 2) rfl
        have x3 : w3.cell? ⟨w.heap.size + 1 + 1, 1, none⟩ = some (.int .i64 e.at_) := T3.out.ev.cell (j := 1) rfl
        have x4 : w3.cell? ⟨w.heap.size + 1, 1, none⟩ = some (.int .i64 mark) := T3.out.gp.cell (j := 1) rfl
        go_wp2_with fail
        refine (HO.out _).mono ?_
        rintro e4 w4 ⟨AW, cW, rfl, lW, mW, RW, hb4⟩
        have T4 := Lib.hid (T3.out.next hb4)
        have HRW := Lib.hid RW
        have y2 : w4.cell? ⟨w.heap.size + 1, 2, none⟩ = some (.slice A xs.length c) := T4.out.gp.cell (j := 2) rfl
        clear hb4 x1 x2 x3 x4 lW mW RW
        go_wp2_with fail
        refine (HCL.out _ T4.out.below).mono ?_
        rintro e5 w5 ⟨AP, cP, rfl, lP, mP, RP, hb5⟩
        have T5 := Lib.hid (T4.out.next hb5)
        have HRP := Lib.hid RP
        have HRW5 := Lib.hid (HRW.out.below hb5)
        have HLP := Lib.hid (And.intro lP mP)
        clear hb5 y2 lP mP RP
        go_wp2_with fail
        go_loopw [10, 43] (fun pv i wr => ∃ (k : Nat) (ps : List Pn) (A1 : Option Addr) (c1 : Nat), i = .int .i64 k ∧ pv = .slice A1 ps.length c1 ∧ k ≤ ws.length ∧ allE j.fold xs (vs.take k) = (ps, 0) ∧ ps.length ≤ c1 ∧ c1 ≤ maxLen ∧ Row wr A1 (pc ps) ∧ Row wr AW (wc ws) ∧ Four w j no mark (.slice A xs.length c) e wr) (fun _ i _ => ws.length - (intOf i).toNat)
        case atStart => exact ⟨0, xs, AP, cP, rfl, rfl, Nat.zero_le _, by simp [allE], HLP.out.1, HLP.out.2, HRP.out, HRW5.out, T5.out⟩
        case round =>
          obtain ⟨k, ps, A1, c1, rfl, rfl, hk, hE, hl1, hc1, hR1, hRW, hF⟩ := hrel
          have HEk := Lib.hid hE; have HL1 := Lib.hid (And.intro hl1 hc1); have HR1 := Lib.hid hR1; have HRk := Lib.hid hRW; have F := Lib.hid hF
          clear hE hl1 hc1 hR1 hRW hF
          by_cases hlt : k < ws.length
          · obtain ⟨x, hx⟩ : ∃ x, ws[k]? = some x := ⟨_, List.getElem?_eq_getElem hlt⟩
            obtain ⟨bW, oW, rfl, q0, q1⟩ := HRk.out.win hx
            have hw16 : ws.length ≤ 16 := HWL.out
            obtain ⟨o, ho⟩ : ∃ o, o = aOut j.fold ps ⟨x.1, x.2, e.key⟩ e.val := ⟨_, rfl⟩
            have hvk : vs[k]? = some (⟨x.1, x.2, e.key⟩, e.val) := by rw [HWV.out, List.getElem?_map, hx]; rfl
            have HVK := Lib.hid hvk
            have HSTEP := Lib.hid (show allE j.fold xs (vs.take (k + 1)) = if o.2 = 0 then (o.1, 0) else ([], o.2) from by
              rw [List.take_add_one, hvk]
              show allE j.fold xs (vs.take k ++ [_]) = _
              rw [allE_push, HEk.out]; unfold stepE; simp only [if_true, ← ho])
            have HADD := Lib.hid (fun w' (hb : Below wr.heap.size wr w') => show Calls Try.prog 32 #[.slice A1 ps.length c1, .int .i64 j.fold, .string (kS e.key), .agg #[.int .i64 x.1, .int .i64 x.2], .int .i64 e.val] w' (GivesPE o w') from
              ho ▸ paAdd j.fold ps A1 c1 x.1 x.2 e.val e.key w' (HR1.out.below hb) HL1.out.1 (by have := HL1.out.2; unfold maxLen at this; omega))
            have x3 : wr.cell? ⟨w.heap.size, 3, none⟩ = some (.int .i64 j.fold) := F.out.job.cell (j := 3) rfl
            have v0 : wr.cell? ⟨w.heap.size + 1 + 1, 0, none⟩ = some (.string (kS e.key)) := F.out.ev.cell (j := 0) rfl
            have v2 : wr.cell? ⟨w.heap.size + 1 + 1, 2, none⟩ = some (.int .i64 e.val) := F.out.ev.cell (j := 2) rfl
            have l0 : w.heap.size < wr.heap.size := lt_of_block F.out.job
            have l2 : w.heap.size + 1 + 1 < wr.heap.size := lt_of_block F.out.ev
            clear ho hx hvk
            by_cases h0 : o.2 = 0
            · have e0 := nb0 h0
              have H0 := Lib.hid h0
              clear h0
              go_wp2_with fail
              refine (HADD.out _ (below_al (Below.refl _ _))).mono ?_
              rintro e5 w6 ⟨A5, c5, rfl, l5, m5, R5, hb6⟩
              have F5 := Lib.hid ((F.out.next (below_al (Below.refl _ _))).next hb6)
              have HR5 := Lib.hid R5; have HL5 := Lib.hid (And.intro l5 m5)
              have HW5 := Lib.hid ((HRk.out.below (below_al (Below.refl _ _))).below hb6)
              clear R5 l5 m5 hb6 x3 v0 v2 q0 q1
              go_wp2_with fail
              go_roundw
              case rel => exact ⟨k + 1, o.1, A5, c5, rfl, rfl, by omega, by rw [HSTEP.out, if_pos H0.out], HL5.out.1, HL5.out.2, HR5.out, HW5.out, F5.out⟩
              case measure => simp [intOf]; omega
            · have e0 := nb h0
              have HT2 := Lib.hid (show takeR j ⟨no, mark, xs⟩ e = (none_, 0, o.2) from by
                have h1 : allE j.fold xs (vs.take (k + 1)) = ([], o.2) := by rw [HSTEP.out, if_neg h0]
                have h2 : allE j.fold xs vs = ([], o.2) := by
                  conv => lhs; rw [← List.take_append_drop (k + 1) vs]
                  rw [allE_more (by rw [h1]; exact h0), h1]
                rw [HT.out, h2, if_neg h0])
              clear h0
              go_wp2_with fail
              refine (HADD.out _ (below_al (Below.refl _ _))).mono ?_
              rintro e5 w6 ⟨A5, c5, rfl, l5, m5, R5, hb6⟩
              have F5 := Lib.hid ((F.out.next (below_al (Below.refl _ _))).next hb6)
              have r0 := F5.out.res.cell (j := 0) rfl; have r1 := F5.out.res.cell (j := 1) rfl; have r2 := F5.out.res.cell (j := 2) rfl
              have f0 := F5.out.res.free 0; have f1 := F5.out.res.free 1; have f2 := F5.out.res.free 2
              clear R5 l5 m5 hb6 x3 v0 v2 q0 q1
              go_wp2_with fail
              rw [HT2.out]
              exact take_endC (o := (none_, 0, o.2)) rfl rfl rfl rfl F5.out.res (Nat.le_refl _) (by simp [maxLen]) Row.nil F5.out.below
          · have hge : ws.length ≤ k := by omega
            have HT2 := Lib.hid (show takeR j ⟨no, mark, xs⟩ e = (⟨no, mark, ps⟩, ((ws.length : Nat) : Int), 0) from by
              have h1 := HEk.out
              rw [List.take_of_length_le (by rw [HWV.out, List.length_map]; exact hge)] at h1
              rw [HT.out, h1]; rfl)
            have g2 : wr.cell? ⟨w.heap.size + 1, 2, none⟩ = some (.slice A xs.length c) := F.out.gp.cell (j := 2) rfl
            have fg := F.out.gp.free 2
            have P := Lib.hid (F.out.put (.slice A1 ps.length c1))
            have HRP := Lib.hid (row_cell HR1.out g2 (pc_noslice _ _ _ _) (.slice A1 ps.length c1))
            have g0 : wr.cell? ⟨w.heap.size + 1, 0, none⟩ = some (.int .i64 no) := F.out.gp.cell (j := 0) rfl
            have g1 : wr.cell? ⟨w.heap.size + 1, 1, none⟩ = some (.int .i64 mark) := F.out.gp.cell (j := 1) rfl
            have r0 := F.out.res.cell (j := 0) rfl; have r1 := F.out.res.cell (j := 1) rfl; have r2 := F.out.res.cell (j := 2) rfl
            have f0 := F.out.res.free 0; have f1 := F.out.res.free 1; have f2 := F.out.res.free 2
            go_wp2_with fail
            rw [HT2.out]
            exact take_endC (o := (⟨no, mark, ps⟩, ((ws.length : Nat) : Int), 0)) rfl rfl rfl rfl P.out.res HL1.out.1 HL1.out.2 HRP.out P.out.below
end Grp
end Go.Proofs.Ythfbcfddfbipfaa
/- Contracts of the reader of the reference of groups. -/
namespace Go.Proofs.Ythfbcfddfbipfaa
open Go.RowKit
open Itm Vlq
set_option linter.unusedVariables false
set_option maxRecDepth 8000
namespace Grp
theorem rfR_num (g : Nat) (s : ByteArray) (i : Int) (v : Value) (x y : Int) (hG : ∀ w, Calls Try.prog 91 #[.string s, .int .i64 i] w fun e w' => e = .returned (.tuple #[v, .int .i64 x, .int .i64 y]) ∧ Below w.heap.size w w')
    (w : World) (h : RdAt 95 g s i 0 w) :
    Calls Try.prog 55 #[.pointer (some ⟨g, 0, none⟩)] w (Took 95 g s v x y w) := by
  have HG := Lib.hid hG
  have H := Lib.hid h
  have c0 := h.c0; have c1 := h.c1; have c2 := h.c2
  clear hG h
  go_enter Try.func55, Try.ntmps55
  go_wp2_with fail
  go_region_with (go_at_call 91; refine (HG.out _).mono ?_; rintro e w5 ⟨rfl, hb5⟩; have H5 := Lib.hid (RdAt.below (w := w) H.out ⟨hb5.os, hb5.tape, hb5.output, hb5.size, hb5.block⟩); have d1 := H5.out.c1; have d2 := H5.out.c2; have f1 := H5.out.free 1; have f2 := H5.out.free 2)
  all_goals (
    go_wp2_with fail
    go_ret
    exact ⟨rfl, after_two H.out hb5⟩)
theorem rfRE_num (g : Nat) (s : ByteArray) (i c : Int) (hc : c ≠ 0) (w : World) (h : RdAt 95 g s i c w) :
    Calls Try.prog 55 #[.pointer (some ⟨g, 0, none⟩)] w (Took 95 g s (.int .i64 0) i c w) := by
  have H := Lib.hid h
  have c2 := h.c2
  have e0 := nb hc
  clear h hc
  go_enter Try.func55, Try.ntmps55
  go_wp2_with fail
  go_ret
  exact ⟨rfl, H.out, But.refl _ _⟩
theorem rfR_whole (g : Nat) (s : ByteArray) (i : Int) (v : Value) (x y : Int) (hG : ∀ w, Calls Try.prog 93 #[.string s, .int .i64 i] w fun e w' => e = .returned (.tuple #[v, .int .i64 x, .int .i64 y]) ∧ Below w.heap.size w w')
    (w : World) (h : RdAt 95 g s i 0 w) :
    Calls Try.prog 57 #[.pointer (some ⟨g, 0, none⟩)] w (Took 95 g s v x y w) := by
  have HG := Lib.hid hG
  have H := Lib.hid h
  have c0 := h.c0; have c1 := h.c1; have c2 := h.c2
  clear hG h
  go_enter Try.func57, Try.ntmps57
  go_wp2_with fail
  go_region_with (go_at_call 93; refine (HG.out _).mono ?_; rintro e w5 ⟨rfl, hb5⟩; have H5 := Lib.hid (RdAt.below (w := w) H.out ⟨hb5.os, hb5.tape, hb5.output, hb5.size, hb5.block⟩); have d1 := H5.out.c1; have d2 := H5.out.c2; have f1 := H5.out.free 1; have f2 := H5.out.free 2)
  all_goals (
    go_wp2_with fail
    go_ret
    exact ⟨rfl, after_two H.out hb5⟩)
theorem rfRE_whole (g : Nat) (s : ByteArray) (i c : Int) (hc : c ≠ 0) (w : World) (h : RdAt 95 g s i c w) :
    Calls Try.prog 57 #[.pointer (some ⟨g, 0, none⟩)] w (Took 95 g s (.int .i64 0) i c w) := by
  have H := Lib.hid h
  have c2 := h.c2
  have e0 := nb hc
  clear h hc
  go_enter Try.func57, Try.ntmps57
  go_wp2_with fail
  go_ret
  exact ⟨rfl, H.out, But.refl _ _⟩
theorem rfR_text (g : Nat) (s : ByteArray) (i : Int) (v : Value) (x y : Int) (hG : ∀ w, Calls Try.prog 92 #[.string s, .int .i64 i] w fun e w' => e = .returned (.tuple #[v, .int .i64 x, .int .i64 y]) ∧ Below w.heap.size w w')
    (w : World) (h : RdAt 95 g s i 0 w) :
    Calls Try.prog 56 #[.pointer (some ⟨g, 0, none⟩)] w (Took 95 g s v x y w) := by
  have HG := Lib.hid hG
  have H := Lib.hid h
  have c0 := h.c0; have c1 := h.c1; have c2 := h.c2
  clear hG h
  go_enter Try.func56, Try.ntmps56
  go_wp2_with fail
  go_region_with (go_at_call 92; refine (HG.out _).mono ?_; rintro e w5 ⟨rfl, hb5⟩; have H5 := Lib.hid (RdAt.below (w := w) H.out ⟨hb5.os, hb5.tape, hb5.output, hb5.size, hb5.block⟩); have d1 := H5.out.c1; have d2 := H5.out.c2; have f1 := H5.out.free 1; have f2 := H5.out.free 2)
  all_goals (
    go_wp2_with fail
    go_ret
    exact ⟨rfl, after_two H.out hb5⟩)
theorem rfRE_text (g : Nat) (s : ByteArray) (i c : Int) (hc : c ≠ 0) (w : World) (h : RdAt 95 g s i c w) :
    Calls Try.prog 56 #[.pointer (some ⟨g, 0, none⟩)] w (Took 95 g s (.string ⟨#[]⟩) i c w) := by
  have H := Lib.hid h
  have c2 := h.c2
  have e0 := nb hc
  clear h hc
  go_enter Try.func56, Try.ntmps56
  go_wp2_with fail
  go_ret
  exact ⟨rfl, H.out, But.refl _ _⟩
theorem rfNumber (g : Nat) (s : ByteArray) (hs : s.size ≤ 140737488355328) (i c : Nat) (hi : i ≤ s.size) (w : World) (h : RdAt 95 g s i c w) :
    Calls Try.prog 55 #[.pointer (some ⟨g, 0, none⟩)] w (Took 95 g s (numV (numS s (i, c))) (numS s (i, c)).2.1 (numS s (i, c)).2.2 w) := by
  by_cases hc : c = 0
  · subst hc
    exact rfR_num g s i _ _ _ (fun w => (refGet_ok s i w (by omega) hi).mono fun e w' h => ⟨h.1, h.2 ▸ Below.refl _ _⟩) w h
  · have e : numS s (i, c) = (0, i, c) := if_neg hc
    rw [e]
    exact rfRE_num g s i c (by omega) w h
theorem rfSigned (g : Nat) (s : ByteArray) (hs : s.size ≤ 140737488355328) (i c : Nat) (hi : i ≤ s.size) (w : World) (h : RdAt 95 g s i c w) :
    Calls Try.prog 57 #[.pointer (some ⟨g, 0, none⟩)] w (Took 95 g s (sgnV (sgnS s (i, c))) (sgnS s (i, c)).2.1 (sgnS s (i, c)).2.2 w) := by
  by_cases hc : c = 0
  · subst hc
    exact rfR_whole g s i _ _ _ (fun w => (refGetSigned_ok s i w (by omega) hi).mono fun e w' h => ⟨h.1, h.2 ▸ Below.refl _ _⟩) w h
  · have e : sgnS s (i, c) = (0, i, c) := if_neg hc
    rw [e]
    show Calls _ _ _ _ (Took _ g s (.int .i64 (un 0)) i c w)
    rw [show un 0 = 0 from by simp [un]]
    exact rfRE_whole g s i c (by omega) w h
theorem rfTextR (g : Nat) (s : ByteArray) (hs : s.size ≤ 140737488355328) (i c : Nat) (hi : i ≤ s.size) (w : World) (h : RdAt 95 g s i c w) :
    Calls Try.prog 56 #[.pointer (some ⟨g, 0, none⟩)] w (Took 95 g s (txtV (txtS s (i, c))) (txtS s (i, c)).2.1 (txtS s (i, c)).2.2 w) := by
  by_cases hc : c = 0
  · subst hc
    exact rfR_text g s i _ _ _ (fun w => refGetText_ok s i w hs hi) w h
  · have e : txtS s (i, c) = ([], i, c) := if_neg hc
    rw [e]
    exact rfRE_text g s i c (by omega) w h
end Grp
end Go.Proofs.Ythfbcfddfbipfaa
/- What writes numbers, of the reference of groups. -/
namespace Go.Proofs.Ythfbcfddfbipfaa
open Go.RowKit
open Itm Vlq
set_option linter.unusedVariables false
set_option maxRecDepth 8000
namespace Grp
set_option maxRecDepth 100000 in
theorem rfNum (z : Int) (h0 : 0 ≤ z) (h1 : z ≤ 9223372036854775807) (w : World) : Calls Try.prog 58 #[.int .i64 z] w (IsStr (enc z.toNat) w) := by
  obtain ⟨n, rfl⟩ := Int.eq_ofNat_of_zero_le h0
  have HV := Lib.hid (fun w => refDigits n (by omega) w)
  clear h0
  go_enter Try.func58, Try.ntmps58
  go_wp2_with fail
  refine (HV.out _).mono ?_
  rintro e w2 ⟨rfl, hb⟩
  go_wp2_with fail
  go_ret
  exact ⟨rfl, hb⟩
theorem rfWhole (v : Int) (h1 : -9223372036854775808 ≤ v) (h2 : v ≤ 9223372036854775807) (w : World) : Calls Try.prog 59 #[.int .i64 v] w (IsStr (enc (zz v)) w) := by
  have HV := Lib.hid (fun w => refDigits (zz v) (zz_lt h1 h2) w)
  go_enter Try.func59, Try.ntmps59
  go_wp2_with fail
  refine (refFolded v h1 h2 _).mono ?_
  rintro e w2 ⟨rfl, rfl⟩
  go_wp2_with fail
  refine (HV.out _).mono ?_
  rintro e w2 ⟨rfl, hb⟩
  go_wp2_with fail
  go_ret
  exact ⟨rfl, hb⟩
end Grp
end Go.Proofs.Ythfbcfddfbipfaa
