/- The walk of the law GroupSteps. -/
import Derived.Test.YthfbcfddfbipfaaZLawsGroA
import Derived.Test.YthfbcfddfbipfaaZ15
namespace Go.Proofs.Ythfbcfddfbipfaa
open Go.ChangeShapes Go.WideShapes Go.ChangeAt Go.RowKit
set_option linter.unusedVariables false
set_option maxRecDepth 8000
namespace Grp
open Pan (Pn Pl Rs resOf resO)
theorem adv_due_len {g : Gp} (h : right g = true) (m : Int) : (adv g m).2.length ≤ 2000 ∧ (adv g m).1.ps.length ≤ 2000 := by
  rw [adv_code h]
  have h1 := ((Pan.right_iff _).1 ((right_iff g).1 h).2.1).1
  unfold Pan.due Pan.rest
  exact ⟨Nat.le_trans (List.length_filter_le _ _) h1, Nat.le_trans (List.length_filter_le _ _) h1⟩
theorem advO_ok {j : Jb} {g : Gp} (hj : jobOk j = true) (hg : right g = true) (m : Int) : advO j g m = ((adv g m).1, (adv g m).2.map (resOf j.fold), 0) := by
  unfold advO; rw [if_pos hj, if_pos hg]
theorem advO_bad {j : Jb} {g : Gp} (h : (jobOk j && right g) = false) (m : Int) : ∃ er, advO j g m = (none_, [], er) ∧ er ≠ 0 := by
  unfold advO
  cases hj : jobOk j
  · exact ⟨130, rfl, by omega⟩
  · cases hg : right g
    · exact ⟨1, rfl, by omega⟩
    · rw [hj, hg] at h; cases h
/-- An operation whose guard lets it by. -/
theorem wpList_unguard {P : Program} {w : World} {ops : Array Oper} {rest : List Oper} {o : Oper} {a : Act} {Q : Exit → Act → World → Prop} (hw : Region.wanted o (yielded ops a.tmps) = true)
    (h : wpList P ops Q ({ o with guard := none } :: rest) a w) : wpList P ops Q (o :: rest) a w := by
  unfold wpList at h ⊢
  rw [if_pos hw]
  rw [if_pos (by simp [Region.wanted])] at h
  exact h
set_option maxRecDepth 100000 in
set_option maxHeartbeats 4000000 in
theorem walkGroupStepsBad (j : Jb) (no mark : Int) (xs : List Pn) (m l : Int) (A : Option Addr) (c : Nat) (w : World) (hA : Row w A (pc xs)) (hl : xs.length ≤ c) (hc : c ≤ maxLen)
    (hbad : (jobOk j && right ⟨no, mark, fewL xs⟩) = false) :
    Calls Try.prog 8 #[jbV j, gpV no mark (.slice A xs.length c), .int .i64 m, .int .i64 l] w (TellsB true w) := by
  have HF := Lib.hid (fun w' (hb : Below w.heap.size w w') => lawFew no mark xs A c w' (hA.below hb) hl hc)
  obtain ⟨ys, hys⟩ : ∃ ys, ys = fewL xs := ⟨_, rfl⟩
  rw [← hys] at HF hbad
  obtain ⟨q, hq⟩ : ∃ q, max m l = q := ⟨_, rfl⟩
  obtain ⟨er, ho, her⟩ := advO_bad hbad m
  have HC := Lib.hid (fun A1 c1 w' (h : Row w' A1 (pc ys)) (h1 : ys.length ≤ c1) (h2 : c1 ≤ maxLen) => show Calls Try.prog 19 #[jbV j, gpV no mark (.slice A1 ys.length c1), .int .i64 m] w' (GivesA 0 0 [] [] er w') from by
    have h := gpAdvance j ⟨no, mark, ys⟩ m A1 c1 w' h h1 h2
    rw [ho] at h; exact h)
  have B0 := Lib.hid (Bx.start w j no mark (.slice A xs.length c))
  have e0 := nb her
  clear hA hl hc hys ho hbad her
  go_enter Try.func8, Try.ntmps8
  go_wp2_with fail
  refine (HF.out _ B0.out.below).mono ?_
  rintro e w1 ⟨A1, c1, rfl, l1, m1, R1, hb1⟩
  have B1 := Lib.hid (B0.out.next hb1)
  have L1 := Lib.hid (And.intro l1 m1)
  have R1' := Lib.hid (row_set3 R1 B1.out.gp (pc_big _) no mark (.slice A1 ys.length c1))
  have B2 := Lib.hid (B1.out.set3 no mark (.slice A1 ys.length c1))
  obtain ⟨p0, p1, p2, p3, p4, p5, p6, p7⟩ := B1.out.jobs
  obtain ⟨g0, g1, g2⟩ := B1.out.gps
  have f0 := B1.out.gp.free 0; have f1 := B1.out.gp.free 1; have f2 := B1.out.gp.free 2
  clear hb1 R1 l1 m1
  go_wp2_with fail
  refine (HC.out A1 c1 _ R1'.out L1.out.1 L1.out.2).mono ?_
  rintro e w3 ⟨A3, c3, A4, c4, rfl, l3, m3, l4, m4, R3, R4, hb3⟩
  have B3 := Lib.hid (B2.out.next hb3)
  clear p0 p1 p2 p3 p4 p5 p6 p7 g0 g1 g2 f0 f1 f2 hb3 l3 m3 l4 m4 R3 R4
  go_wp2_with fail
  refine (lawAliveG _).mono ?_
  rintro e w5 ⟨rfl, hb5⟩
  have B5 := Lib.hid ((B3.out.next (al_below _ _)).next hb5)
  clear hb5
  go_wp2_with fail
  go_ret
  exact ⟨rfl, B5.out.below⟩
set_option maxRecDepth 100000 in
set_option maxHeartbeats 4000000 in
theorem walkGroupStepsOk (j : Jb) (no mark : Int) (xs : List Pn) (m l : Int) (A : Option Addr) (c : Nat) (w : World) (hA : Row w A (pc xs)) (hl : xs.length ≤ c) (hc : c ≤ maxLen)
    (hj : jobOk j = true) (hg : right ⟨no, mark, fewL xs⟩ = true) :
    Calls Try.prog 8 #[jbV j, gpV no mark (.slice A xs.length c), .int .i64 m, .int .i64 l] w (TellsB true w) := by
  have HF := Lib.hid (fun w' (hb : Below w.heap.size w w') => lawFew no mark xs A c w' (hA.below hb) hl hc)
  obtain ⟨ys, hys⟩ : ∃ ys, ys = fewL xs := ⟨_, rfl⟩
  rw [← hys] at HF hg
  obtain ⟨q, hq⟩ : ∃ q, max m l = q := ⟨_, rfl⟩
  have hmq : m ≤ q := by omega
  have h1 := advO_ok hj hg m
  have hg2 := adv_right hg m
  have h2 := advO_ok hj hg2 q
  have h3 := advO_ok hj hg q
  obtain ⟨t1, t2⟩ := adv_two hg hmq
  have hg3 := adv_right hg q
  have hmk := adv_mark hg q
  have hop := adv_open hg q
  have n1 := (adv_due_len hg m).1
  have n2 := (adv_due_len hg2 q).1
  have n3 := (adv_due_len hg q).2
  rw [t1] at h2
  rw [← t2, List.map_append] at h3
  obtain ⟨⟨no1, mark1, zs⟩, hz⟩ : ∃ z, z = (adv ⟨no, mark, ys⟩ m).1 := ⟨_, rfl⟩
  obtain ⟨⟨no2, mark2, us⟩, hu⟩ : ∃ z, z = (adv ⟨no, mark, ys⟩ q).1 := ⟨_, rfl⟩
  obtain ⟨r1, hr1⟩ : ∃ r, r = (adv ⟨no, mark, ys⟩ m).2.map (resOf j.fold) := ⟨_, rfl⟩
  obtain ⟨r2, hr2⟩ : ∃ r, r = (adv (adv ⟨no, mark, ys⟩ m).1 q).2.map (resOf j.fold) := ⟨_, rfl⟩
  have k1 : r1.length ≤ 2000 := by rw [hr1, List.length_map]; exact n1
  have k2 : r2.length ≤ 2000 := by rw [hr2, List.length_map]; exact n2
  rw [← hu] at h2 h3 hg3 hmk hop n3
  rw [← hr2] at h2 h3
  rw [← hr1] at h1 h3
  rw [← hz] at h1 h2
  simp only at hmk hop n3
  obtain ⟨rs, hrs⟩ : ∃ rs, rs = r1 ++ r2 := ⟨_, rfl⟩
  rw [← hrs] at h3
  have HC := Lib.hid (fun A1 c1 w' (h : Row w' A1 (pc ys)) (a1 : ys.length ≤ c1) (a2 : c1 ≤ maxLen) => show Calls Try.prog 19 #[jbV j, gpV no mark (.slice A1 ys.length c1), .int .i64 m] w' (GivesA no1 mark1 zs r1 0 w') from by
    have h := gpAdvance j ⟨no, mark, ys⟩ m A1 c1 w' h a1 a2
    rw [h1] at h; exact h)
  have HD := Lib.hid (fun A1 c1 w' (h : Row w' A1 (pc zs)) (a1 : zs.length ≤ c1) (a2 : c1 ≤ maxLen) => show Calls Try.prog 19 #[jbV j, gpV no1 mark1 (.slice A1 zs.length c1), .int .i64 q] w' (GivesA no2 mark2 us r2 0 w') from by
    have h := gpAdvance j ⟨no1, mark1, zs⟩ q A1 c1 w' h a1 a2
    rw [h2] at h; exact h)
  have HE := Lib.hid (fun A1 c1 w' (h : Row w' A1 (pc ys)) (a1 : ys.length ≤ c1) (a2 : c1 ≤ maxLen) => show Calls Try.prog 19 #[jbV j, gpV no mark (.slice A1 ys.length c1), .int .i64 q] w' (GivesA no2 mark2 us rs 0 w') from by
    have h := gpAdvance j ⟨no, mark, ys⟩ q A1 c1 w' h a1 a2
    rw [h3] at h; exact h)
  have HRT := Lib.hid (fun A1 c1 w' (h : Row w' A1 (pc us)) => show Calls Try.prog 16 #[gpV no2 mark2 (.slice A1 us.length c1)] w' (TellsB true w') from by
    have h := gpRight ⟨no2, mark2, us⟩ A1 c1 w' h (by show us.length ≤ _; omega)
    rw [hg3] at h; exact h)
  have HCL := Lib.hid (fun a b m w => winClosed a b m w)
  have HOP := Lib.hid hop
  have HMK := Lib.hid hmk
  have HK := Lib.hid (And.intro k1 k2)
  have HN3 := Lib.hid n3
  have HL := Lib.hid (rfLike no2 mark2 us (by omega))
  have HLR := Lib.hid (paLikeR rs (by rw [hrs, List.length_append]; omega))
  have HRS := Lib.hid (show 0 + r1.length + r2.length = rs.length from by rw [hrs]; simp)
  have HRC := Lib.hid (show rc r1 ++ rc r2 = rc rs from by rw [hrs, rc_app])
  have B0 := Lib.hid (Bx.start w j no mark (.slice A xs.length c))
  obtain ⟨i0, hi0, hz0, hz1, hz2⟩ := info_parts rsInfo
  have HI0 := Lib.hid hi0; have HZ0 := Lib.hid hz0; have HZ1 := Lib.hid hz1; have HZ2 := Lib.hid hz2
  clear hrs hA hl hc hys hj hg hmq h1 h2 h3 hg2 t1 t2 hg3 hmk hop n1 n2 n3 hz hu hr1 hr2 k1 k2 hi0 hz0 hz1 hz2
  go_enter Try.func8, Try.ntmps8
  go_wp2_with fail
  refine (HF.out _ B0.out.below).mono ?_
  rintro e w1 ⟨A1, c1, rfl, l1, m1, R1, hb1⟩
  have B1 := Lib.hid (B0.out.next hb1)
  have L1 := Lib.hid (And.intro l1 m1)
  have R1' := Lib.hid (row_set3 R1 B1.out.gp (pc_big _) no mark (.slice A1 ys.length c1))
  have B2 := Lib.hid (B1.out.set3 no mark (.slice A1 ys.length c1))
  obtain ⟨p0, p1, p2, p3, p4, p5, p6, p7⟩ := B1.out.jobs
  obtain ⟨g0, g1, g2⟩ := B1.out.gps
  have f0 := B1.out.gp.free 0; have f1 := B1.out.gp.free 1; have f2 := B1.out.gp.free 2
  clear hb1 R1 l1 m1
  go_wp2_with fail
  refine (HC.out A1 c1 _ R1'.out L1.out.1 L1.out.2).mono ?_
  rintro e w3 ⟨A3, c3, A4, c4, rfl, l3, m3, l4, m4, R3, R4, hb3⟩
  have B3 := Lib.hid (B2.out.next hb3)
  have R1 := Lib.hid (R1'.out.below hb3)
  have L3 := Lib.hid (And.intro l3 m3); have L4 := Lib.hid (And.intro l4 m4)
  have R3 := Lib.hid R3; have R4 := Lib.hid R4
  clear p0 p1 p2 p3 p4 p5 p6 p7 g0 g1 g2 f0 f1 f2 hb3 l3 m3 l4 m4 hq
  obtain ⟨p0, p1, p2, p3, p4, p5, p6, p7⟩ := B3.out.jobs
  have q0 := lt_of_block B3.out.job; have q1 := lt_of_block B3.out.gp
  have G := Lib.hid (GpAt.new w3 no1 mark1 (.slice A3 zs.length c3))
  go_wp2_with fail
  refine (HD.out A3 c3 _ (R3.out.below (al_below _ _)) L3.out.1 L3.out.2).mono ?_
  rintro e w4 ⟨A5, c5, A6, c6, rfl, l5, m5, l6, m6, R5, R6, hb4⟩
  have B4 := Lib.hid ((B3.out.next (al_below _ _)).next hb4)
  have R1 := Lib.hid ((R1.out.below (al_below _ _)).below hb4)
  have R4 := Lib.hid ((R4.out.below (al_below _ _)).below hb4)
  have R5 := Lib.hid R5; have R6 := Lib.hid R6
  have L6 := Lib.hid (And.intro l6 m6)
  have K := Lib.hid (GpAt.new w4 no2 mark2 (.slice A5 us.length c5))
  clear p0 p1 p2 p3 p4 p5 p6 p7 q0 q1 hb4 l5 m5 l6 m6
  obtain ⟨p0, p1, p2, p3, p4, p5, p6, p7⟩ := B4.out.jobs
  obtain ⟨g0, g1, g2⟩ := B4.out.gps
  have q0 := lt_of_block B4.out.job; have q1 := lt_of_block B4.out.gp
  go_wp2_with fail
  refine (HE.out A1 c1 _ (R1.out.below (al_below _ _)) L1.out.1 L1.out.2).mono ?_
  rintro e w5 ⟨A7, c7, A8, c8, rfl, l7, m7, l8, m8, R7, R8, hb5⟩
  have B5 := Lib.hid ((B4.out.next (al_below _ _)).next hb5)
  have R4 := Lib.hid ((R4.out.below (al_below _ _)).below hb5)
  have R5 := Lib.hid ((R5.out.below (al_below _ _)).below hb5); have R6 := Lib.hid ((R6.out.below (al_below _ _)).below hb5)
  have K := Lib.hid (K.out.next hb5)
  have R7 := Lib.hid R7; have R8 := Lib.hid R8
  have M := Lib.hid (GpAt.new w5 no2 mark2 (.slice A7 us.length c7))
  clear p0 p1 p2 p3 p4 p5 p6 p7 g0 g1 g2 q0 q1 hb5 l7 m7 l8 m8
  obtain ⟨x0, x1, x2⟩ := K.out.cells
  have q0 := lt_of_block K.out
  go_wp2_with fail
  refine (HL.out _ _ _ _ _ (R5.out.below (al_below _ _)) (R7.out.below (al_below _ _))).mono ?_
  rintro e w6 ⟨rfl, hb6⟩
  have B6 := Lib.hid ((B5.out.next (al_below _ _)).next hb6)
  have R4 := Lib.hid ((R4.out.below (al_below _ _)).below hb6); have R6 := Lib.hid ((R6.out.below (al_below _ _)).below hb6)
  have R7 := Lib.hid ((R7.out.below (al_below _ _)).below hb6); have R8 := Lib.hid ((R8.out.below (al_below _ _)).below hb6)
  have M := Lib.hid (M.out.next hb6)
  clear x0 x1 x2 q0 hb6
  go_wp2_with (at_builtin; refine hold_mk ?_)
  refine hold_out ?_
  have h20 := HK.out
  refine wpList_unguard rfl ?_
  refine wpApp rfl _ _ 38 rfl w6.heap.size 78 i0 _ 5 48 Try.underlying38 HI0.out HZ0.out HZ1.out HZ2.out rfl (by omega) _ 0 [] rfl
    (own_new (Nat.le_refl _)) _ r1.length c4 (rc r1) rfl (R4.out.below (al_below _ _)) (rc_len r1) (rc_ones r1) (by unfold maxLen; omega) (by omega) (by simp) ?_
  intro v7 w7 hown7 hb7
  have BB7 := Lib.hid ((al_below w6 (.cells #[] 78)).trans hb7)
  have HOW7 := Lib.hid hown7
  have R6 := Lib.hid (R6.out.below BB7.out)
  have H67 := Lib.hid BB7.out.size
  clear hown7 hb7
  have HH := Lib.hid h20
  clear h20
  go_wp2_with (at_builtin; refine hold_mk ?_)
  refine hold_out ?_
  have h20 := HH.out
  refine wpList_unguard rfl ?_
  refine wpApp rfl _ _ 38 rfl w6.heap.size 78 i0 _ 5 48 Try.underlying38 HI0.out HZ0.out HZ1.out HZ2.out rfl (by omega) _ _ _ rfl
    HOW7.out _ r2.length c6 (rc r2) rfl R6.out (rc_len r2) (rc_ones r2) (by unfold maxLen; omega) (by omega) H67.out ?_
  intro v8 w8 hown8 hb8
  rw [HRS.out, List.nil_append, HRC.out] at hown8
  obtain ⟨A9, c9, rfl, l9, m9, _, R9, _⟩ := own_form hown8 (by omega)
  have R9 := Lib.hid R9
  have BB8 := BB7.out.trans hb8
  have R7 := Lib.hid (R7.out.below BB8); have R8 := Lib.hid (R8.out.below BB8)
  have M := Lib.hid (M.out.next BB8)
  have B8 := Lib.hid (B6.out.next BB8)
  clear hown8 hb8 BB8 h20 l9 m9
  go_wp2_with fail
  refine (HLR.out _ _ _ _ _ R9.out R8.out).mono ?_
  rintro e w9 ⟨rfl, hb9⟩
  have B9 := Lib.hid (B8.out.next hb9)
  have M := Lib.hid (M.out.next hb9)
  have R7 := Lib.hid (R7.out.below hb9)
  clear hb9
  obtain ⟨x0, x1, x2⟩ := M.out.cells
  have hu20 : us.length ≤ 2000 := HN3.out
  go_wp2_with fail
  clear x0 x1 x2
  go_loopw [82] (fun i wr => ∃ k : Nat, i = .int .i64 k ∧ k ≤ us.length ∧ Below w9.heap.size w9 wr) (fun i _ => us.length - (intOf i).toNat)
  case atStart => exact ⟨0, rfl, Nat.zero_le _, Below.refl _ _⟩
  case round =>
    obtain ⟨k, rfl, hk, hb⟩ := hrel
    have HB := Lib.hid hb
    clear hb
    by_cases hlt : k < us.length
    · obtain ⟨x, hx⟩ : ∃ x, us[k]? = some x := ⟨_, List.getElem?_eq_getElem hlt⟩
      obtain ⟨b, off, e7, c0, c1', c2, c3', c4', c5'⟩ := (R7.out.below HB.out).pn hx
      subst e7
      have hm := HOP.out x (List.mem_of_getElem? hx)
      clear hx
      go_wp2_with fail
      refine (HCL.out _ _ _ _).mono ?_
      rintro e w10 ⟨rfl, rfl⟩
      have hn : decide (x.p.hi ≤ q) = false := by simp; omega
      rw [hn]
      go_wp2_with fail
      go_roundw
      case rel => exact ⟨k + 1, rfl, by omega, below_al (below_al HB.out)⟩
      case measure => simp [intOf]; omega
    · have B10 := Lib.hid (B9.out.next HB.out)
      have M10 := Lib.hid (M.out.next HB.out)
      have R10 := Lib.hid (R7.out.below HB.out)
      go_wp2_with fail
      refine (lawAliveG _).mono ?_
      rintro e w11 ⟨rfl, hb11⟩
      have B11 := Lib.hid (B10.out.next hb11)
      have M11 := Lib.hid (M10.out.next hb11)
      have R11 := Lib.hid (R10.out.below hb11)
      clear hb11
      obtain ⟨x0, x1, x2⟩ := M11.out.cells
      obtain ⟨g0, g1, g2⟩ := B11.out.gps
      have hmk : mark ≤ mark2 := HMK.out
      go_wp2_with fail
      refine (HRT.out _ _ _ R11.out).mono ?_
      rintro e w12 ⟨rfl, hb12⟩
      have B12 := Lib.hid (B11.out.next hb12)
      clear hb12 x0 x1 x2 g0 g1 g2
      go_wp2_with fail
      go_ret
      exact ⟨rfl, B12.out.below⟩
theorem lawGroupSteps : Lift.Owes 8 [23, 26, 2, 2] := by
  intro H enc W base args ds ps hval hA _ _
  obtain ⟨v0, v1, v2, v3, d0, d1, d2, d3, p0, p1, p2, p3, rfl, rfl, rfl, h0, h1, h2, h3⟩ := trodAll_four hA
  obtain ⟨j, rfl⟩ := openJob (hval 0 _ v0 rfl rfl) h0
  obtain ⟨no, mark, xs, A, c, rfl, hl, hc, hrow⟩ := openGroup (hval 1 _ v1 rfl rfl) h1
  obtain ⟨m, rfl, rfl, rfl, _⟩ := open_int Try.underlying2 (hval 2 _ v2 rfl rfl) h2
  obtain ⟨l, rfl, rfl, rfl, _⟩ := open_int Try.underlying2 (hval 3 _ v3 rfl rfl) h3
  cases hq : jobOk j && right ⟨no, mark, fewL xs⟩
  · exact walkGroupStepsBad j no mark xs m l A c W hrow hl hc hq
  · rw [Bool.and_eq_true] at hq
    exact walkGroupStepsOk j no mark xs m l A c W hrow hl hc hq.1 hq.2
end Grp
theorem lawGroupSteps : Lift.Owes 8 [23, 26, 2, 2] := Grp.lawGroupSteps
end Go.Proofs.Ythfbcfddfbipfaa
