/- The walk of the law GroupWhole. -/
import Derived.Test.YthfbcfddfbipfaaZLawsGroB
namespace Go.Proofs.Ythfbcfddfbipfaa
open Go.ChangeShapes Go.WideShapes Go.ChangeAt Go.RowKit
set_option linter.unusedVariables false
set_option maxRecDepth 8000
namespace Grp
open Pan (Pn Pl)
theorem takeR_bad {j : Jb} {g : Gp} {e : Ev} (h : (takeR j g e).2.2 ≠ 0) : (takeR j g e).2.1 = 0 ∧ (takeR j g e).1 = none_ := by
  unfold takeR at h ⊢
  split
  · rename_i h1
    split
    · rename_i h2
      split
      · rename_i h3
        rw [if_pos h1, if_pos h2, if_pos h3] at h
        exact absurd rfl h
      · exact ⟨rfl, rfl⟩
    · exact ⟨rfl, rfl⟩
  · exact ⟨rfl, rfl⟩
theorem takeR_ok {j : Jb} {g : Gp} {e : Ev} (h : (takeR j g e).2.2 = 0) : jobOk j = true ∧ right g = true ∧ evOk e = true ∧ (takeR j g e).2.1 = ((cells j.size j.slide g.mark e).length : Nat) ∧
    (allE j.fold g.ps (cells j.size j.slide g.mark e)).2 = 0 ∧ (takeR j g e).1 = ⟨g.no, g.mark, (allE j.fold g.ps (cells j.size j.slide g.mark e)).1⟩ := by
  unfold takeR at h ⊢
  split at h
  · rename_i h1
    split at h
    · rename_i h2
      split at h
      · rename_i h3
        rw [Bool.and_eq_true] at h2
        refine ⟨h1, h2.1, h2.2, ?_⟩
        rw [if_pos h1, if_pos (by rw [h2.1, h2.2]; rfl), if_pos h3]
        exact ⟨rfl, h3, rfl⟩
      · rename_i h3; exact absurd h h3
    · simp at h
  · simp at h
/-- What the last operations of the law hang on. -/
structure WhAt (w0 : World) (j : Jb) (no mark : Int) (ys : List Pn) (A1 : Option Addr) (c1 : Nat) (a : Nat) (no1 mark1 : Int) (zs : List Pn) (A3 : Option Addr) (c3 : Nat) (AW : Option Addr) (ws : List (Int × Int)) (w : World) : Prop where
  bx : Bx w0 j no mark (.slice A1 ys.length c1) w
  ga : GpAt a no1 mark1 (.slice A3 zs.length c3) w
  r1 : Row w A1 (pc ys)
  r3 : Row w A3 (pc zs)
  rw : Row w AW (wc ws)
theorem WhAt.next {w0 : World} {j : Jb} {no mark : Int} {ys : List Pn} {A1 : Option Addr} {c1 : Nat} {a : Nat} {no1 mark1 : Int} {zs : List Pn} {A3 : Option Addr} {c3 : Nat} {AW : Option Addr} {ws : List (Int × Int)} {w w' : World}
    (h : WhAt w0 j no mark ys A1 c1 a no1 mark1 zs A3 c3 AW ws w) (hb : Below w.heap.size w w') : WhAt w0 j no mark ys A1 c1 a no1 mark1 zs A3 c3 AW ws w' :=
  ⟨h.bx.next hb, h.ga.next hb, h.r1.below hb, h.r3.below hb, h.rw.below hb⟩
theorem closedB (a b m : Int) (w : World) : Calls Try.prog 27 #[.agg #[.int .i64 a, .int .i64 b], .int .i64 m] w (TellsB (decide (b ≤ m)) w) :=
  (winClosed a b m w).mono fun e w' ⟨h1, h2⟩ => ⟨h1, by rw [h2]; exact al_below _ _⟩
set_option maxRecDepth 100000 in
set_option maxHeartbeats 4000000 in
theorem walkGroupWholeBad (j : Jb) (no mark : Int) (xs : List Pn) (ev : Ev) (A : Option Addr) (c : Nat) (w : World) (hA : Row w A (pc xs)) (hl : xs.length ≤ c) (hc : c ≤ maxLen)
    (hbad : (takeR j ⟨no, mark, fewL xs⟩ ev).2.2 ≠ 0) :
    Calls Try.prog 9 #[jbV j, gpV no mark (.slice A xs.length c), Itm.evV (kS ev.key) ev.at_ ev.val] w (TellsB true w) := by
  have HF := Lib.hid (fun w' (hb : Below w.heap.size w w') => lawFew no mark xs A c w' (hA.below hb) hl hc)
  obtain ⟨ys, hys⟩ : ∃ ys, ys = fewL xs := ⟨_, rfl⟩
  rw [← hys] at HF hbad
  obtain ⟨t1, t2⟩ := takeR_bad hbad
  obtain ⟨er, her⟩ : ∃ er, er = (takeR j ⟨no, mark, ys⟩ ev).2.2 := ⟨_, rfl⟩
  have ho : takeR j ⟨no, mark, ys⟩ ev = (none_, 0, er) := by rw [her, ← t1, ← t2]
  rw [← her] at hbad
  have HC := Lib.hid (fun A1 c1 w' (h : Row w' A1 (pc ys)) (h1 : ys.length ≤ c1) (h2 : c1 ≤ maxLen) => show Calls Try.prog 11 #[jbV j, gpV no mark (.slice A1 ys.length c1), Itm.evV (kS ev.key) ev.at_ ev.val] w' (GivesT 0 0 [] 0 er w') from by
    have h := gpTake j ⟨no, mark, ys⟩ ev A1 c1 w' h h1 h2
    rw [ho] at h; exact h)
  have B0 := Lib.hid ((Bx.start w j no mark (.slice A xs.length c)).next (al_below _ (.cells (Itm.evC (kS ev.key) ev.at_ ev.val) 28)))
  have E0 := Lib.hid (show EvAt (w.heap.size + 1 + 1) ev (((w.alloc (.cells (jbC j) 23)).alloc (.cells (gpC no mark (.slice A xs.length c)) 26)).alloc (.cells (Itm.evC (kS ev.key) ev.at_ ev.val) 28)) from lies_at (by simp) _ _)
  have e0 := nb hbad
  clear hA hl hc hys ho hbad her t1 t2
  go_enter Try.func9, Try.ntmps9
  go_wp2_with fail
  refine (HF.out _ B0.out.below).mono ?_
  rintro e w1 ⟨A1, c1, rfl, l1, m1, R1, hb1⟩
  have B1 := Lib.hid (B0.out.next hb1)
  have E1 := Lib.hid (E0.out.next hb1)
  have L1 := Lib.hid (And.intro l1 m1)
  have R1' := Lib.hid (row_set3 R1 B1.out.gp (pc_big _) no mark (.slice A1 ys.length c1))
  have B2 := Lib.hid (B1.out.set3 no mark (.slice A1 ys.length c1))
  obtain ⟨p0, p1, p2, p3, p4, p5, p6, p7⟩ := B1.out.jobs
  obtain ⟨g0, g1, g2⟩ := B1.out.gps
  obtain ⟨v0, v1, v2⟩ := E1.out.cells
  have f0 := B1.out.gp.free 0; have f1 := B1.out.gp.free 1; have f2 := B1.out.gp.free 2
  clear hb1 R1 l1 m1
  go_wp2_with fail
  refine (HC.out A1 c1 _ R1'.out L1.out.1 L1.out.2).mono ?_
  rintro e w3 ⟨A3, c3, rfl, l3, m3, R3, hb3⟩
  have B3 := Lib.hid (B2.out.next hb3)
  clear p0 p1 p2 p3 p4 p5 p6 p7 g0 g1 g2 f0 f1 f2 v0 v1 v2 hb3 l3 m3 R3
  go_wp2_with fail
  refine (lawAliveG _).mono ?_
  rintro e w5 ⟨rfl, hb5⟩
  have B5 := Lib.hid ((B3.out.next (al_below _ _)).next hb5)
  clear hb5
  go_wp2_with fail
  go_ret
  exact ⟨rfl, B5.out.below⟩
set_option maxRecDepth 100000 in
set_option maxHeartbeats 4000000 in
theorem walkGroupWholeOk (j : Jb) (no mark : Int) (xs : List Pn) (ev : Ev) (A : Option Addr) (c : Nat) (w : World) (hA : Row w A (pc xs)) (hl : xs.length ≤ c) (hc : c ≤ maxLen)
    (hok : (takeR j ⟨no, mark, fewL xs⟩ ev).2.2 = 0) :
    Calls Try.prog 9 #[jbV j, gpV no mark (.slice A xs.length c), Itm.evV (kS ev.key) ev.at_ ev.val] w (TellsB true w) := by
  have HF := Lib.hid (fun w' (hb : Below w.heap.size w w') => lawFew no mark xs A c w' (hA.below hb) hl hc)
  obtain ⟨ys, hys⟩ : ∃ ys, ys = fewL xs := ⟨_, rfl⟩
  rw [← hys] at HF hok
  obtain ⟨hj, hg, he, t1, t2, t3⟩ := takeR_ok hok
  simp only at t1 t2 t3
  -- the windows
  have hgood : Win.good j.size j.slide ev.at_ = true := by
    unfold jobOk at hj; rw [Bool.and_eq_true] at hj
    obtain ⟨_, _, h3, h4⟩ := of_decide_eq_true he
    unfold Win.good
    rw [hj.1, Bool.true_and, decide_eq_true_eq]
    exact ⟨h3, h4⟩
  have hpos : 1 ≤ (Win.of j.size j.slide ev.at_).length := by
    rw [Win.of, List.length_reverse, Win.desc_len hgood]; exact (Win.cnt_facts hgood).1
  have h16 := of_len j.size j.slide ev.at_
  have hall := fun h => cells_all (s := j.size) (d := j.slide) (mark := mark) (e := ev) h
  have hle : (cells j.size j.slide mark ev).length ≤ (Win.of j.size j.slide ev.at_).length := by
    unfold cells; rw [List.length_map]; exact List.length_filter_le _ _
  obtain ⟨ws, hws⟩ : ∃ ws, ws = Win.of j.size j.slide ev.at_ := ⟨_, rfl⟩
  obtain ⟨k, hk⟩ : ∃ k, ws.length = k + 1 := ⟨ws.length - 1, by rw [hws]; omega⟩
  obtain ⟨x, hx⟩ : ∃ x, ws[k]? = some x := ⟨_, List.getElem?_eq_getElem (by omega)⟩
  have hlast := cells_last (s := j.size) (d := j.slide) (mark := mark) (e := ev) (n := k) (x := x) (by rw [← hws]; exact hk) (by rw [← hws]; exact hx)
  rw [← hws] at hpos h16 hall hle
  have hn0 : (cells j.size j.slide mark ev).length = 0 → (allE j.fold ys (cells j.size j.slide mark ev)).1 = ys := fun h => by
    rw [List.eq_nil_of_length_eq_zero h]; rfl
  obtain ⟨zs, hzs⟩ : ∃ zs, zs = (allE j.fold ys (cells j.size j.slide mark ev)).1 := ⟨_, rfl⟩
  obtain ⟨n, hn⟩ : ∃ n, n = (cells j.size j.slide mark ev).length := ⟨_, rfl⟩
  rw [← hzs] at t3 hn0
  rw [← hn] at t1 hall hle hlast hn0
  have ho : takeR j ⟨no, mark, ys⟩ ev = (⟨no, mark, zs⟩, ((n : Nat) : Int), 0) := by rw [← t1, ← t3, ← hok]
  have HC := Lib.hid (fun A1 c1 w' (h : Row w' A1 (pc ys)) (h1 : ys.length ≤ c1) (h2 : c1 ≤ maxLen) => show Calls Try.prog 11 #[jbV j, gpV no mark (.slice A1 ys.length c1), Itm.evV (kS ev.key) ev.at_ ev.val] w' (GivesT no mark zs ((n : Nat) : Int) 0 w') from by
    have h := gpTake j ⟨no, mark, ys⟩ ev A1 c1 w' h h1 h2
    rw [ho] at h; exact h)
  have HOF := Lib.hid (fun w' => show Calls Try.prog 28 #[.int .i64 j.size, .int .i64 j.slide, .int .i64 ev.at_] w' (GivesW ws w') from hws ▸ winOf j.size j.slide ev.at_ w')
  have B0 := Lib.hid ((Bx.start w j no mark (.slice A xs.length c)).next (al_below _ (.cells (Itm.evC (kS ev.key) ev.at_ ev.val) 28)))
  have E0 := Lib.hid (show EvAt (w.heap.size + 1 + 1) ev (((w.alloc (.cells (jbC j) 23)).alloc (.cells (gpC no mark (.slice A xs.length c)) 26)).alloc (.cells (Itm.evC (kS ev.key) ev.at_ ev.val) 28)) from lies_at (by simp) _ _)
  have HCL := Lib.hid (fun a b m w => closedB a b m w)
  have HX := Lib.hid hx
  have HN0 := Lib.hid hn0
  -- the ways
  have hway : (mark ≤ ev.at_ ∧ 0 < (n : Int) ∧ ((n : Int) != (ws.length : Int)) = false ∧ decide (x.2 ≤ mark) = false ∧ n ≠ 0) ∨ (¬ mark ≤ ev.at_ ∧ 0 < (n : Int) ∧ True ∧ decide (x.2 ≤ mark) = false ∧ n ≠ 0) ∨ (¬ mark ≤ ev.at_ ∧ n = 0 ∧ decide (x.2 ≤ mark) = true) := by
    by_cases h1 : mark ≤ ev.at_
    · have h2 := hall h1
      have h3 : n ≠ 0 := by omega
      exact .inl ⟨h1, by omega, nb0 (by omega), by rw [decide_eq_false_iff_not]; exact fun h => h3 (hlast.2 h), h3⟩
    · by_cases h3 : n = 0
      · exact .inr (.inr ⟨h1, h3, by rw [decide_eq_true_eq]; exact hlast.1 h3⟩)
      · exact .inr (.inl ⟨h1, by omega, trivial, by rw [decide_eq_false_iff_not]; exact fun h => h3 (hlast.2 h), h3⟩)
  have z1 : ((ws.length : Int) == 0) = false := ne_b (by omega)
  have z2 : ¬ ((ws.length : Int) < (n : Int)) := by omega
  have z3 : IntKind.i64.wrap ((ws.length : Int) - 1) = (k : Int) := by rw [wrap64_in (by omega) (by omega)]; omega
  have z4 : (0 : Int) ≤ k := by omega
  have z5 : (k : Int) < ws.length := by omega
  clear hA hl hc hys hok hj hg he t1 t2 t3 hgood hpos hall hle hws hx hlast hn0 hzs hn ho
  have HKL := Lib.hid hk
  clear hk
  have HZ3 := Lib.hid z3
  clear z3
  rcases hway with ⟨a1, a2, a3, a4, a5⟩ | ⟨a1, a2, a3, a4, a5⟩ | ⟨a1, a2, a4⟩
  all_goals
    first
    | (have HNZ := Lib.hid a5; have HCQ := Lib.hid (fun w => show Calls Try.prog 27 #[.agg #[.int .i64 x.1, .int .i64 x.2], .int .i64 mark] w (TellsB false w) from a4 ▸ closedB x.1 x.2 mark w); clear a5 a4)
    | (have HNZ := Lib.hid (HN0.out a2); have HCQ := Lib.hid (fun w => show Calls Try.prog 27 #[.agg #[.int .i64 x.1, .int .i64 x.2], .int .i64 mark] w (TellsB true w) from a4 ▸ closedB x.1 x.2 mark w); subst a2; clear a4)
    go_enter Try.func9, Try.ntmps9
    go_wp2_with fail
    refine (HF.out _ B0.out.below).mono ?_
    rintro e w1 ⟨A1, c1, rfl, l1, m1, R1, hb1⟩
    have B1 := Lib.hid (B0.out.next hb1)
    have E1 := Lib.hid (E0.out.next hb1)
    have L1 := Lib.hid (And.intro l1 m1)
    have R1' := Lib.hid (row_set3 R1 B1.out.gp (pc_big _) no mark (.slice A1 ys.length c1))
    have B2 := Lib.hid (B1.out.set3 no mark (.slice A1 ys.length c1))
    have E2 := Lib.hid (E1.out.set3 no mark (.slice A1 ys.length c1))
    obtain ⟨p0, p1, p2, p3, p4, p5, p6, p7⟩ := B1.out.jobs
    obtain ⟨g0, g1, g2⟩ := B1.out.gps
    obtain ⟨v0, v1, v2⟩ := E1.out.cells
    have f0 := B1.out.gp.free 0; have f1 := B1.out.gp.free 1; have f2 := B1.out.gp.free 2
    clear hb1 R1 l1 m1
    go_wp2_with fail
    refine (HC.out A1 c1 _ R1'.out L1.out.1 L1.out.2).mono ?_
    rintro e w3 ⟨A3, c3, rfl, l3, m3, R3, hb3⟩
    have B3 := Lib.hid (B2.out.next hb3)
    have E3 := Lib.hid (E2.out.next hb3)
    have R1 := Lib.hid (R1'.out.below hb3)
    have R3 := Lib.hid R3
    have L3 := Lib.hid (And.intro l3 m3)
    clear p0 p1 p2 p3 p4 p5 p6 p7 g0 g1 g2 f0 f1 f2 v0 v1 v2 hb3 l3 m3
    obtain ⟨p0, p1, p2, p3, p4, p5, p6, p7⟩ := B3.out.jobs
    obtain ⟨v0, v1, v2⟩ := E3.out.cells
    have q0 := lt_of_block B3.out.job; have q2 := lt_of_block E3.out
    have G := Lib.hid (GpAt.new w3 no mark (.slice A3 zs.length c3))
    go_wp2_with fail
    refine (HOF.out _).mono ?_
    rintro e w4 ⟨AW, cW, rfl, lW, mW, RW, hb4⟩
    have S := Lib.hid (show WhAt w j no mark ys A1 c1 w3.heap.size no mark zs A3 c3 AW ws w4 from
      ⟨(B3.out.next (al_below _ _)).next hb4, G.out.next hb4, (R1.out.below (al_below _ _)).below hb4, (R3.out.below (al_below _ _)).below hb4, RW⟩)
    have E4 := Lib.hid ((E3.out.next (al_below _ _)).next hb4)
    clear p0 p1 p2 p3 p4 p5 p6 p7 v0 v1 v2 q0 q2 hb4 lW mW RW
    obtain ⟨g0, g1, g2⟩ := S.out.bx.gps
    obtain ⟨v0, v1, v2⟩ := E4.out.cells
    go_wp2_with fail
    clear g0 g1 g2 v0 v1 v2
    have z3 := HZ3.out
    obtain ⟨bW, oW, rfl, _, _⟩ := S.out.rw.win HX.out
    have hys : ys.length ≤ 9223372036854775807 := by have := L1.out; unfold maxLen at this; omega
    first
    | (have b1 : 0 < n := by omega
       have b2 : decide (0 < n) = true := decide_eq_true b1
       have b3 : decide ((0 : Int) < n) = true := decide_eq_true a2
       have b4 : ((n : Int) == 0) = false := ne_b (by omega)
       have HL3 := Lib.hid (fun (w : World) (h : True) => True.intro))
    | have HL3 := Lib.hid (fun (w' : World) (h : WhAt w j no mark ys A1 c1 w3.heap.size no mark zs A3 c3 (some ⟨bW, oW, none⟩) ws w') => show Calls Try.prog 18 #[gpV no mark (.slice A3 zs.length c3), gpV no mark (.slice A1 ys.length c1)] w' (TellsB true w') from by
        have h3 := h.r3
        rw [HNZ.out] at h3 ⊢
        exact rfLike no mark ys hys A3 A1 c3 c1 w' h3 h.r1)
    clear hys
    refine wide_all (WhAt w j no mark ys A1 c1 w3.heap.size no mark zs A3 c3 (some ⟨bW, oW, none⟩) ws) (by kernel_rfl) (by kernel_rfl) (S.out.next (below_drewOf (Below.refl _ _))) ?_
    repeat (first
    | go_big_quiet_skip
    | (go_big_quiet_want
       apply wide_op
       · (intro w5 h5; obtain ⟨hB, hG, hr1, hr3, hrw⟩ := id h5; obtain ⟨g0, g1, g2⟩ := hB.gps; obtain ⟨x0, x1, x2⟩ := hG.cells; obtain ⟨_, _, e7, s0, s1⟩ := hrw.win HX.out; cases e7; clear hB hG hr1 hr3 hrw; go_simp; first | done | with_reducible rfl | (refine (lawAliveG _).mono ?_; rintro e w6 ⟨rfl, hb6⟩; exact ⟨rfl, h5.next hb6⟩) | (refine (HCQ.out _).mono ?_; rintro e w6 ⟨rfl, hb6⟩; exact ⟨rfl, h5.next hb6⟩) | (refine (HL3.out _ h5).mono ?_; rintro e w6 ⟨rfl, hb6⟩; exact ⟨rfl, h5.next hb6⟩))
       (try simp only [Act.put, List.setIfInBounds_toArray, List.set_cons_zero, List.set_cons_succ])
       go_big_quiet_on))
    refine wpQuiet_nil ?_
    intro w6 h6
    have B6 := Lib.hid h6.bx.below
    clear h6
    go_wp2_with fail
    go_ret
    exact ⟨rfl, B6.out⟩
theorem lawGroupWhole : Lift.Owes 9 [23, 26, 28] := by
  intro H enc W base args ds ps hval hA _ _
  obtain ⟨v0, v1, v2, d0, d1, d2, p0, p1, p2, rfl, rfl, rfl, h0, h1, h2⟩ := trodAll_three hA
  obtain ⟨j, rfl⟩ := openJob (hval 0 _ v0 rfl rfl) h0
  obtain ⟨no, mark, xs, A, c, rfl, hl, hc, hrow⟩ := openGroup (hval 1 _ v1 rfl rfl) h1
  obtain ⟨ev, rfl, hv⟩ := openEvG (hval 2 _ v2 rfl rfl) h2
  by_cases h : (takeR j ⟨no, mark, fewL xs⟩ ev).2.2 = 0
  · exact walkGroupWholeOk j no mark xs ev A c W hrow hl hc h
  · exact walkGroupWholeBad j no mark xs ev A c W hrow hl hc h
end Grp
theorem lawGroupWhole : Lift.Owes 9 [23, 26, 28] := Grp.lawGroupWhole
end Go.Proofs.Ythfbcfddfbipfaa
