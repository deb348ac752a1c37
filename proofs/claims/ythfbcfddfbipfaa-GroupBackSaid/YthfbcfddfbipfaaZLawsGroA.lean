/- The walk of the law GroupAdvances. -/
import Derived.Test.YthfbcfddfbipfaaZ29
import Derived.Test.YthfbcfddfbipfaaZ32
namespace Go.Proofs.Ythfbcfddfbipfaa
open Go.ChangeShapes Go.WideShapes Go.ChangeAt Go.RowKit
set_option linter.unusedVariables false
set_option maxRecDepth 8000
namespace Grp
open Pan (Pn Pl Rs resOf resO)
/-- What Advance hands back, taken apart. -/
def GivesA (no mark : Int) (zs : List Pn) (rs : List Rs) (er : Int) (w : World) (e : Ending) (w' : World) : Prop :=
  ∃ A c A' c', e = .returned (.tuple #[gpV no mark (.slice A zs.length c), .slice A' rs.length c', .int .i64 er]) ∧ zs.length ≤ c ∧ c ≤ maxLen ∧ rs.length ≤ c' ∧ c' ≤ maxLen ∧ Row w' A (pc zs) ∧ Row w' A' (rc rs) ∧ Below w.heap.size w w'
/-- The two blocks of a law's call: a job, a group. -/
structure Bx (w0 : World) (j : Jb) (no mark : Int) (sv : Value) (w : World) : Prop where
  job : Lies w0.heap.size (jbC j) 23 w
  gp : Lies (w0.heap.size + 1) (gpC no mark sv) 26 w
  below : Below w0.heap.size w0 w
theorem Bx.start (w : World) (j : Jb) (no mark : Int) (sv : Value) : Bx w j no mark sv ((w.alloc (.cells (jbC j) 23)).alloc (.cells (gpC no mark sv) 26)) where
  job := (Lies.new w _ _).al
  gp := lies_two _ _ _ _
  below := below_al (below_al (Below.refl _ _))
theorem Bx.next {w0 a c : World} {j : Jb} {no mark : Int} {sv : Value} (h : Bx w0 j no mark sv a) (hb : Below a.heap.size a c) : Bx w0 j no mark sv c where
  job := (hb.block _ (lt_of_block h.job)).trans h.job
  gp := (hb.block _ (lt_of_block h.gp)).trans h.gp
  below := below_next h.below hb
theorem Bx.set3 {w0 a : World} {j : Jb} {no mark : Int} {sv : Value} (h : Bx w0 j no mark sv a) (x y : Int) (v : Value) : Bx w0 j x y v (set3 a (w0.heap.size + 1) x y v) where
  job := ((h.job.other (by omega) _ _).other (by omega) _ _).other (by omega) _ _
  gp := Lies.set3 h.gp _ _ _
  below := below_set3 h.below (by omega) _ _ _
/-- The cells of the job. -/
theorem Bx.jobs {w0 w : World} {j : Jb} {no mark : Int} {sv : Value} (h : Bx w0 j no mark sv w) :
    w.cell? ⟨w0.heap.size, 0, none⟩ = some (.int .i64 j.groups) ∧ w.cell? ⟨w0.heap.size, 1, none⟩ = some (.int .i64 j.size) ∧ w.cell? ⟨w0.heap.size, 2, none⟩ = some (.int .i64 j.slide) ∧ w.cell? ⟨w0.heap.size, 3, none⟩ = some (.int .i64 j.fold) ∧
    w.cell? ⟨w0.heap.size, 4, none⟩ = some (.int .i64 j.fuel) ∧ w.cell? ⟨w0.heap.size, 5, none⟩ = some (.int .i64 j.limit) ∧ w.cell? ⟨w0.heap.size, 6, none⟩ = some (.int .i64 j.delay) ∧ w.cell? ⟨w0.heap.size, 7, none⟩ = some (.int .i64 j.idle) :=
  ⟨h.job.cell (j := 0) rfl, h.job.cell (j := 1) rfl, h.job.cell (j := 2) rfl, h.job.cell (j := 3) rfl, h.job.cell (j := 4) rfl, h.job.cell (j := 5) rfl, h.job.cell (j := 6) rfl, h.job.cell (j := 7) rfl⟩
theorem Bx.gps {w0 w : World} {j : Jb} {no mark : Int} {sv : Value} (h : Bx w0 j no mark sv w) :
    w.cell? ⟨w0.heap.size + 1, 0, none⟩ = some (.int .i64 no) ∧ w.cell? ⟨w0.heap.size + 1, 1, none⟩ = some (.int .i64 mark) ∧ w.cell? ⟨w0.heap.size + 1, 2, none⟩ = some sv :=
  ⟨h.gp.cell (j := 0) rfl, h.gp.cell (j := 1) rfl, h.gp.cell (j := 2) rfl⟩
/-- A group's block that was made on the way. -/
def GpAt (b : Nat) (no mark : Int) (sv : Value) (w : World) : Prop := Lies b (gpC no mark sv) 26 w
theorem GpAt.new (w : World) (no mark : Int) (sv : Value) : GpAt w.heap.size no mark sv (w.alloc (.cells (gpC no mark sv) 26)) := Lies.new w _ _
theorem GpAt.next {a c : World} {b : Nat} {no mark : Int} {sv : Value} (h : GpAt b no mark sv a) (hb : Below a.heap.size a c) : GpAt b no mark sv c := (hb.block _ (lt_of_block h)).trans h
theorem GpAt.cells {b : Nat} {w : World} {no mark : Int} {sv : Value} (h : GpAt b no mark sv w) :
    w.cell? ⟨b, 0, none⟩ = some (.int .i64 no) ∧ w.cell? ⟨b, 1, none⟩ = some (.int .i64 mark) ∧ w.cell? ⟨b, 2, none⟩ = some sv :=
  ⟨Lies.cell h (j := 0) rfl, Lies.cell h (j := 1) rfl, Lies.cell h (j := 2) rfl⟩
theorem al_below (w : World) (o : Obj) : Below w.heap.size w (w.alloc o) := below_al (Below.refl _ _)
set_option maxRecDepth 100000 in
set_option maxHeartbeats 4000000 in
theorem walkGroupAdvances (j : Jb) (no mark : Int) (xs : List Pn) (m : Int) (A : Option Addr) (c : Nat) (w : World) (hA : Row w A (pc xs)) (hl : xs.length ≤ c) (hc : c ≤ maxLen) :
    Calls Try.prog 4 #[jbV j, gpV no mark (.slice A xs.length c), .int .i64 m] w (TellsB true w) := by
  have HF := Lib.hid (fun w' (hb : Below w.heap.size w w') => lawFew no mark xs A c w' (hA.below hb) hl hc)
  obtain ⟨ys, hys⟩ : ∃ ys, ys = fewL xs := ⟨_, rfl⟩
  rw [← hys] at HF
  obtain ⟨⟨⟨no1, mark1, zs⟩, rs, er⟩, ho⟩ : ∃ o, o = advO j ⟨no, mark, ys⟩ m := ⟨_, rfl⟩
  have HC := Lib.hid (fun A1 c1 w' (h : Row w' A1 (pc ys)) (h1 : ys.length ≤ c1) (h2 : c1 ≤ maxLen) => show Calls Try.prog 19 #[jbV j, gpV no mark (.slice A1 ys.length c1), .int .i64 m] w' (GivesA no1 mark1 zs rs er w') from by
    have h := gpAdvance j ⟨no, mark, ys⟩ m A1 c1 w' h h1 h2
    rw [← ho] at h; exact h)
  have HR := Lib.hid (fun A1 c1 w' (h : Row w' A1 (pc ys)) (h1 : ys.length ≤ c1) (h2 : c1 ≤ maxLen) => show Calls Try.prog 20 #[jbV j, gpV no mark (.slice A1 ys.length c1), .int .i64 m] w' (GivesA no1 mark1 zs rs er w') from by
    have h := rfAdvance j ⟨no, mark, ys⟩ m A1 c1 w' h h1 h2
    rw [← ho] at h; exact h)
  have B0 := Lib.hid (Bx.start w j no mark (.slice A xs.length c))
  clear hA hl hc hys ho
  go_enter Try.func4, Try.ntmps4
  go_wp2_with fail
  refine (HF.out _ B0.out.below).mono ?_
  rintro e w1 ⟨A1, c1, rfl, l1, m1, R1, hb1⟩
  have B1 := Lib.hid (B0.out.next hb1)
  have L1 := Lib.hid (And.intro l1 m1)
  have R1' := Lib.hid (row_set3 R1 B1.out.gp (pc_big _) no mark (.slice A1 ys.length c1))
  have B2 := Lib.hid (B1.out.set3 no mark (.slice A1 ys.length c1))
  obtain ⟨p0, p1, p2, p3, p4, p5, p6, p7⟩ := B1.out.jobs
  obtain ⟨g0, g1, g2⟩ := B1.out.gps
  have f0 := B1.out.gp.free 0; have f1 := B1.out.gp.free 1; have f2 := B1.out.gp.free 2
  clear hb1 R1 l1 m1
  go_wp2_with fail
  refine (HC.out A1 c1 _ R1'.out L1.out.1 L1.out.2).mono ?_
  rintro e w3 ⟨A3, c3, A4, c4, rfl, l3, m3, l4, m4, R3, R4, hb3⟩
  have B3 := Lib.hid (B2.out.next hb3)
  have R1 := Lib.hid (R1'.out.below hb3)
  have R3 := Lib.hid R3; have R4 := Lib.hid R4
  have L3 := Lib.hid (And.intro l3 m3); have L4 := Lib.hid (And.intro l4 m4)
  clear p0 p1 p2 p3 p4 p5 p6 p7 g0 g1 g2 f0 f1 f2 hb3 l3 m3 l4 m4
  obtain ⟨p0, p1, p2, p3, p4, p5, p6, p7⟩ := B3.out.jobs
  obtain ⟨g0, g1, g2⟩ := B3.out.gps
  have q0 := lt_of_block B3.out.job; have q1 := lt_of_block B3.out.gp
  have G := Lib.hid (GpAt.new w3 no1 mark1 (.slice A3 zs.length c3))
  go_wp2_with fail
  refine (HR.out A1 c1 _ (R1.out.below (al_below _ _)) L1.out.1 L1.out.2).mono ?_
  rintro e w4 ⟨A5, c5, A6, c6, rfl, l5, m5, l6, m6, R5, R6, hb4⟩
  have B4 := Lib.hid ((B3.out.next (al_below _ _)).next hb4)
  have R3 := Lib.hid ((R3.out.below (al_below _ _)).below hb4); have R4 := Lib.hid ((R4.out.below (al_below _ _)).below hb4)
  have G := Lib.hid (G.out.next hb4)
  have R5 := Lib.hid R5; have R6 := Lib.hid R6
  have K := Lib.hid (GpAt.new w4 no1 mark1 (.slice A5 zs.length c5))
  clear p0 p1 p2 p3 p4 p5 p6 p7 g0 g1 g2 q0 q1 hb4 l5 m5 l6 m6
  go_wp2_with fail
  refine (lawAliveG _).mono ?_
  rintro e w5 ⟨rfl, hb5⟩
  have B5 := Lib.hid ((B4.out.next (al_below _ _)).next hb5)
  have R3 := Lib.hid ((R3.out.below (al_below _ _)).below hb5); have R4 := Lib.hid ((R4.out.below (al_below _ _)).below hb5)
  have R5 := Lib.hid ((R5.out.below (al_below _ _)).below hb5); have R6 := Lib.hid ((R6.out.below (al_below _ _)).below hb5)
  have G := Lib.hid ((G.out.next (al_below _ _)).next hb5)
  have K := Lib.hid (K.out.next hb5)
  obtain ⟨x0, x1, x2⟩ := G.out.cells
  obtain ⟨y0, y1, y2⟩ := K.out.cells
  have hz : zs.length ≤ 9223372036854775807 := by have := L3.out; unfold maxLen at this; omega
  have hz2 : rs.length ≤ 9223372036854775807 := by have := L4.out; unfold maxLen at this; omega
  have HL := Lib.hid (rfLike no1 mark1 zs hz)
  have HLR := Lib.hid (paLikeR rs hz2)
  clear hb5 hz hz2
  go_wp2_with fail
  refine (HL.out _ _ _ _ _ R3.out R5.out).mono ?_
  rintro e w6 ⟨rfl, hb6⟩
  have B6 := Lib.hid (B5.out.next hb6)
  have R4 := Lib.hid (R4.out.below hb6); have R6 := Lib.hid (R6.out.below hb6)
  clear hb6 x0 x1 x2 y0 y1 y2
  go_wp2_with fail
  refine (HLR.out _ _ _ _ _ R4.out R6.out).mono ?_
  rintro e w7 ⟨rfl, hb7⟩
  have B7 := Lib.hid (B6.out.next hb7)
  clear hb7
  go_wp2_with fail
  go_ret
  exact ⟨rfl, B7.out.below⟩
theorem lawGroupAdvances : Lift.Owes 4 [23, 26, 2] := by
  intro H enc W base args ds ps hval hA _ _
  obtain ⟨v0, v1, v2, d0, d1, d2, p0, p1, p2, rfl, rfl, rfl, h0, h1, h2⟩ := trodAll_three hA
  obtain ⟨j, rfl⟩ := openJob (hval 0 _ v0 rfl rfl) h0
  obtain ⟨no, mark, xs, A, c, rfl, hl, hc, hrow⟩ := openGroup (hval 1 _ v1 rfl rfl) h1
  obtain ⟨m, rfl, rfl, rfl, _⟩ := open_int Try.underlying2 (hval 2 _ v2 rfl rfl) h2
  exact walkGroupAdvances j no mark xs m A c W hrow hl hc
end Grp
theorem lawGroupAdvances : Lift.Owes 4 [23, 26, 2] := Grp.lawGroupAdvances
end Go.Proofs.Ythfbcfddfbipfaa
