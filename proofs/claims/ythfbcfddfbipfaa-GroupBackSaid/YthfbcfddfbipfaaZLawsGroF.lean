/- The walk of the law GroupBytes. -/
import Derived.Test.YthfbcfddfbipfaaZLawsGroA
import Derived.Test.YthfbcfddfbipfaaZ33
import Derived.Test.YthfbcfddfbipfaaZ35
import Derived.Test.YthfbcfddfbipfaaZ41
import Derived.Test.YthfbcfddfbipfaaZ40
namespace Go.Proofs.Ythfbcfddfbipfaa
open Go.ChangeShapes Go.WideShapes Go.ChangeAt Go.RowKit
set_option linter.unusedVariables false
set_option maxRecDepth 8000
namespace Grp
open Pan (Pn Pl)
/-- The block of a law's call: a group. -/
structure Gb (w0 : World) (no mark : Int) (sv : Value) (w : World) : Prop where
  gp : Lies w0.heap.size (gpC no mark sv) 26 w
  below : Below w0.heap.size w0 w
theorem Gb.start (w : World) (no mark : Int) (sv : Value) : Gb w no mark sv (w.alloc (.cells (gpC no mark sv) 26)) := ⟨Lies.new w _ _, below_al (Below.refl _ _)⟩
theorem Gb.next {w0 a c : World} {no mark : Int} {sv : Value} (h : Gb w0 no mark sv a) (hb : Below a.heap.size a c) : Gb w0 no mark sv c := ⟨(hb.block _ (lt_of_block h.gp)).trans h.gp, below_next h.below hb⟩
theorem Gb.set3 {w0 a : World} {no mark : Int} {sv : Value} (h : Gb w0 no mark sv a) (x y : Int) (v : Value) : Gb w0 x y v (set3 a w0.heap.size x y v) := ⟨Lies.set3 h.gp _ _ _, below_set3 h.below (Nat.le_refl _) _ _ _⟩
theorem Gb.gps {w0 w : World} {no mark : Int} {sv : Value} (h : Gb w0 no mark sv w) :
    w.cell? ⟨w0.heap.size, 0, none⟩ = some (.int .i64 no) ∧ w.cell? ⟨w0.heap.size, 1, none⟩ = some (.int .i64 mark) ∧ w.cell? ⟨w0.heap.size, 2, none⟩ = some sv :=
  ⟨h.gp.cell (j := 0) rfl, h.gp.cell (j := 1) rfl, h.gp.cell (j := 2) rfl⟩
/-- What Get hands back, taken apart. -/
def GivesGE3 (no mark : Int) (zs : List Pn) (er : Int) (w : World) (e : Ending) (w' : World) : Prop :=
  ∃ A c, e = .returned (.tuple #[gpV no mark (.slice A zs.length c), .int .i64 er]) ∧ zs.length ≤ c ∧ c ≤ maxLen ∧ Row w' A (pc zs) ∧ Below w.heap.size w w'
/-- All that the answers hang on. -/
structure GyAt (w0 : World) (no mark : Int) (ys : List Pn) (A1 : Option Addr) (c1 : Nat) (a b : Nat) (no1 mark1 : Int) (zs : List Pn) (A3 A5 : Option Addr) (c3 c5 : Nat) (w : World) : Prop where
  bx : Gb w0 no mark (.slice A1 ys.length c1) w
  ga : GpAt a no1 mark1 (.slice A3 zs.length c3) w
  gb : GpAt b no1 mark1 (.slice A5 zs.length c5) w
  r1 : Row w A1 (pc ys)
  r3 : Row w A3 (pc zs)
  r5 : Row w A5 (pc zs)
theorem GyAt.next {w0 : World} {no mark : Int} {ys : List Pn} {A1 : Option Addr} {c1 : Nat} {a b : Nat} {no1 mark1 : Int} {zs : List Pn} {A3 A5 : Option Addr} {c3 c5 : Nat} {w w' : World}
    (h : GyAt w0 no mark ys A1 c1 a b no1 mark1 zs A3 A5 c3 c5 w) (hb : Below w.heap.size w w') : GyAt w0 no mark ys A1 c1 a b no1 mark1 zs A3 A5 c3 c5 w' :=
  ⟨h.bx.next hb, h.ga.next hb, h.gb.next hb, h.r1.below hb, h.r3.below hb, h.r5.below hb⟩
theorem fewL_fits {xs : List Pn} (h : ∀ x ∈ xs, FitP x) : ∀ x ∈ fewL xs, FitP x := fewL_fit h
set_option maxRecDepth 100000 in
set_option maxHeartbeats 4000000 in
theorem walkGroupBytes (no mark : Int) (xs : List Pn) (s : ByteArray) (A : Option Addr) (c : Nat) (w : World) (hA : Row w A (pc xs)) (hl : xs.length ≤ c) (hc : c ≤ maxLen) (hf : ∀ x ∈ xs, FitP x) (hs : s.size ≤ 140737488355328) :
    Calls Try.prog 5 #[gpV no mark (.slice A xs.length c), .string s] w (TellsB true w) := by
  have HF := Lib.hid (fun w' (hb : Below w.heap.size w w') => lawFew no mark xs A c w' (hA.below hb) hl hc)
  have hfy := fewL_fits hf
  obtain ⟨ys, hys⟩ : ∃ ys, ys = fewL xs := ⟨_, rfl⟩
  rw [← hys] at HF hfy
  obtain ⟨⟨⟨no1, mark1, zs⟩, er⟩, ho⟩ : ∃ o, o = getG s := ⟨_, rfl⟩
  have HC := Lib.hid (fun w' => show Calls Try.prog 23 #[.string s] w' (GivesGE3 no1 mark1 zs (er : Nat) w') from by
    have h := gpGet s (by omega) w'
    rw [← ho] at h; exact h)
  have HR := Lib.hid (fun w' => show Calls Try.prog 24 #[.string s] w' (GivesGE3 no1 mark1 zs (er : Nat) w') from by
    have h := rfGetG s hs w'
    rw [← ho] at h; exact h)
  have B0 := Lib.hid (Gb.start w no mark (.slice A xs.length c))
  have b4 : ((er : Int) != (er : Int)) = false := nb0 rfl
  have hcase : (∃ l, right ⟨no, mark, ys⟩ = true ∧ l = gpB ⟨no, mark, ys⟩) ∨ (right ⟨no, mark, ys⟩ = false) := by
    cases h : right ⟨no, mark, ys⟩
    · exact .inr rfl
    · exact .inl ⟨_, rfl, rfl⟩
  rcases hcase with ⟨l, hr, hlB⟩ | hr
  · have HP := Lib.hid (fun A1 c1 w' (h : Row w' A1 (pc ys)) => show Calls Try.prog 22 #[gpV no mark (.slice A1 ys.length c1)] w' (IsStrErr l 0 w') from hlB ▸ gpPutOk ⟨no, mark, ys⟩ A1 c1 w' h hr hfy)
    have HY := Lib.hid (fun A1 c1 w' (h : Row w' A1 (pc ys)) => show Calls Try.prog 25 #[gpV no mark (.slice A1 ys.length c1)] w' (IsStr l w') from hlB ▸ rfBytesG ⟨no, mark, ys⟩ A1 c1 w' h hr hfy)
    have HR2 := Lib.hid (fun A1 c1 w' (h : Row w' A1 (pc ys)) (h1 : ys.length ≤ 9223372036854775807) => show Calls Try.prog 17 #[gpV no mark (.slice A1 ys.length c1)] w' (TellsB true w') from hr ▸ rfRight ⟨no, mark, ys⟩ A1 c1 w' h h1)
    have b5 : ((⟨l.toArray⟩ : ByteArray).toList == (⟨l.toArray⟩ : ByteArray).toList) = true := by simp
    clear hA hl hc hys ho hlB hr hfy hf hs
    go_enter Try.func5, Try.ntmps5
    go_wp2_with fail
    refine (HF.out _ B0.out.below).mono ?_
    rintro e w1 ⟨A1, c1, rfl, l1, m1, R1, hb1⟩
    have B1 := Lib.hid (B0.out.next hb1)
    have L1 := Lib.hid (And.intro l1 m1)
    have R1' := Lib.hid (row_set3 R1 B1.out.gp (pc_big _) no mark (.slice A1 ys.length c1))
    have B2 := Lib.hid (B1.out.set3 no mark (.slice A1 ys.length c1))
    obtain ⟨g0, g1, g2⟩ := B1.out.gps
    have f0 := B1.out.gp.free 0; have f1 := B1.out.gp.free 1; have f2 := B1.out.gp.free 2
    clear hb1 R1 l1 m1
    go_wp2_with fail
    refine (HP.out A1 c1 _ R1'.out).mono ?_
    rintro e w3 ⟨rfl, hb3⟩
    have B3 := Lib.hid (B2.out.next hb3)
    have R3' := Lib.hid (R1'.out.below hb3)
    clear g0 g1 g2 f0 f1 f2 hb3
    go_wp2_with fail
    refine (HC.out _).mono ?_
    rintro e w4 ⟨A3, c3, rfl, l3, m3, R3, hb4⟩
    have G4 := Lib.hid (GpAt.new w4 no1 mark1 (.slice A3 zs.length c3))
    have B4 := Lib.hid ((B3.out.next hb4).next (al_below w4 (.cells (gpC no1 mark1 (.slice A3 zs.length c3)) 26)))
    have R4 := Lib.hid ((R3'.out.below hb4).below (al_below w4 (.cells (gpC no1 mark1 (.slice A3 zs.length c3)) 26)))
    have R4z := Lib.hid (R3.below (al_below w4 (.cells (gpC no1 mark1 (.slice A3 zs.length c3)) 26)))
    have hz : zs.length ≤ 9223372036854775807 := by unfold maxLen at m3; omega
    have HL := Lib.hid (rfLike no1 mark1 zs hz)
    clear hb4 l3 m3 R3 hz
    go_wp2_with fail
    refine (HR.out _).mono ?_
    rintro e w5 ⟨A5, c5, rfl, l5, m5, R5, hb5⟩
    have S := Lib.hid (show GyAt w no mark ys A1 c1 w4.heap.size w5.heap.size no1 mark1 zs A3 A5 c3 c5 (w5.alloc (.cells (gpC no1 mark1 (.slice A5 zs.length c5)) 26)) from
      ⟨(B4.out.next hb5).next (al_below _ _), (G4.out.next hb5).next (al_below _ _), GpAt.new w5 _ _ _, (R4.out.below hb5).below (al_below _ _), (R4z.out.below hb5).below (al_below _ _), R5.below (al_below _ _)⟩)
    clear hb5 l5 m5 R5
    go_wp2_with fail
    refine (lawAliveG _).mono ?_
    rintro e w6 ⟨rfl, hb6⟩
    have S6 := Lib.hid (S.out.next hb6)
    obtain ⟨x0, x1, x2⟩ := S6.out.ga.cells
    obtain ⟨y0, y1, y2⟩ := S6.out.gb.cells
    clear hb6
    go_wp2_with fail
    refine (HL.out _ _ _ _ _ S6.out.r3 S6.out.r5).mono ?_
    rintro e w7 ⟨rfl, hb7⟩
    have S7 := Lib.hid (S6.out.next hb7)
    clear hb7 x0 x1 x2 y0 y1 y2
    obtain ⟨g0, g1, g2⟩ := S7.out.bx.gps
    go_wp2_with fail
    refine (HR2.out _ _ _ S7.out.r1 (by have := L1.out; unfold maxLen at this; omega)).mono ?_
    rintro e w8 ⟨rfl, hb8⟩
    have S8 := Lib.hid (S7.out.next hb8)
    clear hb8 g0 g1 g2
    obtain ⟨g0, g1, g2⟩ := S8.out.bx.gps
    go_wp2_with fail
    refine (HY.out _ _ _ S8.out.r1).mono ?_
    rintro e w9 ⟨rfl, hb9⟩
    have B9 := Lib.hid (below_next S8.out.bx.below hb9)
    clear hb9 g0 g1 g2
    go_wp2_with fail
    go_ret
    exact ⟨rfl, B9.out⟩
  · have HP := Lib.hid (fun A1 c1 w' (h : Row w' A1 (pc ys)) (h1 : ys.length ≤ 9223372036854775807) => show Calls Try.prog 22 #[gpV no mark (.slice A1 ys.length c1)] w' (IsStrErr [] 1 w') from gpPutBad ⟨no, mark, ys⟩ A1 c1 w' h h1 hr)
    have HR2 := Lib.hid (fun A1 c1 w' (h : Row w' A1 (pc ys)) (h1 : ys.length ≤ 9223372036854775807) => show Calls Try.prog 17 #[gpV no mark (.slice A1 ys.length c1)] w' (TellsB false w') from hr ▸ rfRight ⟨no, mark, ys⟩ A1 c1 w' h h1)
    clear hA hl hc hys ho hr hfy hf hs
    go_enter Try.func5, Try.ntmps5
    go_wp2_with fail
    refine (HF.out _ B0.out.below).mono ?_
    rintro e w1 ⟨A1, c1, rfl, l1, m1, R1, hb1⟩
    have B1 := Lib.hid (B0.out.next hb1)
    have L1 := Lib.hid (show ys.length ≤ 9223372036854775807 by unfold maxLen at m1; omega)
    have R1' := Lib.hid (row_set3 R1 B1.out.gp (pc_big _) no mark (.slice A1 ys.length c1))
    have B2 := Lib.hid (B1.out.set3 no mark (.slice A1 ys.length c1))
    obtain ⟨g0, g1, g2⟩ := B1.out.gps
    have f0 := B1.out.gp.free 0; have f1 := B1.out.gp.free 1; have f2 := B1.out.gp.free 2
    clear hb1 R1 l1 m1
    go_wp2_with fail
    refine (HP.out A1 c1 _ R1'.out L1.out).mono ?_
    rintro e w3 ⟨rfl, hb3⟩
    have B3 := Lib.hid (B2.out.next hb3)
    have R3' := Lib.hid (R1'.out.below hb3)
    clear g0 g1 g2 f0 f1 f2 hb3
    go_wp2_with fail
    refine (HC.out _).mono ?_
    rintro e w4 ⟨A3, c3, rfl, l3, m3, R3, hb4⟩
    have G4 := Lib.hid (GpAt.new w4 no1 mark1 (.slice A3 zs.length c3))
    have B4 := Lib.hid ((B3.out.next hb4).next (al_below w4 (.cells (gpC no1 mark1 (.slice A3 zs.length c3)) 26)))
    have R4 := Lib.hid ((R3'.out.below hb4).below (al_below w4 (.cells (gpC no1 mark1 (.slice A3 zs.length c3)) 26)))
    have R4z := Lib.hid (R3.below (al_below w4 (.cells (gpC no1 mark1 (.slice A3 zs.length c3)) 26)))
    have hz : zs.length ≤ 9223372036854775807 := by unfold maxLen at m3; omega
    have HL := Lib.hid (rfLike no1 mark1 zs hz)
    clear hb4 l3 m3 R3 hz
    go_wp2_with fail
    refine (HR.out _).mono ?_
    rintro e w5 ⟨A5, c5, rfl, l5, m5, R5, hb5⟩
    have S := Lib.hid (show GyAt w no mark ys A1 c1 w4.heap.size w5.heap.size no1 mark1 zs A3 A5 c3 c5 (w5.alloc (.cells (gpC no1 mark1 (.slice A5 zs.length c5)) 26)) from
      ⟨(B4.out.next hb5).next (al_below _ _), (G4.out.next hb5).next (al_below _ _), GpAt.new w5 _ _ _, (R4.out.below hb5).below (al_below _ _), (R4z.out.below hb5).below (al_below _ _), R5.below (al_below _ _)⟩)
    clear hb5 l5 m5 R5
    go_wp2_with fail
    refine (lawAliveG _).mono ?_
    rintro e w6 ⟨rfl, hb6⟩
    have S6 := Lib.hid (S.out.next hb6)
    obtain ⟨x0, x1, x2⟩ := S6.out.ga.cells
    obtain ⟨y0, y1, y2⟩ := S6.out.gb.cells
    clear hb6
    go_wp2_with fail
    refine (HL.out _ _ _ _ _ S6.out.r3 S6.out.r5).mono ?_
    rintro e w7 ⟨rfl, hb7⟩
    have S7 := Lib.hid (S6.out.next hb7)
    clear hb7 x0 x1 x2 y0 y1 y2
    obtain ⟨g0, g1, g2⟩ := S7.out.bx.gps
    go_wp2_with fail
    refine (HR2.out _ _ _ S7.out.r1 L1.out).mono ?_
    rintro e w8 ⟨rfl, hb8⟩
    have B8 := Lib.hid (below_next S7.out.bx.below hb8)
    clear hb8 g0 g1 g2
    go_wp2_with fail
    go_ret
    exact ⟨rfl, B8.out⟩
theorem lawGroupBytes : Lift.Owes 5 [26, 9] := by
  intro H enc W base args ds ps hval hA _ hw
  obtain ⟨v0, v1, d0, d1, p0, p1, rfl, rfl, rfl, h0, h1⟩ := trodAll_two hA
  obtain ⟨no, mark, xs, A, c, rfl, hl, hc, hrow, hf⟩ := openGroupF (hval 0 _ v0 rfl rfl) h0
  obtain ⟨s, rfl, rfl, rfl, ws⟩ := ChangeMaps.open_string Try.underlying9 (hval 1 _ v1 rfl rfl) h1
  have hs : s.size ≤ 140737488355328 := by
    have h := sized_string hw (j := 1) rfl rfl
    rw [Lib.size_eq]
    unfold reachBytes at h
    omega
  exact walkGroupBytes no mark xs s A c W hrow hl hc hf hs
end Grp
theorem lawGroupBytes : Lift.Owes 5 [26, 9] := Grp.lawGroupBytes
end Go.Proofs.Ythfbcfddfbipfaa
