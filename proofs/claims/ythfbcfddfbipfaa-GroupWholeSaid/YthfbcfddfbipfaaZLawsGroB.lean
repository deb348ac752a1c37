/- The walk of the law GroupTakes. -/
import Derived.Test.YthfbcfddfbipfaaZLawsGroA
import Derived.Test.YthfbcfddfbipfaaZ31
import Derived.Test.YthfbcfddfbipfaaZ32
import Derived.Test.YthfbcfddfbipfaaZ5
namespace Go.Proofs.Ythfbcfddfbipfaa
open Go.ChangeShapes Go.WideShapes Go.ChangeAt Go.RowKit
set_option linter.unusedVariables false
set_option maxRecDepth 8000
namespace Grp
open Pan (Pn Pl)
section
variable {H : Type} {enc : TypeId × Value → H} {w : World} {base : Nat} {spare : Nat → Bool} {held : Bool}
/-- An event that came in. -/
theorem openEvG {r : Reach} {b0 : Nat} {v : Value} {d : DataW H} {p : List MemPlace} (hv : Value.okWide Try.prog w r b0 28 v) (h : DataW.Trod enc Try.prog w base spare held 28 v d p) :
    ∃ e : Ev, v = Itm.evV (kS e.key) e.at_ e.val ∧ -9223372036854775808 ≤ e.val ∧ e.val ≤ 9223372036854775807 := by
  obtain ⟨cs, rfl, hsz⟩ := okWide_struct Try.underlying28 hv
  obtain ⟨l⟩ := cs
  match l, hsz.trans cells_ev with
  | [c0, c1, c2], _ =>
    obtain ⟨fuel, hf⟩ := h
    obtain ⟨k, a, v, rfl, rfl, rfl, h1, h2⟩ := trod_ev (by simpa [Value.cells] using hf)
    exact ⟨⟨k.toList, a, v⟩, by rw [kS_of], h1, h2⟩
end
/-- What Take hands back, taken apart. -/
def GivesT (no mark : Int) (zs : List Pn) (n er : Int) (w : World) (e : Ending) (w' : World) : Prop :=
  ∃ A c, e = .returned (.tuple #[gpV no mark (.slice A zs.length c), .int .i64 n, .int .i64 er]) ∧ zs.length ≤ c ∧ c ≤ maxLen ∧ Row w' A (pc zs) ∧ Below w.heap.size w w'
/-- An event's block. -/
def EvAt (b : Nat) (e : Ev) (w : World) : Prop := Lies b (Itm.evC (kS e.key) e.at_ e.val) 28 w
theorem EvAt.next {a c : World} {b : Nat} {e : Ev} (h : EvAt b e a) (hb : Below a.heap.size a c) : EvAt b e c := (hb.block _ (lt_of_block h)).trans h
theorem EvAt.cells {b : Nat} {e : Ev} {w : World} (h : EvAt b e w) : w.cell? ⟨b, 0, none⟩ = some (.string (kS e.key)) ∧ w.cell? ⟨b, 1, none⟩ = some (.int .i64 e.at_) ∧ w.cell? ⟨b, 2, none⟩ = some (.int .i64 e.val) :=
  ⟨Lies.cell h (j := 0) rfl, Lies.cell h (j := 1) rfl, Lies.cell h (j := 2) rfl⟩
theorem EvAt.set3 {w0 a : World} {e : Ev} (h : EvAt (w0.heap.size + 1 + 1) e a) (x y : Int) (v : Value) : EvAt (w0.heap.size + 1 + 1) e (set3 a (w0.heap.size + 1) x y v) := ((Lies.other h (by omega) _ _).other (by omega) _ _).other (by omega) _ _
/-- All that the answers of a law on two groups hang on. -/
structure LkAt (w0 : World) (j : Jb) (no mark : Int) (ys : List Pn) (A1 : Option Addr) (c1 : Nat) (a b : Nat) (no1 mark1 : Int) (zs : List Pn) (A3 A5 : Option Addr) (c3 c5 : Nat) (w : World) : Prop where
  bx : Bx w0 j no mark (.slice A1 ys.length c1) w
  ga : GpAt a no1 mark1 (.slice A3 zs.length c3) w
  gb : GpAt b no1 mark1 (.slice A5 zs.length c5) w
  r1 : Row w A1 (pc ys)
  r3 : Row w A3 (pc zs)
  r5 : Row w A5 (pc zs)
theorem LkAt.next {w0 : World} {j : Jb} {no mark : Int} {ys : List Pn} {A1 : Option Addr} {c1 : Nat} {a b : Nat} {no1 mark1 : Int} {zs : List Pn} {A3 A5 : Option Addr} {c3 c5 : Nat} {w w' : World}
    (h : LkAt w0 j no mark ys A1 c1 a b no1 mark1 zs A3 A5 c3 c5 w) (hb : Below w.heap.size w w') : LkAt w0 j no mark ys A1 c1 a b no1 mark1 zs A3 A5 c3 c5 w' :=
  ⟨h.bx.next hb, h.ga.next hb, h.gb.next hb, h.r1.below hb, h.r3.below hb, h.r5.below hb⟩
set_option maxRecDepth 100000 in
set_option maxHeartbeats 4000000 in
theorem walkGroupTakes (j : Jb) (no mark : Int) (xs : List Pn) (ev : Ev) (A : Option Addr) (c : Nat) (w : World) (hA : Row w A (pc xs)) (hl : xs.length ≤ c) (hc : c ≤ maxLen) (hv : -9223372036854775808 ≤ ev.val ∧ ev.val ≤ 9223372036854775807) :
    Calls Try.prog 3 #[jbV j, gpV no mark (.slice A xs.length c), Itm.evV (kS ev.key) ev.at_ ev.val] w (TellsB true w) := by
  have HF := Lib.hid (fun w' (hb : Below w.heap.size w w') => lawFew no mark xs A c w' (hA.below hb) hl hc)
  obtain ⟨ys, hys⟩ : ∃ ys, ys = fewL xs := ⟨_, rfl⟩
  rw [← hys] at HF
  obtain ⟨⟨⟨no1, mark1, zs⟩, n, er⟩, ho⟩ : ∃ o, o = takeR j ⟨no, mark, ys⟩ ev := ⟨_, rfl⟩
  have HC := Lib.hid (fun A1 c1 w' (h : Row w' A1 (pc ys)) (h1 : ys.length ≤ c1) (h2 : c1 ≤ maxLen) => show Calls Try.prog 11 #[jbV j, gpV no mark (.slice A1 ys.length c1), Itm.evV (kS ev.key) ev.at_ ev.val] w' (GivesT no1 mark1 zs n er w') from by
    have h := gpTake j ⟨no, mark, ys⟩ ev A1 c1 w' h h1 h2
    rw [← ho] at h; exact h)
  have HR := Lib.hid (fun A1 c1 w' (h : Row w' A1 (pc ys)) (h1 : ys.length ≤ c1) (h2 : c1 ≤ maxLen) => show Calls Try.prog 12 #[jbV j, gpV no mark (.slice A1 ys.length c1), Itm.evV (kS ev.key) ev.at_ ev.val] w' (GivesT no1 mark1 zs n er w') from by
    have h := rfTake j ⟨no, mark, ys⟩ ev A1 c1 w' h h1 h2 hv
    rw [← ho] at h; exact h)
  have B0 := Lib.hid ((Bx.start w j no mark (.slice A xs.length c)).next (al_below _ (.cells (Itm.evC (kS ev.key) ev.at_ ev.val) 28)))
  have E0 := Lib.hid (show EvAt (w.heap.size + 1 + 1) ev (((w.alloc (.cells (jbC j) 23)).alloc (.cells (gpC no mark (.slice A xs.length c)) 26)).alloc (.cells (Itm.evC (kS ev.key) ev.at_ ev.val) 28)) from lies_at (by simp) _ _)
  obtain ⟨jb, hjb⟩ : ∃ b, b = jobOk j := ⟨_, rfl⟩
  obtain ⟨rb, hrb⟩ : ∃ b, b = right ⟨no, mark, ys⟩ := ⟨_, rfl⟩
  have HJ1 := Lib.hid (fun w' => gpJob j w')
  have HJ2 := Lib.hid (fun w' => rfJob j w')
  have HR1 := Lib.hid (fun A1 c1 w' (h : Row w' A1 (pc ys)) (h1 : ys.length ≤ 9223372036854775807) => show Calls Try.prog 16 #[gpV no mark (.slice A1 ys.length c1)] w' (TellsB rb w') from hrb ▸ gpRight ⟨no, mark, ys⟩ A1 c1 w' h h1)
  have HR2 := Lib.hid (fun A1 c1 w' (h : Row w' A1 (pc ys)) (h1 : ys.length ≤ 9223372036854775807) => show Calls Try.prog 17 #[gpV no mark (.slice A1 ys.length c1)] w' (TellsB rb w') from hrb ▸ rfRight ⟨no, mark, ys⟩ A1 c1 w' h h1)
  rw [← hjb] at HJ1 HJ2
  have b1 : (jb == jb) = true := by cases jb <;> rfl
  have b2 : (rb == rb) = true := by cases rb <;> rfl
  have b3 : (n == n) = true := eq_b rfl
  have b4 : (er == er) = true := eq_b rfl
  clear hA hl hc hys ho hv hjb hrb
  go_enter Try.func3, Try.ntmps3
  go_wp2_with fail
  refine (HF.out _ B0.out.below).mono ?_
  rintro e w1 ⟨A1, c1, rfl, l1, m1, R1, hb1⟩
  have B1 := Lib.hid (B0.out.next hb1)
  have E1 := Lib.hid (E0.out.next hb1)
  have L1 := Lib.hid (And.intro l1 m1)
  have R1' := Lib.hid (row_set3 R1 B1.out.gp (pc_big _) no mark (.slice A1 ys.length c1))
  have B2 := Lib.hid (B1.out.set3 no mark (.slice A1 ys.length c1))
  have E2 := Lib.hid (E1.out.set3 no mark (.slice A1 ys.length c1))
  obtain ⟨p0, p1, p2, p3, p4, p5, p6, p7⟩ := B1.out.jobs
  obtain ⟨g0, g1, g2⟩ := B1.out.gps
  obtain ⟨v0, v1, v2⟩ := E1.out.cells
  have f0 := B1.out.gp.free 0; have f1 := B1.out.gp.free 1; have f2 := B1.out.gp.free 2
  clear hb1 R1 l1 m1
  go_wp2_with fail
  refine (HC.out A1 c1 _ R1'.out L1.out.1 L1.out.2).mono ?_
  rintro e w3 ⟨A3, c3, rfl, l3, m3, R3, hb3⟩
  have B3 := Lib.hid (B2.out.next hb3)
  have E3 := Lib.hid (E2.out.next hb3)
  have R1 := Lib.hid (R1'.out.below hb3)
  have R3 := Lib.hid R3
  have L3 := Lib.hid (And.intro l3 m3)
  clear p0 p1 p2 p3 p4 p5 p6 p7 g0 g1 g2 f0 f1 f2 v0 v1 v2 hb3 l3 m3
  obtain ⟨p0, p1, p2, p3, p4, p5, p6, p7⟩ := B3.out.jobs
  obtain ⟨g0, g1, g2⟩ := B3.out.gps
  obtain ⟨v0, v1, v2⟩ := E3.out.cells
  have q0 := lt_of_block B3.out.job; have q1 := lt_of_block B3.out.gp; have q2 := lt_of_block E3.out
  have G := Lib.hid (GpAt.new w3 no1 mark1 (.slice A3 zs.length c3))
  go_wp2_with fail
  refine (HR.out A1 c1 _ (R1.out.below (al_below _ _)) L1.out.1 L1.out.2).mono ?_
  rintro e w4 ⟨A5, c5, rfl, l5, m5, R5, hb4⟩
  have S := Lib.hid (show LkAt w j no mark ys A1 c1 w3.heap.size w4.heap.size no1 mark1 zs A3 A5 c3 c5 (w4.alloc (.cells (gpC no1 mark1 (.slice A5 zs.length c5)) 26)).drew from
    ⟨((B3.out.next (al_below _ _)).next hb4).next (below_drewOf (al_below _ _)), (G.out.next hb4).next (below_drewOf (al_below _ _)), (GpAt.new w4 no1 mark1 (.slice A5 zs.length c5)).next (below_drewOf (Below.refl _ _)),
      ((R1.out.below (al_below _ _)).below hb4).below (below_drewOf (al_below _ _)), ((R3.out.below (al_below _ _)).below hb4).below (below_drewOf (al_below _ _)), R5.below (below_drewOf (al_below _ _))⟩)
  have hy : ys.length ≤ 9223372036854775807 := by have := L1.out; unfold maxLen at this; omega
  have hz : zs.length ≤ 9223372036854775807 := by have := L3.out; unfold maxLen at this; omega
  have HY := Lib.hid hy
  have HL := Lib.hid (rfLike no1 mark1 zs hz)
  clear p0 p1 p2 p3 p4 p5 p6 p7 g0 g1 g2 q0 q1 q2 v0 v1 v2 hb4 l5 m5 hy hz R5
  go_wp2_with fail
  refine wide_all (LkAt w j no mark ys A1 c1 w3.heap.size w4.heap.size no1 mark1 zs A3 A5 c3 c5) (by kernel_rfl) (by kernel_rfl) S.out ?_
  repeat (first
  | go_big_quiet_skip
  | (go_big_quiet_want
     apply wide_op
     · (intro w5 h5; obtain ⟨hB, hG, hK, hr1, hr3, hr5⟩ := id h5; obtain ⟨p0, p1, p2, p3, p4, p5, p6, p7⟩ := hB.jobs; obtain ⟨g0, g1, g2⟩ := hB.gps; obtain ⟨x0, x1, x2⟩ := hG.cells; obtain ⟨y0, y1, y2⟩ := hK.cells; clear hB hG hK hr1 hr3 hr5; go_simp; first | done | with_reducible rfl | (refine (lawAliveG _).mono ?_; rintro e w6 ⟨rfl, hb6⟩; exact ⟨rfl, h5.next hb6⟩) | (refine (HJ1.out _).mono ?_; rintro e w6 ⟨rfl, hb6⟩; exact ⟨rfl, h5.next hb6⟩) | (refine (HJ2.out _).mono ?_; rintro e w6 ⟨rfl, hb6⟩; exact ⟨rfl, h5.next hb6⟩) | (refine (HR1.out _ _ _ h5.r1 HY.out).mono ?_; rintro e w6 ⟨rfl, hb6⟩; exact ⟨rfl, h5.next hb6⟩) | (refine (HR2.out _ _ _ h5.r1 HY.out).mono ?_; rintro e w6 ⟨rfl, hb6⟩; exact ⟨rfl, h5.next hb6⟩) | (refine (HL.out _ _ _ _ _ h5.r3 h5.r5).mono ?_; rintro e w6 ⟨rfl, hb6⟩; exact ⟨rfl, h5.next hb6⟩))
     (try simp only [Act.put, List.setIfInBounds_toArray, List.set_cons_zero, List.set_cons_succ])
     go_big_quiet_on))
  refine wpQuiet_nil ?_
  intro w6 h6
  have B6 := Lib.hid h6.bx.below
  clear h6
  go_wp2_with fail
  go_ret
  exact ⟨rfl, B6.out⟩
theorem lawGroupTakes : Lift.Owes 3 [23, 26, 28] := by
  intro H enc W base args ds ps hval hA _ _
  obtain ⟨v0, v1, v2, d0, d1, d2, p0, p1, p2, rfl, rfl, rfl, h0, h1, h2⟩ := trodAll_three hA
  obtain ⟨j, rfl⟩ := openJob (hval 0 _ v0 rfl rfl) h0
  obtain ⟨no, mark, xs, A, c, rfl, hl, hc, hrow⟩ := openGroup (hval 1 _ v1 rfl rfl) h1
  obtain ⟨ev, rfl, hv⟩ := openEvG (hval 2 _ v2 rfl rfl) h2
  exact walkGroupTakes j no mark xs ev A c W hrow hl hc hv
end Grp
theorem lawGroupTakes : Lift.Owes 3 [23, 26, 28] := Grp.lawGroupTakes
end Go.Proofs.Ythfbcfddfbipfaa
