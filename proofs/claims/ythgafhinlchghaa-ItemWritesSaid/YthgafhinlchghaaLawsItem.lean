/- The walks of the item laws on which items may be, and on what is written: each returns true, whatever the input. -/
import Derived.Test.YthgafhinlchghaaItemBytes
import Derived.Test.YthgafhinlchghaaItemOkRef
import Derived.Test.YthgafhinlchghaaLawsItemA
namespace Go.Proofs.Ythgafhinlchghaa
open Go.ChangeShapes Go.WideShapes Go.ChangeAt Go.RowKit
open Itm Vlq
set_option linter.unusedVariables false
theorem tells_of {b : Bool} {o : Obj} {w : World} {f : FuncId} {args : Array Value} (h : Calls Try.prog f args w (TellsA b o w)) : Calls Try.prog f args w (Tells b w) :=
  h.mono fun _ _ ⟨a, c⟩ => ⟨a, c ▸ below_al (Below.refl _ _)⟩
theorem keepB14 {W a b : World} {p0 p1 p2 p3 p4 p5 p6 p7 p8 p9 p10 p11 p12 p13 : Addr} {u0 u1 u2 u3 u4 u5 u6 u7 u8 u9 u10 u11 u12 u13 : Value} (hb : Below a.heap.size a b) (h : a.cell? p0 = some u0 ∧ a.cell? p1 = some u1 ∧ a.cell? p2 = some u2 ∧ a.cell? p3 = some u3 ∧ a.cell? p4 = some u4 ∧ a.cell? p5 = some u5 ∧ a.cell? p6 = some u6 ∧ a.cell? p7 = some u7 ∧ a.cell? p8 = some u8 ∧ a.cell? p9 = some u9 ∧ a.cell? p10 = some u10 ∧ a.cell? p11 = some u11 ∧ a.cell? p12 = some u12 ∧ a.cell? p13 = some u13 ∧ Below W.heap.size W a) : b.cell? p0 = some u0 ∧ b.cell? p1 = some u1 ∧ b.cell? p2 = some u2 ∧ b.cell? p3 = some u3 ∧ b.cell? p4 = some u4 ∧ b.cell? p5 = some u5 ∧ b.cell? p6 = some u6 ∧ b.cell? p7 = some u7 ∧ b.cell? p8 = some u8 ∧ b.cell? p9 = some u9 ∧ b.cell? p10 = some u10 ∧ b.cell? p11 = some u11 ∧ b.cell? p12 = some u12 ∧ b.cell? p13 = some u13 ∧ Below W.heap.size W b :=
  ⟨keep1 hb h.1, keep1 hb h.2.1, keep1 hb h.2.2.1, keep1 hb h.2.2.2.1, keep1 hb h.2.2.2.2.1, keep1 hb h.2.2.2.2.2.1, keep1 hb h.2.2.2.2.2.2.1, keep1 hb h.2.2.2.2.2.2.2.1, keep1 hb h.2.2.2.2.2.2.2.2.1, keep1 hb h.2.2.2.2.2.2.2.2.2.1, keep1 hb h.2.2.2.2.2.2.2.2.2.2.1, keep1 hb h.2.2.2.2.2.2.2.2.2.2.2.1, keep1 hb h.2.2.2.2.2.2.2.2.2.2.2.2.1, keep1 hb h.2.2.2.2.2.2.2.2.2.2.2.2.2.1, below_next h.2.2.2.2.2.2.2.2.2.2.2.2.2.2 hb⟩
theorem two_new (a : It) (k : ByteArray) (x y : Int) (w : World) (t u : TypeId) : Box w.heap.size a ((w.alloc (.cells (itC a) t)).alloc (.cells (evC k x y) u)) ∧
    (∀ (j : Nat) (v : Value), (evC k x y)[j]? = some v → ((w.alloc (.cells (itC a) t)).alloc (.cells (evC k x y) u)).cell? ⟨w.heap.size + 1, j, none⟩ = some v) := by
  refine ⟨(box_new a w t).keep (below_al (Below.refl _ _)), fun j v hv => ?_⟩
  unfold World.cell?
  have h := heap_alloc_new (w.alloc (.cells (itC a) t)) (.cells (evC k x y) u)
  rw [show (w.alloc (.cells (itC a) t)).heap.size = w.heap.size + 1 from by simp] at h
  rw [h]
  exact hv
set_option maxHeartbeats 1000000 in
theorem walkItemRights (a : It) (k : ByteArray) (x y : Int) (w : World) : Calls Try.prog 3 #[itV a, evV k x y] w (Yes w) := by
  have HA := Lib.hid (fun w => itAlive w)
  have HR := Lib.hid (fun w => itRight a w)
  have HF := Lib.hid (fun w => rfRight a w)
  have HE := Lib.hid (fun w => tells_of (itEvent k x y w))
  have HG := Lib.hid (fun w => tells_of (rfEvent k x y w))
  have hN := Lib.hid (two_new a k x y w 29 23)
  have hB := Lib.hid (below_al (o := .cells (evC k x y) 23) (below_al (o := .cells (itC a) 29) (Below.refl w.heap.size w)))
  go_enter Try.func3, Try.ntmps3
  go_wp2_with fail
  generalize (w.alloc (.cells (itC a) 29)).alloc (.cells (evC k x y) 23) = w1 at hN hB ⊢
  have S0 : w1.drew.cell? ⟨w.heap.size, 0, none⟩ = some (.int .i64 a.k) ∧ w1.drew.cell? ⟨w.heap.size, 1, none⟩ = some (.string a.ek) ∧ w1.drew.cell? ⟨w.heap.size, 2, none⟩ = some (.int .i64 a.ea) ∧ w1.drew.cell? ⟨w.heap.size, 3, none⟩ = some (.int .i64 a.ev) ∧ w1.drew.cell? ⟨w.heap.size, 4, none⟩ = some (.int .i64 a.m) ∧ w1.drew.cell? ⟨w.heap.size, 5, none⟩ = some (.int .i64 a.n) ∧ w1.drew.cell? ⟨w.heap.size, 6, none⟩ = some (.int .i64 a.lo) ∧ w1.drew.cell? ⟨w.heap.size, 7, none⟩ = some (.int .i64 a.hi) ∧ w1.drew.cell? ⟨w.heap.size, 8, none⟩ = some (.string a.rk) ∧ w1.drew.cell? ⟨w.heap.size, 9, none⟩ = some (.int .i64 a.rn) ∧ w1.drew.cell? ⟨w.heap.size, 10, none⟩ = some (.int .i64 a.rv) ∧ w1.drew.cell? ⟨w.heap.size + 1, 0, none⟩ = some (.string k) ∧ w1.drew.cell? ⟨w.heap.size + 1, 1, none⟩ = some (.int .i64 x) ∧ w1.drew.cell? ⟨w.heap.size + 1, 2, none⟩ = some (.int .i64 y) ∧ Below w.heap.size w w1.drew := ⟨hN.out.1 0 _ rfl, hN.out.1 1 _ rfl, hN.out.1 2 _ rfl, hN.out.1 3 _ rfl, hN.out.1 4 _ rfl, hN.out.1 5 _ rfl, hN.out.1 6 _ rfl, hN.out.1 7 _ rfl, hN.out.1 8 _ rfl, hN.out.1 9 _ rfl, hN.out.1 10 _ rfl, hN.out.2 0 _ rfl, hN.out.2 1 _ rfl, hN.out.2 2 _ rfl, below_drewOf hB.out⟩
  go_region_held3 (fun w' => w'.cell? ⟨w.heap.size, 0, none⟩ = some (.int .i64 a.k) ∧ w'.cell? ⟨w.heap.size, 1, none⟩ = some (.string a.ek) ∧ w'.cell? ⟨w.heap.size, 2, none⟩ = some (.int .i64 a.ea) ∧ w'.cell? ⟨w.heap.size, 3, none⟩ = some (.int .i64 a.ev) ∧ w'.cell? ⟨w.heap.size, 4, none⟩ = some (.int .i64 a.m) ∧ w'.cell? ⟨w.heap.size, 5, none⟩ = some (.int .i64 a.n) ∧ w'.cell? ⟨w.heap.size, 6, none⟩ = some (.int .i64 a.lo) ∧ w'.cell? ⟨w.heap.size, 7, none⟩ = some (.int .i64 a.hi) ∧ w'.cell? ⟨w.heap.size, 8, none⟩ = some (.string a.rk) ∧ w'.cell? ⟨w.heap.size, 9, none⟩ = some (.int .i64 a.rn) ∧ w'.cell? ⟨w.heap.size, 10, none⟩ = some (.int .i64 a.rv) ∧ w'.cell? ⟨w.heap.size + 1, 0, none⟩ = some (.string k) ∧ w'.cell? ⟨w.heap.size + 1, 1, none⟩ = some (.int .i64 x) ∧ w'.cell? ⟨w.heap.size + 1, 2, none⟩ = some (.int .i64 y) ∧ Below w.heap.size w w')
    (first | assumption | exact keepB14 hb5 (by assumption))
    ((first | (go_at_call 9; refine (HA.out _).mono ?_; rintro e w5 ⟨rfl, hb5⟩) | (go_at_call 10; refine (HR.out _).mono ?_; rintro e w5 ⟨rfl, hb5⟩) | (go_at_call 11; refine (HF.out _).mono ?_; rintro e w5 ⟨rfl, hb5⟩) | (go_at_call 12; refine (HE.out _).mono ?_; rintro e w5 ⟨rfl, hb5⟩) | (go_at_call 13; refine (HG.out _).mono ?_; rintro e w5 ⟨rfl, hb5⟩)))
  rename_i hs
  have hb6 := hs.2.2.2.2.2.2.2.2.2.2.2.2.2.2
  clear hs
  go_wp2_with fail
  go_ret
  exact ⟨by simp, hb6⟩
theorem lawItemRights : Lift.Owes 3 [29, 23] := by
  intro H enc W base args ds ps hval hA _ _
  obtain ⟨v0, v1, d0, d1, p0, p1, rfl, rfl, rfl, h0, h1⟩ := trodAll_two hA
  obtain ⟨a, rfl, hf⟩ := openItem (hval 0 _ v0 rfl rfl) h0
  obtain ⟨k, x, y, rfl⟩ := openEvent (hval 1 _ v1 rfl rfl) h1
  exact walkItemRights a k x y W
theorem writes_not (a : It) (h : right a = false) (w : World) : Calls Try.prog 4 #[itV a] w (Yes w) := by
  have HA := Lib.hid (fun w => itAlive w)
  have HP := Lib.hid (fun w => itPut_not a h w)
  have HF := Lib.hid (fun w => rfRight a w)
  have HN := Lib.hid (box_new a w 29)
  have hr := h
  clear h
  go_enter Try.func4, Try.ntmps4
  go_wp2_with fail
  refine (HP.out _).mono ?_
  rintro e w2 ⟨rfl, hb2⟩
  obtain ⟨c0, c1, c2, c3, c4, c5, c6, c7, c8, c9, c10⟩ := (HN.out.keep hb2).cells
  go_wp2_with fail
  refine (HF.out _).mono ?_
  rintro e w3 ⟨rfl, hb3⟩
  go_wp2_with fail
  refine (HA.out _).mono ?_
  rintro e w4 ⟨rfl, hb4⟩
  go_wp2_with fail
  go_ret
  exact ⟨rfl, below_next (below_next (below_next (below_al (Below.refl _ _)) hb2) hb3) hb4⟩
theorem writes_ok (a : It) (h : right a = true) (hf : Fits a) (w : World) : Calls Try.prog 4 #[itV a] w (Yes w) := by
  have HP := Lib.hid (fun w => itPut_ok a h hf w)
  have HF := Lib.hid (fun w => rfRight a w)
  have HY := Lib.hid (fun w => rfBytes a h hf w)
  have HN := Lib.hid (box_new a w 29)
  have hr := h
  clear h hf
  go_enter Try.func4, Try.ntmps4
  go_wp2_with fail
  refine (HP.out _).mono ?_
  rintro e w2 ⟨rfl, hb2⟩
  obtain ⟨c0, c1, c2, c3, c4, c5, c6, c7, c8, c9, c10⟩ := (HN.out.keep hb2).cells
  have H2 := Lib.hid (HN.out.keep hb2)
  go_wp2_with fail
  refine (HF.out _).mono ?_
  rintro e w3 ⟨rfl, hb3⟩
  clear c0 c1 c2 c3 c4 c5 c6 c7 c8 c9 c10
  obtain ⟨c0, c1, c2, c3, c4, c5, c6, c7, c8, c9, c10⟩ := (H2.out.keep hb3).cells
  go_wp2_with fail
  refine (HY.out _).mono ?_
  rintro e w4 ⟨rfl, hb4⟩
  go_wp2_with fail
  go_ret
  exact ⟨rfl, below_next (below_next (below_next (below_al (Below.refl _ _)) hb2) hb3) hb4⟩
theorem lawItemWrites : Lift.Owes 4 [29] := by
  intro H enc W base args ds ps hval hA _ _
  obtain ⟨v0, d0, rfl, rfl, h0⟩ := trodAll_one hA
  obtain ⟨a, rfl, hf⟩ := openItem (hval 0 _ v0 rfl rfl) h0
  by_cases hr : right a = true
  · exact writes_ok a hr hf W
  · exact writes_not a (by simpa using hr) W
end Go.Proofs.Ythgafhinlchghaa
