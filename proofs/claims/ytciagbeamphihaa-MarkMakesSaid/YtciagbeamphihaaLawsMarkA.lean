/- The walk of the law MarkMakes. -/
import Derived.Test.YtciagbeamphihaaMarkArg
import Derived.Test.YtciagbeamphihaaMarkLikeR
import Derived.Test.YtciagbeamphihaaWide
namespace Go.Proofs.Ytciagbeamphihaa
open Go.ChangeShapes Go.WideShapes Go.ChangeAt Go.RowKit
set_option linter.unusedVariables false
set_option maxRecDepth 8000
namespace Wm
/-- What the last operations hang on: the marks that were made, and those that came in. -/
structure MsAt (w0 : World) (o : Mk) (A1 : Option Addr) (c1 : Nat) (B1 : Option Addr) (d1 : Nat) (A2 : Option Addr) (c2 : Nat) (B2 : Option Addr) (d2 : Nat) (m : Mk) (A : Option Addr) (c : Nat) (B : Option Addr) (d : Nat) (p q : Nat) (w : World) : Prop where
  xa : MkAt p o A1 c1 B1 d1 w
  xb : MkAt q o A2 c2 B2 d2 w
  xm : MkAt w0.heap.size m A c B d w
  ha : Has o A1 c1 B1 d1 w
  hb : Has o A2 c2 B2 d2 w
  hm : Has m A c B d w
  below : Below w0.heap.size w0 w
theorem MsAt.next {w0 : World} {o : Mk} {A1 : Option Addr} {c1 : Nat} {B1 : Option Addr} {d1 : Nat} {A2 : Option Addr} {c2 : Nat} {B2 : Option Addr} {d2 : Nat} {m : Mk} {A : Option Addr} {c : Nat} {B : Option Addr} {d : Nat} {p q : Nat} {w w' : World}
    (h : MsAt w0 o A1 c1 B1 d1 A2 c2 B2 d2 m A c B d p q w) (hb : Below w.heap.size w w') : MsAt w0 o A1 c1 B1 d1 A2 c2 B2 d2 m A c B d p q w' :=
  ⟨h.xa.next hb, h.xb.next hb, h.xm.next hb, h.ha.next hb, h.hb.next hb, h.hm.next hb, below_next h.below hb⟩
set_option maxRecDepth 100000 in
set_option maxHeartbeats 2000000 in
theorem walkMarkMakes (n : Int) (m : Mk) (A : Option Addr) (c : Nat) (B : Option Addr) (d : Nat) (w : World) (h : Has m A c B d w) : Calls Try.prog 3 #[.int .i64 n, mv m A c B d] w (TellsB true w) := by
  have HC := Lib.hid (fun w => ckNew n w)
  have HR := Lib.hid (fun w => rfNewM n w)
  obtain ⟨⟨o, er⟩, ho⟩ : ∃ o, o = new n := ⟨_, rfl⟩
  rw [← ho] at HC HR
  have HA := Lib.hid (fun w => lawAliveM w)
  have HL := Lib.hid (fun A c B d A' c' B' d' w (h : Has o A c B d w) (h' : Has o A' c' B' d' w) => rfLikeM o A c B d A' c' B' d' w h h')
  have HK := Lib.hid (fun w (h : Has m A c B d w) => ckRight m A c B d w h)
  have HF := Lib.hid (fun w (h : Has m A c B d w) => rfRightM m A c B d w h)
  obtain ⟨r, hr⟩ : ∃ r, r = right m := ⟨_, rfl⟩
  rw [← hr] at HK HF
  have M0 := Lib.hid (show MkAt w.heap.size m A c B d (w.alloc (.cells (mkC (.slice A m.ins.length c) (.slice B m.holds.length d) m.out) 25)) from Lies.new w _ _)
  have H0 := Lib.hid h
  clear h ho hr
  go_enter Try.func3, Try.ntmps3
  go_wp2_with fail
  refine (HC.out _).mono ?_
  rintro e w1 ⟨A1, c1, B1, d1, rfl, h1, hb1⟩
  simp only at h1
  have HB1 := Lib.hid (below_next (al_below w (.cells (mkC (.slice A m.ins.length c) (.slice B m.holds.length d) m.out) 25)) hb1)
  have M1 := Lib.hid (M0.out.next hb1)
  have X1 := Lib.hid (show MkAt w1.heap.size o A1 c1 B1 d1 (w1.alloc (.cells (mkC (.slice A1 o.ins.length c1) (.slice B1 o.holds.length d1) o.out) 25)) from Lies.new w1 _ _)
  have H1 := Lib.hid h1
  clear hb1 h1
  go_wp2_with fail
  refine (HR.out _).mono ?_
  rintro e w2 ⟨A2, c2, B2, d2, rfl, h2, hb2⟩
  simp only at h2
  have hb12 := below_next (al_below w1 (.cells (mkC (.slice A1 o.ins.length c1) (.slice B1 o.holds.length d1) o.out) 25)) hb2
  have hb22 := al_below w2 (.cells (mkC (.slice A2 o.ins.length c2) (.slice B2 o.holds.length d2) o.out) 25)
  have S := Lib.hid (show MsAt w o A1 c1 B1 d1 A2 c2 B2 d2 m A c B d w1.heap.size w2.heap.size (w2.alloc (.cells (mkC (.slice A2 o.ins.length c2) (.slice B2 o.holds.length d2) o.out) 25)) from
    ⟨(X1.out.next hb2).next hb22, Lies.new w2 _ _, (M1.out.next hb12).next hb22, H1.out.next (below_next hb12 hb22), h2.next hb22, H0.out.next (below_next HB1.out (below_next hb12 hb22)), below_next HB1.out (below_next hb12 hb22)⟩)
  have S := Lib.hid (S.out.next (below_drewOf (Below.refl _ _)))
  clear hb2 h2 hb12 hb22
  go_wp2_with fail
  refine wide_all (MsAt w o A1 c1 B1 d1 A2 c2 B2 d2 m A c B d w1.heap.size w2.heap.size) (by kernel_rfl) (by kernel_rfl) S.out ?_
  repeat (first
  | go_big_quiet_skip
  | (go_big_quiet_want
     apply wide_op
     · (intro w5 h5; obtain ⟨hxa, hxb, hxm, hha, hhb, hhm, hbl⟩ := id h5; obtain ⟨p0, p1, p2⟩ := hxa.cells; obtain ⟨q0, q1, q2⟩ := hxb.cells; obtain ⟨z0, z1, z2⟩ := hxm.cells; clear hxa hxb hxm hha hhb hhm hbl; go_simp; first | done | with_reducible rfl | (refine (HA.out _).mono ?_; rintro e w6 ⟨rfl, hb6⟩; exact ⟨rfl, h5.next hb6⟩) | (refine (HL.out _ _ _ _ _ _ _ _ _ h5.ha h5.hb).mono ?_; rintro e w6 ⟨rfl, hb6⟩; exact ⟨rfl, h5.next hb6⟩) | (refine (HK.out _ h5.hm).mono ?_; rintro e w6 ⟨rfl, hb6⟩; exact ⟨rfl, h5.next hb6⟩) | (refine (HF.out _ h5.hm).mono ?_; rintro e w6 ⟨rfl, hb6⟩; exact ⟨rfl, h5.next hb6⟩))
     (try simp only [Act.put, List.setIfInBounds_toArray, List.set_cons_zero, List.set_cons_succ])
     go_big_quiet_on))
  refine wpQuiet_nil ?_
  intro w6 h6
  have B6 := Lib.hid h6.below
  clear h6
  go_wp2_with fail
  go_ret
  exact ⟨by first | rfl | simp, B6.out⟩
theorem lawMarkMakes : Lift.Owes 3 [3, 25] := by
  intro H enc W base args ds ps hval hA _ _
  obtain ⟨v0, v1, d0, d1, p0, p1, rfl, rfl, rfl, h0, h1⟩ := trodAll_two hA
  obtain ⟨n, rfl, rfl, rfl, _⟩ := open_int Try.underlying3 (hval 0 _ v0 rfl rfl) h0
  obtain ⟨m, A, c, B, d, rfl, hm⟩ := openMarks (hval 1 _ v1 rfl rfl) h1
  exact walkMarkMakes n m A c B d W hm
end Wm
theorem lawMarkMakes : Lift.Owes 3 [3, 25] := Wm.lawMarkMakes
end Go.Proofs.Ytciagbeamphihaa
