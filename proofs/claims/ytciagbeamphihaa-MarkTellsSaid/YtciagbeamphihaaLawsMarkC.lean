/- The walk of the law MarkTells. -/
import Derived.Test.YtciagbeamphihaaMarkArg
import Derived.Test.YtciagbeamphihaaMarkLikeR
import Derived.Test.YtciagbeamphihaaMarkTellR
namespace Go.Proofs.Ytciagbeamphihaa
open Go.ChangeShapes Go.WideShapes Go.ChangeAt Go.RowKit
set_option linter.unusedVariables false
set_option maxRecDepth 8000
namespace Wm
set_option maxRecDepth 100000 in
set_option maxHeartbeats 2000000 in
theorem walkMarkTells (m : Mk) (A : Option Addr) (c : Nat) (B : Option Addr) (d : Nat) (w : World) (h : Has m A c B d w) : Calls Try.prog 5 #[mv m A c B d] w (TellsB true w) := by
  have hl := h.len
  have hway : ((100 : Int) < m.ins.length) ∨ (¬ (100 : Int) < m.ins.length ∧ (100 : Int) < m.holds.length) ∨ (¬ (100 : Int) < m.ins.length ∧ ¬ (100 : Int) < m.holds.length) := by omega
  rcases hway with a1 | ⟨a1, a2⟩ | ⟨a1, a2⟩
  iterate 2
    clear h hl
    go_enter Try.func5, Try.ntmps5
    go_wp2_with fail
    go_ret
    exact ⟨rfl, al_below _ _⟩
  · have HC := Lib.hid (fun w' (hb : Below w.heap.size w w') => ckTell m A c B d w' (h.next hb))
    have HR := Lib.hid (fun w' (hb : Below w.heap.size w w') => rfTellM m A c B d w' (h.next hb))
    obtain ⟨⟨o, t, is⟩, ho⟩ : ∃ o, o = tell m := ⟨_, rfl⟩
    rw [← ho] at HC HR
    have M0 := Lib.hid (show MkAt w.heap.size m A c B d (w.alloc (.cells (mkC (.slice A m.ins.length c) (.slice B m.holds.length d) m.out) 25)) from Lies.new w _ _)
    clear h hl ho
    go_enter Try.func5, Try.ntmps5
    go_wp2_with fail
    refine (HC.out _ (al_below _ _)).mono ?_
    rintro e w1 ⟨A1, c1, B1, d1, rfl, h1, hb1⟩
    simp only at h1
    have HB1 := Lib.hid (below_next (al_below w (.cells (mkC (.slice A m.ins.length c) (.slice B m.holds.length d) m.out) 25)) hb1)
    have M1 := Lib.hid (M0.out.next hb1)
    have X1 := Lib.hid (show MkAt w1.heap.size o A1 c1 B1 d1 (w1.alloc (.cells (mkC (.slice A1 o.ins.length c1) (.slice B1 o.holds.length d1) o.out) 25)) from Lies.new w1 _ _)
    have H1 := Lib.hid h1
    obtain ⟨z0, z1, z2⟩ := M1.out.cells
    have q0 : w.heap.size < w1.heap.size := lt_of_block M1.out
    clear hb1 h1
    go_wp2_with fail
    refine (HR.out _ (below_al HB1.out)).mono ?_
    rintro e w2 ⟨A2, c2, B2, d2, rfl, h2, hb2⟩
    simp only at h2
    have HB2 := Lib.hid (below_next (below_al (o := .cells (mkC (.slice A1 o.ins.length c1) (.slice B1 o.holds.length d1) o.out) 25) HB1.out) hb2)
    have X2 := Lib.hid ((X1.out.next hb2).next (al_below w2 (.cells (mkC (.slice A2 o.ins.length c2) (.slice B2 o.holds.length d2) o.out) 25)))
    have Y2 := Lib.hid (show MkAt w2.heap.size o A2 c2 B2 d2 (w2.alloc (.cells (mkC (.slice A2 o.ins.length c2) (.slice B2 o.holds.length d2) o.out) 25)) from Lies.new w2 _ _)
    have H2 := Lib.hid (And.intro (H1.out.next (below_next (al_below w1 (.cells (mkC (.slice A1 o.ins.length c1) (.slice B1 o.holds.length d1) o.out) 25)) hb2)) h2)
    clear hb2 h2 z0 z1 z2
    go_wp2_with fail
    refine (lawAliveM _).mono ?_
    rintro e w3 ⟨rfl, hb3⟩
    have hb0 := al_below w2 (.cells (mkC (.slice A2 o.ins.length c2) (.slice B2 o.holds.length d2) o.out) 25)
    have X3 := Lib.hid (X2.out.next hb3)
    have Y3 := Lib.hid (Y2.out.next hb3)
    have HL := Lib.hid (rfLikeM o A1 c1 B1 d1 A2 c2 B2 d2 w3 (H2.out.1.next (below_next hb0 hb3)) (H2.out.2.next (below_next hb0 hb3)))
    have HB3 := Lib.hid (below_next HB2.out (below_next hb0 hb3))
    obtain ⟨x0, x1, x2⟩ := X3.out.cells
    obtain ⟨y0, y1, y2⟩ := Y3.out.cells
    clear hb3 hb0
    go_wp2_with fail
    refine HL.out.mono ?_
    rintro e w4 ⟨rfl, hb4⟩
    have HB4 := Lib.hid (below_next HB3.out hb4)
    clear hb4
    go_wp2_with fail
    go_ret
    exact ⟨by first | rfl | simp, HB4.out⟩
theorem lawMarkTells : Lift.Owes 5 [25] := by
  intro H enc W base args ds ps hval hA _ _
  obtain ⟨v0, d0, rfl, rfl, h0⟩ := trodAll_one hA
  obtain ⟨m, A, c, B, d, rfl, hm⟩ := openMarks (hval 0 _ v0 rfl rfl) h0
  exact walkMarkTells m A c B d W hm
end Wm
theorem lawMarkTells : Lift.Owes 5 [25] := Wm.lawMarkTells
end Go.Proofs.Ytciagbeamphihaa
