/- The walk of the law MarkDoes. -/
import Derived.Test.YtciagbeamphihaaMarkArg
import Derived.Test.YtciagbeamphihaaMarkLikeR
namespace Go.Proofs.Ytciagbeamphihaa
open Go.ChangeShapes Go.WideShapes Go.ChangeAt Go.RowKit
set_option linter.unusedVariables false
set_option maxRecDepth 8000
namespace Wm
set_option maxRecDepth 100000 in
set_option maxHeartbeats 2000000 in
theorem walkMarkDoes (m : Mk) (A : Option Addr) (c : Nat) (B : Option Addr) (d : Nat) (a : Ac) (w : World) (h : Has m A c B d w) : Calls Try.prog 4 #[mv m A c B d, acV a.wh a.no a.t] w (TellsB true w) := by
  obtain ⟨wh, no, t⟩ := a
  simp only
  have hl := h.len
  have hway : ((100 : Int) < m.ins.length) ∨ (¬ (100 : Int) < m.ins.length ∧ (100 : Int) < m.holds.length) ∨ (¬ (100 : Int) < m.ins.length ∧ ¬ (100 : Int) < m.holds.length) := by omega
  rcases hway with a1 | ⟨a1, a2⟩ | ⟨a1, a2⟩
  iterate 2
    clear h hl
    go_enter Try.func4, Try.ntmps4
    go_wp2_with fail
    go_ret
    exact ⟨rfl, below_al (al_below _ _)⟩
  · have HD := Lib.hid (fun w' (hb : Below w.heap.size w w') => lawDo m A c B d wh no t w' (h.next hb) (by omega))
    obtain ⟨o, ho⟩ : ∃ o, o = doM m wh no t := ⟨_, rfl⟩
    rw [← ho] at HD
    clear h hl ho
    go_enter Try.func4, Try.ntmps4
    go_wp2_with fail
    refine (HD.out _ (below_al (al_below _ _))).mono ?_
    rintro e w1 ⟨A1, c1, B1, d1, A2, c2, B2, d2, rfl, h1, h2, hb1⟩
    have HB1 := Lib.hid (below_next (below_al (al_below w (.cells (mkC (.slice A m.ins.length c) (.slice B m.holds.length d) m.out) 25))) hb1)
    have X1 := Lib.hid (show MkAt w1.heap.size o.1 A1 c1 B1 d1 ((w1.alloc (.cells (mkC (.slice A1 o.1.ins.length c1) (.slice B1 o.1.holds.length d1) o.1.out) 25)).alloc (.cells (mkC (.slice A2 o.1.ins.length c2) (.slice B2 o.1.holds.length d2) o.1.out) 25)) from (Lies.new w1 _ _).al)
    have Y1 := Lib.hid (show MkAt (w1.heap.size + 1) o.1 A2 c2 B2 d2 ((w1.alloc (.cells (mkC (.slice A1 o.1.ins.length c1) (.slice B1 o.1.holds.length d1) o.1.out) 25)).alloc (.cells (mkC (.slice A2 o.1.ins.length c2) (.slice B2 o.1.holds.length d2) o.1.out) 25)) from lies_at (by simp) _ _)
    have H1 := Lib.hid (And.intro h1 h2)
    clear hb1 h1 h2
    go_wp2_with fail
    refine (lawAliveM _).mono ?_
    rintro e w2 ⟨rfl, hb2⟩
    have hb0 := below_al (o := .cells (mkC (.slice A2 o.1.ins.length c2) (.slice B2 o.1.holds.length d2) o.1.out) 25) (al_below w1 (.cells (mkC (.slice A1 o.1.ins.length c1) (.slice B1 o.1.holds.length d1) o.1.out) 25))
    have X2 := Lib.hid (X1.out.next hb2)
    have Y2 := Lib.hid (Y1.out.next hb2)
    have HL := Lib.hid (rfLikeM o.1 A1 c1 B1 d1 A2 c2 B2 d2 w2 (H1.out.1.next (below_next hb0 hb2)) (H1.out.2.next (below_next hb0 hb2)))
    have HB2 := Lib.hid (below_next HB1.out (below_next hb0 hb2))
    obtain ⟨x0, x1, x2⟩ := X2.out.cells
    obtain ⟨y0, y1, y2⟩ := Y2.out.cells
    clear hb2 hb0
    go_wp2_with fail
    refine HL.out.mono ?_
    rintro e w3 ⟨rfl, hb3⟩
    have HB3 := Lib.hid (below_next HB2.out hb3)
    clear hb3
    go_wp2_with fail
    go_ret
    exact ⟨rfl, HB3.out⟩
theorem lawMarkDoes : Lift.Owes 4 [25, 34] := by
  intro H enc W base args ds ps hval hA _ _
  obtain ⟨v0, v1, d0, d1, p0, p1, rfl, rfl, rfl, h0, h1⟩ := trodAll_two hA
  obtain ⟨m, A, c, B, d, rfl, hm⟩ := openMarks (hval 0 _ v0 rfl rfl) h0
  obtain ⟨a, rfl⟩ := openAct (hval 1 _ v1 rfl rfl) h1
  exact walkMarkDoes m A c B d a W hm
end Wm
theorem lawMarkDoes : Lift.Owes 4 [25, 34] := Wm.lawMarkDoes
end Go.Proofs.Ytciagbeamphihaa
