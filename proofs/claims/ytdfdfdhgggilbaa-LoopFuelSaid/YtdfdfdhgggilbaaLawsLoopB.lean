/- The walk of the law LoopFuel. -/
import Derived.Test.YtdfdfdhgggilbaaLawsLoopA
namespace Go.Proofs.Ytdfdfdhgggilbaa
open Go.ChangeShapes Go.WideShapes Go.ChangeAt Go.RowKit
set_option linter.unusedVariables false
namespace Lp
open Gen
/-- Hands back an event of this key and time, with the value v, and n. -/
def GivesV (e : Ev) (v : Int) (n : Nat) (w : World) (r : Ending) (w' : World) : Prop := r = .returned (.tuple #[.agg #[.string e.key, .int .i64 e.at_, .int .i64 v], .int .i64 (n : Int)]) ∧ Below w.heap.size w w'
set_option maxHeartbeats 4000000 in
theorem walkLoopFuel (e : Ev) (l a b : Int) (he : evOk e) (hl : inI l) (w : World) : Calls Try.prog 6 #[evV e, .int .i64 l, .int .i64 a, .int .i64 b] w (TellsB true w) := by
  obtain ⟨A, hA⟩ : ∃ A : Nat, min (max a 0) 40 = (A : Int) := ⟨(min (max a 0) 40).toNat, by omega⟩
  obtain ⟨B, hB⟩ : ∃ B : Nat, max (A : Int) b = (B : Int) := ⟨(max (A : Int) b).toNat, by omega⟩
  obtain ⟨M, hM⟩ : ∃ M, M = fuelOf (B : Int) := ⟨_, rfl⟩
  have hA2 : A ≤ 40 := by omega
  have hAM : A ≤ M := by rw [hM]; unfold fuelOf; omega
  obtain ⟨vx, hvx⟩ : ∃ v, v = (rv (limOf l) A e.val).1 := ⟨_, rfl⟩
  obtain ⟨nx, hnx⟩ : ∃ v, v = (rv (limOf l) A e.val).2 := ⟨_, rfl⟩
  obtain ⟨vy, hvy⟩ : ∃ v, v = (rv (limOf l) M e.val).1 := ⟨_, rfl⟩
  obtain ⟨ny, hny⟩ : ∃ v, v = (rv (limOf l) M e.val).2 := ⟨_, rfl⟩
  have H1 : Hid (∀ w, Calls Try.prog 9 #[evV e, .int .i64 l, .int .i64 (A : Int)] w (GivesV e vx nx w)) := Lib.hid fun w => by
    have := lpRun e l A he.2.1 hl w
    rw [fuelOf_nat hA2] at this
    refine this.mono ?_
    rintro r w' ⟨rfl, hb⟩
    refine ⟨?_, hb⟩
    rw [hvx, hnx]
    simp [ran, fin]
  have H2 : Hid (∀ w, Calls Try.prog 9 #[evV e, .int .i64 l, .int .i64 (B : Int)] w (GivesV e vy ny w)) := Lib.hid fun w => by
    have := lpRun e l B he.2.1 hl w
    rw [← hM] at this
    refine this.mono ?_
    rintro r w' ⟨rfl, hb⟩
    refine ⟨?_, hb⟩
    rw [hvy, hny]
    simp [ran, fin]
  obtain ⟨g1, g2⟩ := rv_more (limOf l) A M e.val hAM
  rw [← hnx, ← hny] at g1
  have g3 : nx < A → vx = vy := fun h => by rw [hvx, hvy, g2 (by rw [← hnx]; exact h)]
  obtain ⟨g4, g5, g6⟩ := rv_abs (limOf l) A e.val
  rw [← hvx] at g4 g5 g6
  have L0 := Lib.hid (Lies.new w (evC e) 23)
  have hle : ((ny : Int) < nx) = False := by simp; omega
  obtain ⟨ek, ea, ev⟩ := e
  simp only at g4 g5 g6 H1 H2 L0
  have hway : (nx < A ∧ vx = vy ∨ ¬ nx < A) ∧ (0 ≤ ev ∧ 0 ≤ vx ∧ vx ≤ ev ∨ ¬ 0 ≤ ev ∧ vx ≤ 0 ∧ ev ≤ vx) := by
    refine ⟨?_, ?_⟩
    · by_cases h : nx < A
      · exact .inl ⟨h, g3 h⟩
      · exact .inr h
    · by_cases h : 0 ≤ ev
      · exact .inl ⟨h, g5 h, by have := g5 h; omega⟩
      · exact .inr ⟨h, g6 (by omega), by have := g6 (by omega); omega⟩
  have hse : ∀ w, (binOp .neq 23 (.agg #[.string ek, .int .i64 ea, .int .i64 vx]) (.agg #[.string ek, .int .i64 ea, .int .i64 vx])).run Try.prog w = .ok (.bool false) w := fun w => run_neqEv ⟨ek, ea, vx⟩ w
  clear he hl hvx hnx hvy hny hM hAM g1 g2 g3 g4 g5 g6
  have hle2 : ¬ (ny : Int) < (nx : Int) := by simpa using hle
  clear hle
  obtain ⟨h1 | h1, h2 | h2⟩ := hway
  all_goals (
    first
      | (obtain ⟨h1, rfl⟩ := h1
         have hlt : (nx : Int) < (A : Int) := by omega)
      | have hlt : ¬ (nx : Int) < (A : Int) := by omega
    obtain ⟨h2, h3, h4⟩ := h2
    go_enter Try.func6, Try.ntmps6
    go_wp2_with fail
    refine (H1.out _).mono ?_
    rintro e1 w1 ⟨rfl, hb1⟩
    have L1 := Lib.hid ((L0.out.below hb1).al (o := .cells #[.string ek, .int .i64 ea, .int .i64 vx] 23))
    have N1 := Lib.hid (Lies.new w1 #[.string ek, .int .i64 ea, .int .i64 vx] 23)
    have HB1 := Lib.hid (below_al (o := .cells #[.string ek, .int .i64 ea, .int .i64 vx] 23) (below_next (below_al (Below.refl w.heap.size w)) hb1))
    have c0 := L1.out.cell (j := 0) rfl
    have c1 := L1.out.cell (j := 1) rfl
    have c2 := L1.out.cell (j := 2) rfl
    clear hb1
    go_wp2_with fail
    refine (H2.out _).mono ?_
    rintro e2 w2 ⟨rfl, hb2⟩
    have L2 := Lib.hid (L1.out.below hb2)
    have N2 := Lib.hid (N1.out.below hb2)
    have HB2 := Lib.hid (below_next HB1.out hb2)
    clear hb2 c0 c1 c2
    have c0 := L2.out.cell (j := 0) rfl
    have c1 := L2.out.cell (j := 1) rfl
    have c2 := L2.out.cell (j := 2) rfl
    have d0 := N2.out.cell (j := 0) rfl
    have d1 := N2.out.cell (j := 1) rfl
    have d2 := N2.out.cell (j := 2) rfl
    have s0 : w.heap.size < w2.heap.size := lt_of_block L2.out
    have s1 : w1.heap.size < w2.heap.size := lt_of_block N2.out
    go_wp2_with (go_at_call 11; refine (half6 _).mono ?_; rintro e4 w4 ⟨rfl, rfl⟩)
    go_ret
    exact ⟨rfl, below_al HB2.out⟩)
theorem lawLoopFuel : Lift.Owes 6 [23, 2, 3, 3] := by
  intro H enc W base args ds ps hval hA _ _
  obtain ⟨v0, v1, v2, v3, d0, d1, d2, d3, p0, p1, p2, p3, rfl, rfl, rfl, h0, h1, h2, h3⟩ := trodAll_four hA
  obtain ⟨e, rfl, he⟩ := openEvL (hval 0 _ v0 rfl rfl) h0
  obtain ⟨x1, rfl, _, _, wf1⟩ := open_int Try.underlying2 (hval 1 _ v1 rfl rfl) h1
  obtain ⟨x2, rfl, _, _, wf2⟩ := open_int Try.underlying3 (hval 2 _ v2 rfl rfl) h2
  obtain ⟨x3, rfl, _, _, wf3⟩ := open_int Try.underlying3 (hval 3 _ v3 rfl rfl) h3
  exact walkLoopFuel e x1 x2 x3 he (lwf64 wf1) W
end Lp
theorem lawLoopFuel : Lift.Owes 6 [23, 2, 3, 3] := Lp.lawLoopFuel
end Go.Proofs.Ytdfdfdhgggilbaa
