/- The walks of the laws LoopRuns, LoopSplits. -/
import Derived.Test.YtdfdfdhgggilbaaLoopOpen
namespace Go.Proofs.Ytdfdfdhgggilbaa
open Go.ChangeShapes Go.WideShapes Go.ChangeAt Go.RowKit
set_option linter.unusedVariables false
namespace Lp
open Gen
theorem walkLoopRuns (e : Ev) (l f : Int) (he : evOk e) (hl : inI l) (w : World) : Calls Try.prog 3 #[evV e, .int .i64 l, .int .i64 f] w (TellsB true w) := by
  have HR := Lib.hid (fun w => lpRun e l f he.2.1 hl w)
  have HS := Lib.hid (fun w => rfRun e l f he.2.1 hl w)
  have HH := Lib.hid (fun w => lpHalf e.val he.2.1 w)
  have HG := Lib.hid (fun w => rfHalf e.val he.2.1 w)
  obtain ⟨t, ht⟩ : ∃ t, t = ran (limOf l) (fuelOf f) e := ⟨_, rfl⟩
  rw [← ht] at HR HS
  have L0 := Lib.hid (Lies.new w (evC e) 23)
  have hse : ∀ w, (binOp .eql 23 (evV t.ev) (evV t.ev)).run Try.prog w = .ok (.bool true) w := fun w => run_sameEv t.ev w
  clear ht he hl
  go_enter Try.func3, Try.ntmps3
  go_wp2_with fail
  refine (HR.out _).mono ?_
  rintro e1 w1 ⟨rfl, hb1⟩
  have L1 := Lib.hid ((L0.out.below hb1).al (o := .cells (evC t.ev) 23))
  have N1 := Lib.hid (Lies.new w1 (evC t.ev) 23)
  have HB1 := Lib.hid (below_al (o := .cells (evC t.ev) 23) (below_next (below_al (Below.refl w.heap.size w)) hb1))
  have c0 := L1.out.cell (j := 0) rfl
  have c1 := L1.out.cell (j := 1) rfl
  have c2 := L1.out.cell (j := 2) rfl
  clear hb1
  go_wp2_with fail
  refine (HS.out _).mono ?_
  rintro e2 w2 ⟨rfl, hb2⟩
  have L2 := Lib.hid ((L1.out.below hb2).al (o := .cells (evC t.ev) 23))
  have N2 := Lib.hid ((N1.out.below hb2).al (o := .cells (evC t.ev) 23))
  have HB2 := Lib.hid (below_al (o := .cells (evC t.ev) 23) (below_next HB1.out hb2))
  have M2 := Lib.hid (Lies.new w2 (evC t.ev) 23)
  clear hb2 c0 c1 c2
  go_wp2_with fail
  obtain ⟨w3, hw⟩ : ∃ w3, w3 = w2.alloc (.cells (evC t.ev) 23) := ⟨_, rfl⟩
  rw [← hw] at L2 N2 M2 HB2 ⊢
  clear hw
  have c2 := L2.out.cell (j := 2) rfl
  have d0 := N2.out.cell (j := 0) rfl
  have d1 := N2.out.cell (j := 1) rfl
  have d2 := N2.out.cell (j := 2) rfl
  have f0 := M2.out.cell (j := 0) rfl
  have f1 := M2.out.cell (j := 1) rfl
  have f2 := M2.out.cell (j := 2) rfl
  go_quiet (first | (go_at_call 11; with_reducible refine Calls.quiet_of_same (still_of (half6 _))) | (go_at_call 11; refine Calls.quiet_of_same (still_of (HH.out _))) | (go_at_call 12; refine Calls.quiet_of_same (still_of (HG.out _))))
  go_wp2_with fail
  go_ret
  exact ⟨rfl, below_drewN HB2.out⟩
theorem lawLoopRuns : Lift.Owes 3 [23, 2, 3] := by
  intro H enc W base args ds ps hval hA _ _
  obtain ⟨v0, v1, v2, d0, d1, d2, p0, p1, p2, rfl, rfl, rfl, h0, h1, h2⟩ := trodAll_three hA
  obtain ⟨e, rfl, he⟩ := openEvL (hval 0 _ v0 rfl rfl) h0
  obtain ⟨x1, rfl, _, _, wf1⟩ := open_int Try.underlying2 (hval 1 _ v1 rfl rfl) h1
  obtain ⟨x2, rfl, _, _, wf2⟩ := open_int Try.underlying3 (hval 2 _ v2 rfl rfl) h2
  exact walkLoopRuns e x1 x2 he (lwf64 wf1) W
/-- With a part of the fuel, and then with the rest. -/
theorem ran_split (L : Int) (A B : Nat) (e : Ev) : (ran L B (ran L A e).ev).ev = (ran L (A + B) e).ev ∧ (ran L A e).n + (ran L B (ran L A e).ev).n = (ran L (A + B) e).n := by
  obtain ⟨h1, h2⟩ := rv_split L A B e.val
  simp only [ran, fin, Nat.sub_zero, Nat.zero_add]
  rw [h1]
  exact ⟨rfl, by omega⟩
theorem fuelOf_nat {A : Nat} (h : A ≤ 40) : fuelOf (A : Int) = A := by unfold fuelOf; omega
theorem ran_ok {L : Int} {F : Nat} {e : Ev} (h : inI e.val) : inI (ran L F e).ev.val := by
  obtain ⟨h1, h2, h3⟩ := rv_abs L F e.val
  unfold inI at *
  show -9223372036854775808 ≤ (rv L (F - 0) e.val).1 ∧ (rv L (F - 0) e.val).1 ≤ 9223372036854775807
  rw [Nat.sub_zero]
  omega
set_option maxHeartbeats 1000000 in
theorem walkLoopSplits (e : Ev) (l a b : Int) (he : evOk e) (hl : inI l) (w : World) : Calls Try.prog 7 #[evV e, .int .i64 l, .int .i64 a, .int .i64 b] w (TellsB true w) := by
  obtain ⟨A, hA⟩ : ∃ A : Nat, min (max a 0) 20 = (A : Int) := ⟨(min (max a 0) 20).toNat, by omega⟩
  obtain ⟨B, hB⟩ : ∃ B : Nat, min (max b 0) 20 = (B : Int) := ⟨(min (max b 0) 20).toNat, by omega⟩
  have hA2 : A ≤ 20 := by omega
  have hB2 : B ≤ 20 := by omega
  have H1 := Lib.hid (fun w => lpRun e l A he.2.1 hl w)
  have H2 := Lib.hid (fun w => lpRun (ran (limOf l) A e).ev l B (ran_ok he.2.1) hl w)
  have H3 := Lib.hid (fun w => lpRun e l ((A : Int) + B) he.2.1 hl w)
  rw [fuelOf_nat (by omega)] at H1 H2
  rw [show (A : Int) + B = ((A + B : Nat) : Int) by omega, fuelOf_nat (by omega), show ((A + B : Nat) : Int) = (A : Int) + B by omega] at H3
  obtain ⟨g1, g2⟩ := ran_split (limOf l) A B e
  obtain ⟨x, hx⟩ : ∃ x, x = ran (limOf l) A e := ⟨_, rfl⟩
  rw [← hx] at H1 H2 g1 g2
  obtain ⟨y, hy⟩ : ∃ y, y = ran (limOf l) B x.ev := ⟨_, rfl⟩
  rw [← hy] at H2 g1 g2
  obtain ⟨z, hz⟩ : ∃ z, z = ran (limOf l) (A + B) e := ⟨_, rfl⟩
  rw [← hz] at H3 g1 g2
  have hw1 := wrap_i (v := (A : Int) + B) (by unfold inI; omega)
  have hn1 : x.n ≤ 40 := by rw [hx]; have := rv_le (limOf l) (A - 0) e.val; show 0 + (rv (limOf l) (A - 0) e.val).2 ≤ 40; omega
  have hn2 : y.n ≤ 40 := by rw [hy]; have := rv_le (limOf l) (B - 0) x.ev.val; show 0 + (rv (limOf l) (B - 0) x.ev.val).2 ≤ 40; omega
  have hw2 := wrap_i (v := (x.n : Int) + y.n) (by unfold inI; omega)
  have hsum : ((x.n : Int) + y.n == (z.n : Int)) = true := eq_b (by omega)
  have HG := Lib.hid g1
  have L0 := Lib.hid (Lies.new w (evC e) 23)
  have hse : ∀ w, (binOp .eql 23 (evV y.ev) (evV z.ev)).run Try.prog w = .ok (.bool true) w := fun w => by rw [g1]; exact run_sameEv z.ev w
  clear he hl hx hy hz g1 g2 hA2 hB2
  go_enter Try.func7, Try.ntmps7
  go_wp2_with fail
  refine (H1.out _).mono ?_
  rintro e1 w1 ⟨rfl, hb1⟩
  have L1 := Lib.hid ((L0.out.below hb1).al (o := .cells (evC x.ev) 23))
  have HB1 := Lib.hid (below_al (o := .cells (evC x.ev) 23) (below_next (below_al (Below.refl w.heap.size w)) hb1))
  clear hb1
  go_wp2_with fail
  refine (H2.out _).mono ?_
  rintro e2 w2 ⟨rfl, hb2⟩
  have L2 := Lib.hid ((L1.out.below hb2).al (o := .cells (evC y.ev) 23))
  have HB2 := Lib.hid (below_al (o := .cells (evC y.ev) 23) (below_next HB1.out hb2))
  have N2 := Lib.hid (Lies.new w2 (evC y.ev) 23)
  have c0 := L2.out.cell (j := 0) rfl
  have c1 := L2.out.cell (j := 1) rfl
  have c2 := L2.out.cell (j := 2) rfl
  clear hb2
  go_wp2_with fail
  refine (H3.out _).mono ?_
  rintro e3 w3 ⟨rfl, hb3⟩
  have N3 := Lib.hid ((N2.out.below hb3).al (o := .cells (evC z.ev) 23))
  have HB3 := Lib.hid (below_al (o := .cells (evC z.ev) 23) (below_next HB2.out hb3))
  have M3 := Lib.hid (Lies.new w3 (evC z.ev) 23)
  clear hb3 c0 c1 c2
  have d0 := N3.out.cell (j := 0) rfl
  have d1 := N3.out.cell (j := 1) rfl
  have d2 := N3.out.cell (j := 2) rfl
  go_wp2_with (go_at_call 11; refine (half6 _).mono ?_; rintro e4 w4 ⟨rfl, rfl⟩)
  go_ret
  exact ⟨rfl, HB3.out⟩
theorem lawLoopSplits : Lift.Owes 7 [23, 2, 3, 3] := by
  intro H enc W base args ds ps hval hA _ _
  obtain ⟨v0, v1, v2, v3, d0, d1, d2, d3, p0, p1, p2, p3, rfl, rfl, rfl, h0, h1, h2, h3⟩ := trodAll_four hA
  obtain ⟨e, rfl, he⟩ := openEvL (hval 0 _ v0 rfl rfl) h0
  obtain ⟨x1, rfl, _, _, wf1⟩ := open_int Try.underlying2 (hval 1 _ v1 rfl rfl) h1
  obtain ⟨x2, rfl, _, _, wf2⟩ := open_int Try.underlying3 (hval 2 _ v2 rfl rfl) h2
  obtain ⟨x3, rfl, _, _, wf3⟩ := open_int Try.underlying3 (hval 3 _ v3 rfl rfl) h3
  exact walkLoopSplits e x1 x2 x3 he (lwf64 wf1) W
end Lp
theorem lawLoopRuns : Lift.Owes 3 [23, 2, 3] := Lp.lawLoopRuns
theorem lawLoopSplits : Lift.Owes 7 [23, 2, 3, 3] := Lp.lawLoopSplits
end Go.Proofs.Ytdfdfdhgggilbaa
