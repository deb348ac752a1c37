/- The walk of the law TimerApart. -/
import Derived.Test.YtklgehfbfokdlaaTimOpen
namespace Go.Proofs.Ytklgehfbfokdlaa
open Go.ChangeShapes Go.WideShapes Go.ChangeAt Go.RowKit
set_option linter.unusedVariables false
namespace Tim
theorem run_sameTe (x : Tm) (w : World) : (binOp .eql 27 (tmV x) (tmV x)).run Try.prog w = .ok (.bool true) w := by
  have h1 := Try.underlying9
  have h2 := Try.underlying2
  rw [run_eql_struct, show (10000 : Nat) = 9999 + 1 from rfl, run_equalIn_agg w _ _ _ _ tfields tstood]
  simp [Program.fieldsOf, Try.underlying27, Op.eqFields, part, isAgg, run_underlying h1, run_underlying h2, run_equalIn_string w 9998 _ _ _ h1, run_equalIn_int w 9998 _ .i64 .i64 _ _ h2]
theorem pop_one {M : Nat → Prop} {h : Nat} {w : World} {x : Tm} {r : List Tm} {e : Ending} {w' : World} (H : PopPost (fun _ => true) M h (x :: r) w e w') : e = .returned (.tuple #[tmV x, .bool true]) ∧ Holds M w' h r ∧ Mine M w w' := by
  obtain ⟨x1, b1, r1, rfl, h1, h2, ⟨rfl, h3, _⟩ | ⟨_, h3, _, h4⟩⟩ := H
  · cases h3; exact ⟨rfl, h1, h2⟩
  · subst h3; have := h4 x rfl; cases this
theorem pop_none {M : Nat → Prop} {h : Nat} {w : World} {e : Ending} {w' : World} (H : PopPost (fun _ => true) M h [] w e w') : e = .returned (.tuple #[tmV ⟨0, []⟩, .bool false]) ∧ Holds M w' h [] ∧ Mine M w w' := by
  obtain ⟨x1, b1, r1, rfl, h1, h2, ⟨_, h3, _⟩ | ⟨rfl, h3, rfl, h4⟩⟩ := H
  · cases h3
  · subst h3; exact ⟨rfl, h1, h2⟩
/-- A store beside both. -/
theorem Pair.far2 {w0 w : World} {M1 M2 : Nat → Prop} {g h q : Nat} {l1 l2 : List Tm} (H : Pair w0 w M1 M2 g h l1 l2) (h1 : ¬ M1 q) (h2 : ¬ M2 q) (hb : w0.heap.size ≤ q) (n : Nat) (u v : Value) :
    Pair w0 (((w.drewN n).setCell ⟨q, 0, none⟩ u).setCell ⟨q, 1, none⟩ v) M1 M2 g h l1 l2 := by
  have H' := H.up (below_drewN (n := n) (Below.refl _ _))
  have hb2 : Below w0.heap.size w0 (((w.drewN n).setCell ⟨q, 0, none⟩ u).setCell ⟨q, 1, none⟩ v) := (H'.a.below.setCell (p := ⟨q, 0, none⟩) hb u).setCell (p := ⟨q, 1, none⟩) hb v
  exact ⟨⟨H'.a.holds.set2 h1 _ _, H'.a.base, hb2⟩, ⟨H'.b.holds.set2 h2 _ _, H'.b.base, hb2⟩, H'.ne⟩
set_option maxHeartbeats 4000000 in
theorem walkTimerApart (a b : Tm) (w : World) : Calls Try.prog 5 #[tmV a, tmV b] w (TellsB true w) := by
  have he : ∀ (x : Tm) (w : World), (binOp .neq 27 (tmV x) (tmV x)).run Try.prog w = .ok (.bool false) w := run_sameTm
  have he2 : ∀ (x : Tm) (w : World), (binOp .eql 27 (tmV x) (tmV x)).run Try.prog w = .ok (.bool true) w := run_sameTe
  go_enter Try.func5, Try.ntmps5
  go_wp2_with (go_at_call 9; refine (tNew _).mono ?_; rintro e w1 ⟨rfl, rfl⟩)
  obtain ⟨W, hW⟩ : ∃ W, W = (w.alloc (.cells (tmC a) 27)).alloc (.cells (tmC b) 27) := ⟨_, rfl⟩
  have hsz : W.heap.size = w.heap.size + 1 + 1 := by rw [hW]; simp
  have P0 := Lib.hid (Pair.new_ W)
  have HB := Lib.hid (show Below w.heap.size w W by rw [hW]; exact below_al (below_al (Below.refl _ _)))
  have LA := Lib.hid (show Lies w.heap.size (tmC a) 27 W by rw [hW]; exact (Lies.new w _ _).al)
  have LB := Lib.hid (show Lies (w.heap.size + 1) (tmC b) 27 W by
    have := Lies.new (w.alloc (.cells (tmC a) 27)) (tmC b) 27
    rw [World.size_alloc] at this
    rw [hW]; exact this)
  rw [hsz] at P0
  rw [← hW]
  have HS := Lib.hid hsz
  clear hW hsz
  refine (tPush _ _ [] a _ P0.out.a.holds (by simp)).mono ?_
  rintro e w1 ⟨rfl, M1, q1, q2, _, q4⟩
  have P1 : Hid (Pair W w1 M1 (· = w.heap.size + 1 + 1 + 1) (w.heap.size + 1 + 1) (w.heap.size + 1 + 1 + 1) [a] []) := Lib.hid (P0.out.stepA q1 q2 q4)
  clear q1 q2 q4
  have b0 := (LB.out.below P1.out.a.below).cell (j := 0) rfl
  have b1 := (LB.out.below P1.out.a.below).cell (j := 1) rfl
  go_wp2_with fail
  refine (tPush _ _ [] b _ P1.out.b.holds (by simp)).mono ?_
  rintro e w2 ⟨rfl, M2, q1, q2, _, q4⟩
  have P2 : Hid (Pair W w2 M1 M2 (w.heap.size + 1 + 1) (w.heap.size + 1 + 1 + 1) [a] [b]) := Lib.hid (P1.out.stepB q1 q2 q4)
  clear q1 q2 q4 b0 b1
  go_wp2_with fail
  refine (tAll _ _ _ _ P2.out.a.holds (by simp)).mono ?_
  rintro e w3 ⟨v, rfl, q1, q2⟩
  have P3 := Lib.hid (P2.out.up q2)
  have q1 : w3.ownsRow w2.heap.size 27 2 v 1 (tc [a]) := q1
  obtain ⟨A, c, rfl, h1, h2, _, h3, h4⟩ := own_form q1 (by omega)
  obtain ⟨q, off, rfl, _⟩ := row_at h3 (k := 0) (x := a) rfl
  obtain rfl : off = 0 := by
    obtain ⟨_, ⟨e, _⟩ | ⟨g, cap, cur, e, _⟩⟩ := q1
    · cases e
    · cases e; rfl
  obtain ⟨c0, c1, f0, f1⟩ := own_cellsT q1 (i := 0) (x := a) rfl
  rw [Nat.zero_mul] at c0 c1 f0 f1
  have hq2 := (own_lt q1 q rfl).1
  have hq3 := (own_lt q1 q rfl).2
  have hqw : w.heap.size + 1 < q := by have := P2.out.a.below.size; have := HS.out; omega
  have FAR := Lib.hid (show ¬ M1 q ∧ ¬ M2 q ∧ W.heap.size ≤ q from ⟨fun hm => by have := P2.out.a.holds.lt q hm; omega, fun hm => by have := P2.out.b.holds.lt q hm; omega, by have := P2.out.a.below.size; omega⟩)
  have a0 := (LA.out.below P3.out.a.below).cell (j := 0) rfl
  have a1 := (LA.out.below P3.out.a.below).cell (j := 1) rfl
  clear q1 q2 h1 h2 h3 h4 hq2
  go_wp2_with fail
  go_quiet (fail)
  go_wp2_with fail
  have P4 := Lib.hid (P3.out.far2 FAR.out.1 FAR.out.2.1 FAR.out.2.2 nq (.int .i64 99) (.string ⟨#[111, 116, 104, 101, 114]⟩))
  clear c0 c1 f0 f1 a0 a1 hq3 hqw
  refine (nPush a _).mono ?_
  rintro e w4 ⟨rfl, hb4⟩
  have P5 := Lib.hid (P4.out.up hb4)
  clear hb4
  go_wp2_with fail
  refine (nPop _).mono ?_
  rintro e w5 ⟨rfl, hb5⟩
  have P6 := Lib.hid (P5.out.up hb5)
  clear hb5
  go_wp2_with fail
  have P7 := Lib.hid (P6.out.up (below_al (o := .cells (tmC ⟨0, []⟩) 27) (Below.refl _ _)))
  refine (tPop _ _ _ _ P7.out.a.holds (by simp)).mono ?_
  intro e w6 h6
  obtain ⟨rfl, q1, q2⟩ := pop_one h6
  have P8 := Lib.hid (P7.out.stepA q1 q2 same_or)
  clear q1 q2 h6
  go_wp2_with fail
  have P9 := Lib.hid (P8.out.up (below_al (o := .cells (tmC a) 27) (Below.refl _ _)))
  have LX := Lib.hid (Lies.new w6 (tmC a) 27)
  have NX : Hid (¬ M2 w6.heap.size) := Lib.hid fun hm => by have := P8.out.b.holds.lt _ hm; omega
  refine (tPop _ _ _ _ P9.out.b.holds (by simp)).mono ?_
  intro e w7 h7
  obtain ⟨rfl, q1, q2⟩ := pop_one h7
  have P10 := Lib.hid (P9.out.stepB q1 q2 same_or)
  have LX7 := Lib.hid (q2.lies LX.out NX.out)
  clear q1 q2 h7
  go_wp2_with fail
  have P11 := Lib.hid (P10.out.up (below_al (o := .cells (tmC b) 27) (Below.refl _ _)))
  have LX8 := Lib.hid (LX7.out.al (o := .cells (tmC b) 27))
  have LY8 := Lib.hid (Lies.new w7 (tmC b) 27)
  refine (nLen _).mono ?_
  rintro e w8 ⟨rfl, rfl⟩
  go_wp2_with fail
  refine (nDue _ _).mono ?_
  rintro e w9 ⟨rfl, hb9⟩
  have HB9 := Lib.hid hb9
  clear hb9
  go_wp2_with fail
  refine (nDrop _ _).mono ?_
  rintro e w10 ⟨rfl, hb10⟩
  have HB10 := Lib.hid (below_next HB9.out hb10)
  clear hb10
  go_wp2_with fail
  refine (nAll _).mono ?_
  rintro e w11 ⟨rfl, hb11⟩
  have HB11 := Lib.hid (below_next HB10.out hb11)
  clear hb11
  have P12 := Lib.hid (P11.out.up HB11.out)
  have a0 := (LA.out.below P12.out.a.below).cell (j := 0) rfl
  have a1 := (LA.out.below P12.out.a.below).cell (j := 1) rfl
  have b0 := (LB.out.below P12.out.a.below).cell (j := 0) rfl
  have b1 := (LB.out.below P12.out.a.below).cell (j := 1) rfl
  have x0 := (LX8.out.below HB11.out).cell (j := 0) rfl
  have x1 := (LX8.out.below HB11.out).cell (j := 1) rfl
  have y0 := (LY8.out.below HB11.out).cell (j := 0) rfl
  have y1 := (LY8.out.below HB11.out).cell (j := 1) rfl
  go_wp2_with (go_at_call 19; refine (tLen _ _ _ _ P12.out.a.holds).mono ?_; rintro e w12 ⟨rfl, rfl⟩)
  go_ret
  exact ⟨rfl, below_next HB.out P12.out.a.below⟩
theorem lawTimerApart : Lift.Owes 5 [27, 27] := by
  intro H enc W base args ds ps hval hA _ _
  obtain ⟨v0, v1, d0, d1, p0, p1, rfl, rfl, rfl, h0, h1⟩ := trodAll_two hA
  obtain ⟨a, rfl⟩ := openTimer (hval 0 _ v0 rfl rfl) h0
  obtain ⟨b, rfl⟩ := openTimer (hval 1 _ v1 rfl rfl) h1
  exact walkTimerApart a b W
end Tim
theorem lawTimerApart : Lift.Owes 5 [27, 27] := Tim.lawTimerApart
end Go.Proofs.Ytklgehfbfokdlaa
