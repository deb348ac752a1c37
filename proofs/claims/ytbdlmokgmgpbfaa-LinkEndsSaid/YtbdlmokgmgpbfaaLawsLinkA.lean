/- The walk of the law LinkTakes. -/
import Derived.Test.YtbdlmokgmgpbfaaLinkOpen
import Derived.Test.YtbdlmokgmgpbfaaLinkCkR
import Derived.Test.YtbdlmokgmgpbfaaLinkTakeC
namespace Go.Proofs.Ytbdlmokgmgpbfaa
open Go.ChangeShapes Go.WideShapes Go.ChangeAt Go.RowKit
set_option linter.unusedVariables false
set_option maxRecDepth 8000
namespace Lk
open Gen (TellsB TellsI)
theorem zero_right : rightS ⟨0, 0, [], 0⟩ = true := by rw [right_iff]; exact ⟨fun _ h => (by cases h), by simp, by simp, by simp, by simp, by simp⟩
theorem lawAliveL (w : World) : Calls Try.prog 11 #[] w (TellsB true w) := by
  have HR := Lib.hid (fun w => ckRight 0 0 [] 0 0 none 0 true rfl zero_right.symm w Row.nil (by omega))
  go_enter Try.func11, Try.ntmps11
  go_wp2_with fail
  refine (HR.out _).mono ?_
  rintro e w1 ⟨rfl, hb⟩
  have HB := Lib.hid hb
  clear hb
  go_wp2_with fail
  go_ret
  exact ⟨rfl, HB.out⟩
def GivesO2 (a : Int) (z : Int) (w : World) (e : Ending) (w' : World) : Prop := e = .returned (.tuple #[.agg #[.int .i64 a, .int .i64 0, .slice none 0 0, .int .i64 0], .agg #[.int .i64 a, .int .i64 0], .int .i64 z]) ∧ Below w.heap.size w w'
theorem ckOpenYes (ep : Int) (h : isNo ep = true) (w : World) : Calls Try.prog 22 #[.int .i64 ep] w (GivesO2 ep 0 w) := ckOpen ep true h w
theorem ckOpenNo (ep : Int) (h : isNo ep = false) (w : World) : Calls Try.prog 22 #[.int .i64 ep] w (GivesO2 0 1 w) := ckOpen ep false h w
/-- What lies, in LinkTakes. -/
structure LtAt (w0 : World) (r : Rc) (p : Pk) (b7 : Nat) (a : Rc) (b10 : Nat) (b : Rc) (w : World) : Prop where
  r : Lies w0.heap.size #[.int .i64 r.epoch, .int .i64 r.want] 41 w
  p : Lies (w0.heap.size + 1) #[.int .i64 p.epoch, .int .i64 p.no, .string p.body] 26 w
  a : Lies b7 #[.int .i64 a.epoch, .int .i64 a.want] 41 w
  b : Lies b10 #[.int .i64 b.epoch, .int .i64 b.want] 41 w
  below : Below w0.heap.size w0 w
theorem LtAt.next {w0 : World} {r : Rc} {p : Pk} {b7 : Nat} {a : Rc} {b10 : Nat} {b : Rc} {w w' : World} (h : LtAt w0 r p b7 a b10 b w) (hb : Below w.heap.size w w') : LtAt w0 r p b7 a b10 b w' :=
  ⟨h.r.below hb, h.p.below hb, h.a.below hb, h.b.below hb, below_next h.below hb⟩
set_option maxHeartbeats 1000000 in
theorem walkLinkTakes (r : Rc) (p : Pk) (ep : Int) (w : World) : Calls Try.prog 4 #[rvV r, pkV p, .int .i64 ep] w (TellsB true w) := by
  obtain ⟨re, rw_⟩ := r
  obtain ⟨pe, no, body⟩ := p
  obtain ⟨⟨⟨oe, ow⟩, is, z⟩, ho⟩ : ∃ o, o = takeO ⟨re, rw_⟩ ⟨pe, no, body⟩ := ⟨_, rfl⟩
  have HC := Lib.hid (fun w => ckTake re rw_ pe no body _ ho w)
  have HF := Lib.hid (fun w => rfTake re rw_ pe no body _ ho w)
  have HA := Lib.hid (fun w => lawAliveL w)
  have LR := Lib.hid ((Lies.new w #[.int .i64 re, .int .i64 rw_] 41).al (o := .cells #[.int .i64 pe, .int .i64 no, .string body] 26))
  have LP := Lib.hid (Gen.lies_new1 w (.cells #[.int .i64 re, .int .i64 rw_] 41) #[.int .i64 pe, .int .i64 no, .string body] 26)
  have HB := Lib.hid (below_al (o := .cells #[.int .i64 pe, .int .i64 no, .string body] 26) (below_al (o := .cells #[.int .i64 re, .int .i64 rw_] 41) (Below.refl w.heap.size w)))
  obtain ⟨q, hq⟩ : ∃ q, q = (if 0 ≤ ep ∧ ep ≤ 1073741824 then (ep, 0) else ((0 : Int), (1 : Int))) := ⟨_, rfl⟩
  obtain ⟨qe, qz⟩ := q
  have HO : Hid (∀ w, Calls Try.prog 22 #[.int .i64 ep] w (GivesO2 qe qz w)) := Lib.hid (fun w => by
    by_cases h : 0 ≤ ep ∧ ep ≤ 1073741824
    · rw [if_pos h] at hq
      cases hq
      exact ckOpenYes ep (isNo_yes h.1 h.2) w
    · rw [if_neg h] at hq
      cases hq
      exact ckOpenNo ep (isNo_no h) w)
  have HL := Lib.hid (fun w => rfLike qe 0 0 [] 0 rfl (by omega) none none 0 0 w Row.nil Row.nil)
  have hway : (ep < 0 ∧ qe = 0 ∧ qz = 1) ∨ (¬ ep < 0 ∧ (1073741824 : Int) < ep ∧ qe = 0 ∧ qz = 1) ∨ (¬ ep < 0 ∧ ¬ (1073741824 : Int) < ep ∧ qe = ep ∧ qz = 0) := by
    by_cases h1 : ep < 0
    · rw [if_neg (by omega)] at hq; cases hq; left; exact ⟨h1, rfl, rfl⟩
    · by_cases h2 : (1073741824 : Int) < ep
      · rw [if_neg (by omega)] at hq; cases hq; right; left; exact ⟨h1, h2, rfl, rfl⟩
      · rw [if_pos (by omega)] at hq; cases hq; right; right; exact ⟨h1, h2, rfl, rfl⟩
  have e1 : ∀ w, (binOp .eql 41 (.agg #[.int .i64 oe, .int .i64 ow]) (.agg #[.int .i64 oe, .int .i64 ow])).run Try.prog w = .ok (.bool true) w := fun w => run_eqlRc ⟨oe, ow⟩ w
  have e2 : ∀ w, (binOp .eql 41 (.agg #[.int .i64 qe, .int .i64 0]) (.agg #[.int .i64 qe, .int .i64 0])).run Try.prog w = .ok (.bool true) w := fun w => run_eqlRc ⟨qe, 0⟩ w
  clear ho hq
  go_enter Try.func4, Try.ntmps4
  go_upto_region 1 with fail
  obtain ⟨W, hW⟩ : ∃ W, W = (w.alloc (.cells #[.int .i64 re, .int .i64 rw_] 41)).alloc (.cells #[.int .i64 pe, .int .i64 no, .string body] 26) := ⟨_, rfl⟩
  rw [← hW] at LR LP HB ⊢
  clear hW
  have x0 := LR.out.cell (j := 0) rfl
  have x1 := LR.out.cell (j := 1) rfl
  have y0 := LP.out.cell (j := 0) rfl
  have y1 := LP.out.cell (j := 1) rfl
  have y2 := LP.out.cell (j := 2) rfl
  go_wp2_with fail
  refine (HC.out _).mono ?_
  rintro e w1 ⟨rfl, hb1⟩
  clear x0 x1 y0 y1 y2
  go_upto_region 2 with fail
  have L7 := Lib.hid (Lies.new w1 #[.int .i64 oe, .int .i64 ow] 41)
  have hb2 := below_al (o := .cells #[.int .i64 oe, .int .i64 ow] 41) hb1
  have LR2 := Lib.hid (LR.out.below hb2)
  have LP2 := Lib.hid (LP.out.below hb2)
  have HB2 := Lib.hid (below_next HB.out hb2)
  obtain ⟨b7, hb7⟩ : ∃ b, b = w1.heap.size := ⟨_, rfl⟩
  obtain ⟨W1, hW⟩ : ∃ W, W = w1.alloc (.cells #[.int .i64 oe, .int .i64 ow] 41) := ⟨_, rfl⟩
  rw [← hW] at L7 LR2 LP2 HB2 ⊢
  rw [← hb7] at L7 ⊢
  clear hW hb7 hb2 hb1 LR LP HB
  have x0 := LR2.out.cell (j := 0) rfl
  have x1 := LR2.out.cell (j := 1) rfl
  have y0 := LP2.out.cell (j := 0) rfl
  have y1 := LP2.out.cell (j := 1) rfl
  have y2 := LP2.out.cell (j := 2) rfl
  go_wp2_with fail
  refine (HF.out _).mono ?_
  rintro e w2 ⟨rfl, hb3⟩
  clear x0 x1 y0 y1 y2
  go_upto_region 3 with fail
  have L10 := Lib.hid (Lies.new w2 #[.int .i64 oe, .int .i64 ow] 41)
  have hb4 := below_al (o := .cells #[.int .i64 oe, .int .i64 ow] 41) hb3
  have L73 := Lib.hid (L7.out.below hb4)
  have HB3 := Lib.hid (below_next HB2.out hb4)
  obtain ⟨b10, hb10⟩ : ∃ b, b = w2.heap.size := ⟨_, rfl⟩
  obtain ⟨W2, hW⟩ : ∃ W, W = w2.alloc (.cells #[.int .i64 oe, .int .i64 ow] 41) := ⟨_, rfl⟩
  rw [← hW] at L10 L73 HB3 ⊢
  rw [← hb10] at L10 ⊢
  clear hW hb10 hb3 hb4 LR2 LP2 HB2 L7
  go_wp2_with fail
  refine (HO.out _).mono ?_
  rintro e w3 ⟨rfl, hb5⟩
  go_upto_region 4 with fail
  have L13 := Lib.hid ((Lies.new w3 #[.int .i64 qe, .int .i64 0, .slice none 0 0, .int .i64 0] 24).al (o := .cells #[.int .i64 qe, .int .i64 0] 41))
  have L14 := Lib.hid (Gen.lies_new1 w3 (.cells #[.int .i64 qe, .int .i64 0, .slice none 0 0, .int .i64 0] 24) #[.int .i64 qe, .int .i64 0] 41)
  have hb6 := below_al (o := .cells #[.int .i64 qe, .int .i64 0] 41) (below_al (o := .cells #[.int .i64 qe, .int .i64 0, .slice none 0 0, .int .i64 0] 24) hb5)
  have L74 := Lib.hid (L73.out.below hb6)
  have L104 := Lib.hid (L10.out.below hb6)
  have HB4 := Lib.hid (below_next HB3.out hb6)
  obtain ⟨b13, hb13⟩ : ∃ b, b = w3.heap.size := ⟨_, rfl⟩
  obtain ⟨W3, hW⟩ : ∃ W, W = (w3.alloc (.cells #[.int .i64 qe, .int .i64 0, .slice none 0 0, .int .i64 0] 24)).alloc (.cells #[.int .i64 qe, .int .i64 0] 41) := ⟨_, rfl⟩
  rw [← hW] at L13 L14 L74 L104 HB4 ⊢
  rw [← hb13] at L13 L14 ⊢
  clear hW hb13 hb5 hb6 HB3 L73 L10
  rcases hway with ⟨h1, rfl, rfl⟩ | ⟨h1, h2, rfl, rfl⟩ | ⟨h1, h2, rfl, rfl⟩
  all_goals (
    go_wp2_with fail
    refine (HA.out _).mono ?_
    rintro e w4 ⟨rfl, hb7⟩
    have L75 := Lib.hid (L74.out.below hb7)
    have L105 := Lib.hid (L104.out.below hb7)
    have L135 := Lib.hid (L13.out.below hb7)
    have L145 := Lib.hid (L14.out.below hb7)
    have HB5 := Lib.hid (below_next HB4.out hb7)
    clear hb7
    have x0 := L75.out.cell (j := 0) rfl
    have x1 := L75.out.cell (j := 1) rfl
    have y0 := L105.out.cell (j := 0) rfl
    have y1 := L105.out.cell (j := 1) rfl
    have z0 := L135.out.cell (j := 0) rfl
    have z1 := L135.out.cell (j := 1) rfl
    have z2 := L135.out.cell (j := 2) rfl
    have z3 := L135.out.cell (j := 3) rfl
    go_wp2_with fail
    refine (HL.out _).mono ?_
    rintro e w5 ⟨rfl, hb8⟩
    have L146 := Lib.hid (L145.out.below hb8)
    have HB6 := Lib.hid (below_next HB5.out hb8)
    clear hb8 x0 x1 y0 y1 z0 z1 z2 z3
    have x0 := L146.out.cell (j := 0) rfl
    have x1 := L146.out.cell (j := 1) rfl
    go_wp2_with fail
    go_ret
    exact ⟨rfl, HB6.out⟩)
theorem lawLinkTakes : Lift.Owes 4 [41, 26, 3] := by
  intro H enc W base args ds ps hval hA _ _
  obtain ⟨v0, v1, v2, d0, d1, d2, p0, p1, p2, rfl, rfl, rfl, h0, h1, h2⟩ := trodAll_three hA
  obtain ⟨r, rfl⟩ := openReceiver (hval 0 _ v0 rfl rfl) h0
  obtain ⟨p, rfl⟩ := openPacket (hval 1 _ v1 rfl rfl) h1
  obtain ⟨x2, rfl, _, _, wf2⟩ := open_int Try.underlying3 (hval 2 _ v2 rfl rfl) h2
  exact walkLinkTakes r p x2 W
end Lk
theorem lawLinkTakes : Lift.Owes 4 [41, 26, 3] := Lk.lawLinkTakes
end Go.Proofs.Ytbdlmokgmgpbfaa
