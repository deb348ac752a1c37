/- Put, Step, Len of a queue. -/
import Derived.Test.YtdfdfdhgggilbaaLoopTurn
import Derived.Deep.RegionHeld3
namespace Go.Proofs.Ytdfdfdhgggilbaa
open Go.RowKit
set_option linter.unusedVariables false
namespace Lp
open Gen
theorem Que.drew {w : World} {b : Nat} {L : Int} {F : Nat} {l : List Tr} (h : Que w b L F l) : Que w.drew b L F l := h.block rfl
abbrev ev0 (e : Ev) : Array Value := #[.string e.key, .int .i64 e.at_, .int .i64 e.val, .int .i64 0]
theorem lpLen (b : Nat) (L : Int) (F : Nat) (l : List Tr) (w : World) (H : Que w b L F l) : Calls Try.prog 17 #[.pointer (some ⟨b, 0, none⟩)] w (SaysI (l.length : Int) w) := by
  obtain ⟨ps, f, n, hr, hL⟩ := H
  have c67 : w.cell? ⟨b, 67, none⟩ = some (.int .i64 (n : Int)) := hL.cell (q_n hr.size)
  have hn := Lib.hid hr.len
  clear hr hL
  go_enter Try.func17, Try.ntmps17
  go_wp2_with fail
  go_ret
  exact ⟨by rw [hn.out]; rfl, rfl⟩
theorem lpLenNil (w : World) : Calls Try.prog 17 #[.pointer none] w (SaysI 0 w) := by
  go_enter Try.func17, Try.ntmps17
  go_wp2_with fail
  go_ret
  exact ⟨rfl, rfl⟩
theorem lpPutNil (e : Ev) (w : World) : Calls Try.prog 14 #[.pointer none, evV e] w (TellsI 3 w) := by
  go_enter Try.func14, Try.ntmps14
  go_wp2_with fail
  go_quiet (fail)
  go_wp2_with fail
  go_ret
  exact ⟨rfl, below_drewN (below_al (Below.refl _ _))⟩
theorem zeroT (u : World) : (zeroValue 52).run Try.prog u = .ok (.agg trZ) u := by kernel_rfl
set_option maxHeartbeats 1000000 in
theorem lpPut (b : Nat) (L : Int) (F : Nat) (l : List Tr) (e : Ev) (w : World) (H : Que w b L F l) (hl : l.length < 16) :
    Calls Try.prog 14 #[.pointer (some ⟨b, 0, none⟩), evV e] w fun r w' => r = .returned (.int .i64 0) ∧ Que w' b L F (l ++ [⟨e, 0⟩]) ∧ Mine (· = b) w w' := by
  have HQ := Lib.hid (H.below (below_al (o := .cells (evC e) 23) (Below.refl _ _)))
  have lt0 := H.lt
  have HP : Hid (Calls Try.prog 21 #[.pointer (some ⟨b, 2, none⟩), .agg (ev0 e)] (w.alloc (.cells (evC e) 23)).drew fun r w' => r = .returned (.bool true) ∧ Que w' b L F (l ++ [⟨e, 0⟩]) ∧ Mine (· = b) (w.alloc (.cells (evC e) 23)).drew w') :=
    Lib.hid (lpPutOk b L F l ⟨e, 0⟩ _ HQ.out.drew hl)
  have hz := zeroT
  clear H hl
  go_enter Try.func14, Try.ntmps14
  go_wp2_with fail
  go_region_with (first | (go_at_call 21; refine HP.out.mono ?_; rintro e w1 ⟨rfl, q1, q2⟩))
  have Q1 := Lib.hid q1
  have Q2 := Lib.hid (((Mine.alloc (· = b) w (.cells (evC e) 23)).trans (Mine.drew _ _)).trans q2)
  clear q1 q2
  go_wp2_with fail
  go_ret
  exact ⟨rfl, Q1.out, Q2.out⟩
set_option maxHeartbeats 1000000 in
theorem lpPutFull (b : Nat) (L : Int) (F : Nat) (l : List Tr) (e : Ev) (w : World) (H : Que w b L F l) (hl : l.length = 16) :
    Calls Try.prog 14 #[.pointer (some ⟨b, 0, none⟩), evV e] w (TellsI 3 w) := by
  have HQ := Lib.hid (H.below (below_al (o := .cells (evC e) 23) (Below.refl _ _)))
  have lt0 := H.lt
  have HP : Hid (Calls Try.prog 21 #[.pointer (some ⟨b, 2, none⟩), .agg (ev0 e)] (w.alloc (.cells (evC e) 23)).drew (TellsB false (w.alloc (.cells (evC e) 23)).drew)) :=
    Lib.hid (lpPutNo b L F l ⟨e, 0⟩ _ HQ.out.drew hl)
  have hz := zeroT
  clear H hl
  go_enter Try.func14, Try.ntmps14
  go_wp2_with fail
  go_region_with (first | (go_at_call 21; refine HP.out.mono ?_; rintro e w1 ⟨rfl, q1⟩))
  have Q1 := Lib.hid (below_next (below_drewOf (below_al (o := .cells (evC e) 23) (Below.refl w.heap.size w))) q1)
  clear q1
  go_wp2_with fail
  go_ret
  exact ⟨rfl, Q1.out⟩
def evOf : Option Tr → Ev
  | some t => t.ev
  | none => zEv
theorem evOf_tr (o : Option Tr) : (trOf o).ev = evOf o := by cases o <;> rfl
theorem step_ret {Post : Ending → World → Prop} {e : Ev} {b : Bool} {rb : Nat} {w : World} {act : Act} (ht : act.tmps.getD 2 undef = .pointer (some ⟨rb, 0, none⟩)) (hs : act.tmps.getD 3 undef = .bool b) (hd : act.defers = []) (hl : Lies rb (evC e) 23 w) (h : Post (.returned (.tuple #[evV e, .bool b])) w) :
    bodyPost Try.prog Try.f15 Post Exit.ret act w := by
  have c0 : w.cell? ⟨rb, 0, none⟩ = some (.string e.key) := hl.cell (j := 0) rfl
  have c1 : w.cell? ⟨rb, 1, none⟩ = some (.int .i64 e.at_) := hl.cell (j := 1) rfl
  have c2 : w.cell? ⟨rb, 2, none⟩ = some (.int .i64 e.val) := hl.cell (j := 2) rfl
  have ht2 : act.tmps[2]?.getD undef = .pointer (some ⟨rb, 0, none⟩) := by simpa using ht
  have hs2 : act.tmps[3]?.getD undef = .bool b := by simpa using hs
  exact bodyPost_ret (v := .tuple #[evV e, .bool b]) (by simp [results, Try.results15, go_sem, ht2, hs2, c0, c1, c2]) hd h
theorem lpStepNil (w : World) : Calls Try.prog 15 #[.pointer none] w fun r w' => r = .returned (.tuple #[evV zEv, .bool false]) ∧ Below w.heap.size w w' := by
  go_enter Try.func15, Try.ntmps15
  go_wp2_with fail
  exact step_ret (e := zEv) (b := false) (rb := w.heap.size) rfl rfl rfl (Lies.new w _ _) ⟨rfl, below_al (Below.refl _ _)⟩
/-- What Step hands back. -/
def StepPost (L : Int) (F : Nat) (b : Nat) (l : List Tr) (w : World) (r : Ending) (w' : World) : Prop :=
  r = .returned (.tuple #[evV (evOf (step L F l).2), .bool (step L F l).2.isSome]) ∧ Que w' b L F (step L F l).1 ∧ Mine (· = b) w w'
theorem step_fin {w w1 : World} {b : Nat} {L : Int} {F : Nat} {l : List Tr} {u0 u1 u2 : Value} {R : Nat} (hne : R ≠ b) (hR : w.heap.size ≤ R) (K0 : Lies R #[u0, u1, u2] 23 w1) (KQ : Que w1 b L F l) (KM : Mine (· = b) w w1) (v0 v1 v2 : Value) :
    Lies R #[v0, v1, v2] 23 (((w1.setCell ⟨R, 0, none⟩ v0).setCell ⟨R, 1, none⟩ v1).setCell ⟨R, 2, none⟩ v2) ∧
    Que (((w1.setCell ⟨R, 0, none⟩ v0).setCell ⟨R, 1, none⟩ v1).setCell ⟨R, 2, none⟩ v2) b L F l ∧
    Mine (· = b) w (((w1.setCell ⟨R, 0, none⟩ v0).setCell ⟨R, 1, none⟩ v1).setCell ⟨R, 2, none⟩ v2) := by
  refine ⟨Lies.set3 K0 _ _ _, ?_, ?_⟩
  · have m : Mine (· = R) w1 _ := ((Mine.set (M := (· = R)) w1 (a := ⟨R, 0, none⟩) v0 rfl).trans (Mine.set (M := (· = R)) _ (a := ⟨R, 1, none⟩) v1 rfl)).trans (Mine.set (M := (· = R)) _ (a := ⟨R, 2, none⟩) v2 rfl)
    exact KQ.mine m fun e => hne e.symm
  · exact ((KM.set_new (a := ⟨R, 0, none⟩) hR v0).set_new (a := ⟨R, 1, none⟩) hR v1).set_new (a := ⟨R, 2, none⟩) hR v2
set_option maxHeartbeats 4000000 in
theorem lpStep (b : Nat) (L : Int) (F : Nat) (l : List Tr) (w : World) (H : Que w b L F l) (hv : ∀ t ∈ l, inI t.ev.val) (hL : 0 ≤ L ∧ L ≤ 9223372036854775807) (hF : F ≤ 40) :
    Calls Try.prog 15 #[.pointer (some ⟨b, 0, none⟩)] w (StepPost L F b l w) := by
  have lt0 := H.lt
  have HQ := Lib.hid H
  have HT := Lib.hid (fun w (H : Que w b L F l) => lpTurn b L F l w H hv hL hF)
  have hmf : ∀ (fn : Fn) (first cap : Array Value) (w : World), (Instr.makeFunc fn first cap).run Try.prog w = .ok (.func fn first cap) w := fun _ _ _ _ => rfl
  have L0 := Lib.hid (Lies.new w (evC zEv) 23)
  have M0 := Lib.hid (Mine.alloc (· = b) w (.cells (evC zEv) 23))
  have Q0 := Lib.hid (H.below (below_al (o := .cells (evC zEv) 23) (Below.refl _ _)))
  obtain ⟨w2, hw⟩ : ∃ w2, w2 = w.alloc (.cells (evC zEv) 23) := ⟨_, rfl⟩
  clear H hv hL hF
  go_enter Try.func15, Try.ntmps15
  go_wp2_with fail
  rw [← hw] at L0 M0 Q0 ⊢
  have e0 : w.heap.size < w2.heap.size := lt_of_block L0.out
  have e1 : b < w2.heap.size := by omega
  have hq := Q0.out
  obtain ⟨ps, f, n, h1, h2⟩ := hq
  have c0 : w2.cell? ⟨b, 0, none⟩ = some (.int .u64 L) := h2.cell q_limit
  have c1 : w2.cell? ⟨b, 1, none⟩ = some (.int .i64 (F : Int)) := h2.cell q_fuel
  obtain ⟨o, ho⟩ : ∃ o, o = (step L F l).2 := ⟨_, rfl⟩
  clear hw h1 h2
  have HA := Lib.hid (below_drewOf (Below.refl w2.heap.size w2))
  have HB := Lib.hid (below_drewOf (below_al (o := .cells trZ 52) (Below.refl w2.heap.size w2)))
  have HC := Lib.hid (HT.out _ (Q0.out.below HA.out))
  have HD := Lib.hid (HT.out _ (Q0.out.below HB.out))
  have LT := Lib.hid ((Lies.new w2 trZ 52).drew)
  clear HT
  go_region_with (first
    | (go_at_call 22
       refine HC.out.mono ?_
       rintro e w1 ⟨rfl, q1, q2⟩
       have Q1 := Lib.hid q1
       have K0 := Lib.hid (q2.lies L0.out.drew (by omega))
       have KM := Lib.hid ((M0.out.trans (Mine.up HA.out)).trans q2)
       clear q1 q2)
    | (go_at_call 22
       refine HD.out.mono ?_
       rintro e w1 ⟨rfl, q1, q2⟩
       have Q1 := Lib.hid q1
       have K0 := Lib.hid (q2.lies (L0.out.below HB.out) (by omega))
       have KM := Lib.hid ((M0.out.trans (Mine.up HB.out)).trans q2)
       have KT := Lib.hid (q2.lies LT.out (by omega))
       have d0 := KT.out.cell (j := 0) rfl
       have d1 := KT.out.cell (j := 1) rfl
       have d2 := KT.out.cell (j := 2) rfl
       have d3 := KT.out.cell (j := 3) rfl
       have g0 := KT.out.free 0
       have g1 := KT.out.free 1
       have g2 := KT.out.free 2
       have g3 := KT.out.free 3
       clear q1 q2))
  all_goals first
    | (have e2 : w2.heap.size < w1.heap.size := lt_of_block KT.out
       have a0 := K0.out.cell (j := 0) rfl
       have a1 := K0.out.cell (j := 1) rfl
       have a2 := K0.out.cell (j := 2) rfl
       have g4 := K0.out.free 0
       have g5 := K0.out.free 1
       have g6 := K0.out.free 2
       go_wp2_with fail
       obtain ⟨x1, x2, x3⟩ := turn_fin (R := w2.heap.size) (by omega) (by omega) KT.out Q1.out KM.out (.string (trOf (step L F l).2).ev.key) (.int .i64 (trOf (step L F l).2).ev.at_) (.int .i64 (trOf (step L F l).2).ev.val) (.int .i64 ((trOf (step L F l).2).n : Int))
       have hne : w.heap.size ≠ w2.heap.size := by omega
       obtain ⟨z1, z2, z3⟩ := step_fin (R := w.heap.size) (by omega) (Nat.le_refl _) ((((K0.out.other hne 0 (.string (trOf (step L F l).2).ev.key)).other hne 1 (.int .i64 (trOf (step L F l).2).ev.at_)).other hne 2 (.int .i64 (trOf (step L F l).2).ev.val)).other hne 3 (.int .i64 ((trOf (step L F l).2).n : Int))) x2 x3 (.string (trOf (step L F l).2).ev.key) (.int .i64 (trOf (step L F l).2).ev.at_) (.int .i64 (trOf (step L F l).2).ev.val)
       exact step_ret (e := (trOf (step L F l).2).ev) (b := (step L F l).2.isSome) (rb := w.heap.size) rfl rfl rfl z1 ⟨by rw [evOf_tr], z2, z3⟩)
    | (have e2 : w.heap.size < w1.heap.size := lt_of_block K0.out
       have a0 := K0.out.cell (j := 0) rfl
       have a1 := K0.out.cell (j := 1) rfl
       have a2 := K0.out.cell (j := 2) rfl
       have g4 := K0.out.free 0
       have g5 := K0.out.free 1
       have g6 := K0.out.free 2
       go_wp2_with fail
       obtain ⟨z1, z2, z3⟩ := step_fin (R := w.heap.size) (by omega) (Nat.le_refl _) K0.out Q1.out KM.out (.string (trOf (step L F l).2).ev.key) (.int .i64 (trOf (step L F l).2).ev.at_) (.int .i64 (trOf (step L F l).2).ev.val)
       exact step_ret (e := (trOf (step L F l).2).ev) (b := (step L F l).2.isSome) (rb := w.heap.size) rfl rfl rfl z1.al ⟨by rw [evOf_tr], z2.below (below_al (Below.refl _ _)), z3.trans (Mine.alloc _ _ _)⟩)
end Lp
end Go.Proofs.Ytdfdfdhgggilbaa
