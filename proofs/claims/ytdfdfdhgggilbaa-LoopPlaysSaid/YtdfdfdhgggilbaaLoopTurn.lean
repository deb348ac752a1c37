/- turn, New, Put, Step, Len of a queue. -/
import Derived.Test.YtdfdfdhgggilbaaLoopQ
namespace Go.Proofs.Ytdfdfdhgggilbaa
open Go.RowKit
set_option linter.unusedVariables false
namespace Lp
open Gen
def trOf : Option Tr → Tr
  | some t => t
  | none => zTr
/-- What a step hands back. -/
def TurnPost (L : Int) (F : Nat) (b : Nat) (l : List Tr) (w : World) (e : Ending) (w' : World) : Prop :=
  e = .returned (.tuple #[trV (trOf (step L F l).2), .bool (step L F l).2.isSome]) ∧ Que w' b L F (step L F l).1 ∧ Mine (· = b) w w'
theorem turn_ret {Post : Ending → World → Prop} {t : Tr} {b : Bool} {rb : Nat} {w : World} {act : Act} (ht : act.tmps.getD 4 undef = .pointer (some ⟨rb, 0, none⟩)) (hs : act.tmps.getD 5 undef = .bool b) (hd : act.defers = []) (hl : Lies rb (trC t) 52 w) (h : Post (.returned (.tuple #[trV t, .bool b])) w) :
    bodyPost Try.prog Try.f22 Post Exit.ret act w := by
  have c0 : w.cell? ⟨rb, 0, none⟩ = some (.string t.ev.key) := hl.cell (j := 0) rfl
  have c1 : w.cell? ⟨rb, 1, none⟩ = some (.int .i64 t.ev.at_) := hl.cell (j := 1) rfl
  have c2 : w.cell? ⟨rb, 2, none⟩ = some (.int .i64 t.ev.val) := hl.cell (j := 2) rfl
  have c3 : w.cell? ⟨rb, 3, none⟩ = some (.int .i64 (t.n : Int)) := hl.cell (j := 3) rfl
  have ht2 : act.tmps[4]?.getD undef = .pointer (some ⟨rb, 0, none⟩) := by simpa using ht
  have hs2 : act.tmps[5]?.getD undef = .bool b := by simpa using hs
  exact bodyPost_ret (v := .tuple #[trV t, .bool b]) (by simp [results, Try.results22, go_sem, ht2, hs2, c0, c1, c2, c3]) hd h
/-- The answer laid down beside a queue. -/
theorem turn_fin {w w1 : World} {b : Nat} {L : Int} {F : Nat} {l : List Tr} {u0 u1 u2 u3 : Value} {R : Nat} (hne : R ≠ b) (hR : w.heap.size ≤ R) (K0 : Lies R #[u0, u1, u2, u3] 52 w1) (KQ : Que w1 b L F l) (KM : Mine (· = b) w w1) (v0 v1 v2 v3 : Value) :
    Lies R #[v0, v1, v2, v3] 52 ((((w1.setCell ⟨R, 0, none⟩ v0).setCell ⟨R, 1, none⟩ v1).setCell ⟨R, 2, none⟩ v2).setCell ⟨R, 3, none⟩ v3) ∧
    Que ((((w1.setCell ⟨R, 0, none⟩ v0).setCell ⟨R, 1, none⟩ v1).setCell ⟨R, 2, none⟩ v2).setCell ⟨R, 3, none⟩ v3) b L F l ∧
    Mine (· = b) w ((((w1.setCell ⟨R, 0, none⟩ v0).setCell ⟨R, 1, none⟩ v1).setCell ⟨R, 2, none⟩ v2).setCell ⟨R, 3, none⟩ v3) := by
  refine ⟨Lies.set4 K0 _ _ _ _, ?_, ?_⟩
  · have m : Mine (· = R) w1 _ := (((Mine.set (M := (· = R)) w1 (a := ⟨R, 0, none⟩) v0 rfl).trans (Mine.set (M := (· = R)) _ (a := ⟨R, 1, none⟩) v1 rfl)).trans (Mine.set (M := (· = R)) _ (a := ⟨R, 2, none⟩) v2 rfl)).trans (Mine.set (M := (· = R)) _ (a := ⟨R, 3, none⟩) v3 rfl)
    exact KQ.mine m fun e => hne e.symm
  · exact (((KM.set_new (a := ⟨R, 0, none⟩) hR v0).set_new (a := ⟨R, 1, none⟩) hR v1).set_new (a := ⟨R, 2, none⟩) hR v2).set_new (a := ⟨R, 3, none⟩) hR v3
theorem step_in {L : Int} {F : Nat} {l : List Tr} (h : ∀ t ∈ l, inI t.ev.val) : ∀ t ∈ (step L F l).1, inI t.ev.val := by
  cases l with
  | nil => exact h
  | cons t r =>
    cases hq : leaves L F t
    · rw [step_on hq]
      intro u hu
      rcases List.mem_append.1 hu with h1 | h1
      · exact h u (by simp [h1])
      · rw [List.mem_singleton.1 h1]; exact half_in (h t (by simp))
    · rw [step_out hq]
      exact fun u hu => h u (by simp [hu])
set_option maxHeartbeats 1000000 in
theorem lpTurn (b : Nat) (L : Int) (F : Nat) (l : List Tr) (w : World) (H : Que w b L F l) (hv : ∀ t ∈ l, inI t.ev.val) (hL : 0 ≤ L ∧ L ≤ 9223372036854775807) (hF : F ≤ 40) :
    Calls Try.prog 22 #[.pointer (some ⟨b, 2, none⟩), .func (.func 19) #[ruV L F] #[]] w (TurnPost L F b l w) := by
  have lt0 := H.lt
  have L0 := Lib.hid ((Lies.new w trZ 52).al (o := .cells trZ 52))
  have L1 := Lib.hid (lies_new1 w (.cells trZ 52) trZ 52)
  have M0 := Lib.hid ((Mine.alloc (· = b) w (.cells trZ 52)).trans (Mine.alloc _ _ (.cells trZ 52)))
  have HQ := Lib.hid (H.below (below_al (o := .cells trZ 52) (below_al (o := .cells trZ 52) (Below.refl _ _))))
  clear H
  cases l with
  | nil =>
    have HT := Lib.hid (lpTakeNo b L F _ HQ.out)
    go_enter Try.func22, Try.ntmps22
    go_wp2_with fail
    refine HT.out.mono ?_
    rintro e w1 ⟨rfl, hb1⟩
    have K0 := Lib.hid (L0.out.below hb1)
    have K1 := Lib.hid (L1.out.below hb1)
    have KQ := Lib.hid (HQ.out.below hb1)
    have KM := Lib.hid (M0.out.trans (Mine.up hb1))
    have e0 : w.heap.size < w1.heap.size := lt_of_block K0.out
    have e1 : w.heap.size + 1 < w1.heap.size := lt_of_block K1.out
    clear hb1
    have a0 := K0.out.cell (j := 0) rfl
    have a1 := K0.out.cell (j := 1) rfl
    have a2 := K0.out.cell (j := 2) rfl
    have a3 := K0.out.cell (j := 3) rfl
    have g0 := K0.out.free 0
    have g1 := K0.out.free 1
    have g2 := K0.out.free 2
    have g3 := K0.out.free 3
    have b0 := K1.out.cell (j := 0) rfl
    have b1 := K1.out.cell (j := 1) rfl
    have b2 := K1.out.cell (j := 2) rfl
    have b3 := K1.out.cell (j := 3) rfl
    go_wp2_with fail
    obtain ⟨z1, z2, z3⟩ := turn_fin (R := w.heap.size) (by omega) (Nat.le_refl _) K0.out KQ.out KM.out (.string ⟨#[]⟩) (.int .i64 0) (.int .i64 0) (.int .i64 0)
    exact turn_ret (t := zTr) (b := false) (rb := w.heap.size) rfl rfl rfl z1.al ⟨rfl, z2.below (below_al (Below.refl _ _)), z3.trans (Mine.alloc _ _ _)⟩
  | cons t r =>
    have HT := Lib.hid (lpTakeOk b L F t r _ HQ.out)
    have HP := Lib.hid (fun w => lpPass L F t (hv t (by simp)) hL hF w)
    cases hq : leaves L F t
    · have hs := step_on hq r
      rw [hq] at HP
      have hp : passed L F t = next t := by unfold passed; rw [hq]; rfl
      rw [hp] at HP
      have hlr : Hid (r.length < 16) := Lib.hid (by
        obtain ⟨_, _, _, h1, _⟩ := HQ.out
        have h2 := h1.len; have h3 := h1.few; rw [List.length_cons] at h2; omega)
      clear hp hq hv hL
      go_enter Try.func22, Try.ntmps22
      go_wp2_with fail
      refine HT.out.mono ?_
      rintro e w1 ⟨rfl, q1, q2⟩
      have K0 := Lib.hid (q2.lies L0.out (by omega))
      have K1 := Lib.hid (q2.lies L1.out (by omega))
      have KQ := Lib.hid q1
      have KM := Lib.hid (M0.out.trans q2)
      have e0 : w.heap.size < w1.heap.size := lt_of_block K0.out
      have e1 : w.heap.size + 1 < w1.heap.size := lt_of_block K1.out
      clear q1 q2
      have LN := Lib.hid (Lies.new w1 (trC t) 52)
      go_wp2_with fail
      refine (HP.out _).mono ?_
      rintro e w2 ⟨rfl, hb2⟩
      have K0' := Lib.hid (K0.out.al.below hb2)
      have K1' := Lib.hid (K1.out.al.below hb2)
      have KQ' := Lib.hid ((KQ.out.below (below_al (Below.refl _ _))).below hb2)
      have KM' := Lib.hid ((KM.out.trans (Mine.alloc _ _ (.cells (trC t) 52))).trans (Mine.up hb2))
      have e2 : w.heap.size < w2.heap.size := lt_of_block K0'.out
      have e3 : w.heap.size + 1 < w2.heap.size := lt_of_block K1'.out
      clear hb2
      go_wp2_with fail
      have LX := Lib.hid ((Lies.new w2 (trC (next t)) 52))
      have K0a := Lib.hid (K0'.out.al (o := .cells (trC (next t)) 52))
      have K1a := Lib.hid (K1'.out.al (o := .cells (trC (next t)) 52))
      have KQa := Lib.hid (KQ'.out.below (below_al (o := .cells (trC (next t)) 52) (Below.refl _ _)))
      refine (lpPutOk b L F r (next t) _ KQa.out hlr.out).mono ?_
      rintro e w3 ⟨rfl, q3, q4⟩
      have K0b := Lib.hid (q4.lies K0a.out (by omega))
      have K1b := Lib.hid (q4.lies K1a.out (by omega))
      have KM3 := Lib.hid ((KM'.out.trans (Mine.alloc _ _ (.cells (trC (next t)) 52))).trans q4)
      have KQ3 := Lib.hid q3
      clear q3 q4
      have a0 := K0b.out.cell (j := 0) rfl
      have a1 := K0b.out.cell (j := 1) rfl
      have a2 := K0b.out.cell (j := 2) rfl
      have a3 := K0b.out.cell (j := 3) rfl
      have g0 := K0b.out.free 0
      have g1 := K0b.out.free 1
      have g2 := K0b.out.free 2
      have g3 := K0b.out.free 3
      have b0 := K1b.out.cell (j := 0) rfl
      have b1 := K1b.out.cell (j := 1) rfl
      have b2 := K1b.out.cell (j := 2) rfl
      have b3 := K1b.out.cell (j := 3) rfl
      go_wp2_with fail
      obtain ⟨z1, z2, z3⟩ := turn_fin (R := w.heap.size) (by omega) (Nat.le_refl _) K0b.out KQ3.out KM3.out (.string ⟨#[]⟩) (.int .i64 0) (.int .i64 0) (.int .i64 0)
      exact turn_ret (t := zTr) (b := false) (rb := w.heap.size) rfl rfl rfl z1 ⟨by rw [hs]; rfl, by rw [hs]; exact z2, z3⟩
    · have hs := step_out hq r
      rw [hq] at HP
      have hp : passed L F t = t := by unfold passed; rw [hq]; rfl
      rw [hp] at HP
      clear hp hq hv hL
      go_enter Try.func22, Try.ntmps22
      go_wp2_with fail
      refine HT.out.mono ?_
      rintro e w1 ⟨rfl, q1, q2⟩
      have K0 := Lib.hid (q2.lies L0.out (by omega))
      have K1 := Lib.hid (q2.lies L1.out (by omega))
      have KQ := Lib.hid q1
      have KM := Lib.hid (M0.out.trans q2)
      have e0 : w.heap.size < w1.heap.size := lt_of_block K0.out
      have e1 : w.heap.size + 1 < w1.heap.size := lt_of_block K1.out
      clear q1 q2
      have LN := Lib.hid (Lies.new w1 (trC t) 52)
      go_wp2_with fail
      refine (HP.out _).mono ?_
      rintro e w2 ⟨rfl, hb2⟩
      have K0' := Lib.hid (K0.out.al.below hb2)
      have K1' := Lib.hid (K1.out.al.below hb2)
      have KQ' := Lib.hid ((KQ.out.below (below_al (Below.refl _ _))).below hb2)
      have KM' := Lib.hid ((KM.out.trans (Mine.alloc _ _ (.cells (trC t) 52))).trans (Mine.up hb2))
      have e2 : w.heap.size < w2.heap.size := lt_of_block K0'.out
      have e3 : w.heap.size + 1 < w2.heap.size := lt_of_block K1'.out
      clear hb2
      have a0 := K0'.out.cell (j := 0) rfl
      have a1 := K0'.out.cell (j := 1) rfl
      have a2 := K0'.out.cell (j := 2) rfl
      have a3 := K0'.out.cell (j := 3) rfl
      have g0 := K0'.out.free 0
      have g1 := K0'.out.free 1
      have g2 := K0'.out.free 2
      have g3 := K0'.out.free 3
      go_wp2_with fail
      obtain ⟨z1, z2, z3⟩ := turn_fin (R := w.heap.size) (by omega) (Nat.le_refl _) K0'.out KQ'.out KM'.out (.string t.ev.key) (.int .i64 t.ev.at_) (.int .i64 t.ev.val) (.int .i64 (t.n : Int))
      exact turn_ret (t := t) (b := true) (rb := w.heap.size) rfl rfl rfl z1.al ⟨by rw [hs]; rfl, by rw [hs]; exact z2.below (below_al (Below.refl _ _)), z3.trans (Mine.alloc _ _ _)⟩
theorem zeroQ (u : World) : (zeroValue 60).run Try.prog u = .ok (.agg (qC 0 0 (List.replicate 16 zTr) 0 0)) u := by kernel_rfl
theorem q_rule (L : Int) (F : Nat) (ps : List Tr) (f n : Nat) : ((qC 0 0 ps f n).setIfInBounds 0 (.int .u64 L)).setIfInBounds 1 (.int .i64 (F : Int)) = qC L F ps f n := by simp [qC, qL]
theorem lpNew (l f : Int) (hl : inI l) (w : World) : Calls Try.prog 13 #[.int .i64 l, .int .i64 f] w fun e w' => ∃ b, e = .returned (.pointer (some ⟨b, 0, none⟩)) ∧ w.heap.size ≤ b ∧ Que w' b (limOf l) (fuelOf f) [] ∧ Below w.heap.size w w' := by
  have HR := Lib.hid (fun w => lpRule l f hl w)
  obtain ⟨C0, hC⟩ : ∃ C, C = qC 0 0 (List.replicate 16 zTr) 0 0 := ⟨_, rfl⟩
  obtain ⟨C1, hC1⟩ : ∃ C, C = qC (limOf l) (fuelOf f) (List.replicate 16 zTr) 0 0 := ⟨_, rfl⟩
  have hz := zeroQ
  rw [← hC] at hz
  have hsz : (C0.size < 2) = False := by rw [hC]; simp [qC, qL]
  have hset := q_rule (limOf l) (fuelOf f) (List.replicate 16 zTr) 0 0
  rw [← hC, ← hC1] at hset
  have HC1 := Lib.hid hC1
  clear hl hC hC1
  go_enter Try.func13, Try.ntmps13
  go_wp2_with fail
  refine (HR.out _).mono ?_
  rintro e w1 ⟨rfl, hb1⟩
  have HB := Lib.hid hb1
  clear hb1
  go_wp2_with fail
  go_ret
  exact ⟨_, rfl, HB.out.size, ⟨_, 0, 0, Ring.start, by rw [← HC1.out]; exact Lies.new _ _ _⟩, below_al HB.out⟩
end Lp
end Go.Proofs.Ytdfdfdhgggilbaa
