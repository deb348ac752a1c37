/- LoopQ, LoopTurn, LoopPut, LoopRun, LoopRef, put together. -/
import Derived.Test.YtipmphkmeiogoaaZ19
import Derived.Deep.RegionHeld3
/- A queue in memory: its rule, and a line of trips in an array that they go round in; put. -/
namespace Go.Proofs.Ytipmphkmeiogoaa
open Go.RowKit
set_option linter.unusedVariables false
namespace Lp
open Gen
abbrev trZ : Array Value := #[.string ⟨#[]⟩, .int .i64 0, .int .i64 0, .int .i64 0]
theorem trZ_eq : trC zTr = trZ := rfl
theorem trL_len (t : Tr) : (trL t).length = 4 := rfl
/-- A queue's cells. -/
def qL (L : Int) (F : Nat) (ps : List Tr) (f n : Nat) : List Value := .int .u64 L :: .int .i64 (F : Int) :: (ps.flatMap trL ++ [.int .i64 (f : Int), .int .i64 (n : Int)])
def qC (L : Int) (F : Nat) (ps : List Tr) (f n : Nat) : Array Value := (qL L F ps f n).toArray
section
variable {L : Int} {F f n : Nat} {ps : List Tr}
theorem q_flat (h : ps.length = 16) : (ps.flatMap trL).length = 64 := by rw [flat_len trL trL_len, h]
theorem q_limit : (qC L F ps f n)[0]? = some (.int .u64 L) := by simp [qC, qL]
theorem q_fuel : (qC L F ps f n)[1]? = some (.int .i64 (F : Int)) := by simp [qC, qL]
theorem q_first (h : ps.length = 16) : (qC L F ps f n)[66]? = some (.int .i64 (f : Int)) := by
  have h2 := q_flat h
  simp only [qC, qL, List.getElem?_toArray]
  rw [List.getElem?_cons_succ, List.getElem?_cons_succ, List.getElem?_append_right (by omega), h2]
  rfl
theorem q_n (h : ps.length = 16) : (qC L F ps f n)[67]? = some (.int .i64 (n : Int)) := by
  have h2 := q_flat h
  simp only [qC, qL, List.getElem?_toArray]
  rw [List.getElem?_cons_succ, List.getElem?_cons_succ, List.getElem?_append_right (by omega), h2]
  rfl
theorem q_get {p j : Nat} {t : Tr} (h : ps.length = 16) (hp : ps[p]? = some t) (hj : j < 4) : (qC L F ps f n)[2 + (p * 4 + j)]? = (trL t)[j]? := by
  have h2 := q_flat h
  have h3 := (List.getElem?_eq_some_iff.1 hp).1
  simp only [qC, qL, List.getElem?_toArray]
  rw [Nat.add_comm 2, List.getElem?_cons_succ, List.getElem?_cons_succ, List.getElem?_append_left (by omega), flat_get trL trL_len hp hj]
theorem flat_set : ∀ {ps : List Tr} {p : Nat} (t : Tr) (r : List Value), p < ps.length →
    ((((ps.flatMap trL ++ r).set (p * 4) (.string t.ev.key)).set (p * 4 + 1) (.int .i64 t.ev.at_)).set (p * 4 + 2) (.int .i64 t.ev.val)).set (p * 4 + 3) (.int .i64 (t.n : Int)) = (ps.set p t).flatMap trL ++ r
  | [], _, _, _, h => by simp at h
  | y :: l, 0, t, r, _ => by simp [trL]
  | y :: l, p + 1, t, r, h => by
    have e1 : (y :: l).flatMap trL ++ r = .string y.ev.key :: .int .i64 y.ev.at_ :: .int .i64 y.ev.val :: .int .i64 (y.n : Int) :: (l.flatMap trL ++ r) := by simp [trL]
    have e2 : ((y :: l).set (p + 1) t).flatMap trL ++ r = .string y.ev.key :: .int .i64 y.ev.at_ :: .int .i64 y.ev.val :: .int .i64 (y.n : Int) :: ((l.set p t).flatMap trL ++ r) := by simp [trL]
    rw [e1, e2, show (p + 1) * 4 = p * 4 + 1 + 1 + 1 + 1 by omega]
    simp only [List.set_cons_succ]
    rw [flat_set t r (by simpa using h)]
theorem q_set {p : Nat} (t : Tr) (hp : p < ps.length) :
    ((((qC L F ps f n).setIfInBounds (2 + p * 4) (.string t.ev.key)).setIfInBounds (2 + p * 4 + 1) (.int .i64 t.ev.at_)).setIfInBounds (2 + p * 4 + 2) (.int .i64 t.ev.val)).setIfInBounds (2 + p * 4 + 3) (.int .i64 (t.n : Int)) = qC L F (ps.set p t) f n := by
  simp only [qC, qL, List.setIfInBounds_toArray]
  rw [show 2 + p * 4 = p * 4 + 1 + 1 by omega, show p * 4 + 1 + 1 + 1 = (p * 4 + 1) + 1 + 1 by omega, show p * 4 + 1 + 1 + 2 = (p * 4 + 2) + 1 + 1 by omega, show p * 4 + 1 + 1 + 3 = (p * 4 + 3) + 1 + 1 by omega]
  simp only [List.set_cons_succ]
  rw [flat_set t _ hp]
theorem q_setF (h : ps.length = 16) (f' : Nat) : (qC L F ps f n).setIfInBounds 66 (.int .i64 (f' : Int)) = qC L F ps f' n := by
  have h2 := q_flat h
  simp only [qC, qL, List.setIfInBounds_toArray, List.set_cons_succ]
  rw [List.set_append_right _ _ (by omega), h2]
  rfl
theorem q_setN (h : ps.length = 16) (n' : Nat) : (qC L F ps f n).setIfInBounds 67 (.int .i64 (n' : Int)) = qC L F ps f n' := by
  have h2 := q_flat h
  simp only [qC, qL, List.setIfInBounds_toArray, List.set_cons_succ]
  rw [List.set_append_right _ _ (by omega), h2]
  rfl
end
/-- The cells of the place p. -/
structure PlAt (w : World) (b p : Nat) (t : Tr) : Prop where
  c0 : w.cell? ⟨b, 2 + p * 4, none⟩ = some (.string t.ev.key)
  c1 : w.cell? ⟨b, 2 + p * 4 + 1, none⟩ = some (.int .i64 t.ev.at_)
  c2 : w.cell? ⟨b, 2 + p * 4 + 2, none⟩ = some (.int .i64 t.ev.val)
  c3 : w.cell? ⟨b, 2 + p * 4 + 3, none⟩ = some (.int .i64 (t.n : Int))
theorem pl_at {w : World} {b : Nat} {L : Int} {F : Nat} {ps : List Tr} {f n p : Nat} {t : Tr} {T : TypeId} (h : Lies b (qC L F ps f n) T w) (hl : ps.length = 16) (hp : ps[p]? = some t) : PlAt w b p t := by
  refine ⟨h.cell (j := 2 + p * 4) ?_, h.cell (j := 2 + p * 4 + 1) ?_, h.cell (j := 2 + p * 4 + 2) ?_, h.cell (j := 2 + p * 4 + 3) ?_⟩
  · exact q_get (j := 0) hl hp (by omega)
  · rw [Nat.add_assoc]; exact q_get (j := 1) hl hp (by omega)
  · rw [Nat.add_assoc]; exact q_get (j := 2) hl hp (by omega)
  · rw [Nat.add_assoc]; exact q_get (j := 3) hl hp (by omega)
def setQ (w : World) (b p : Nat) (t : Tr) : World :=
  (((w.setCell ⟨b, 2 + p * 4, none⟩ (.string t.ev.key)).setCell ⟨b, 2 + p * 4 + 1, none⟩ (.int .i64 t.ev.at_)).setCell ⟨b, 2 + p * 4 + 2, none⟩ (.int .i64 t.ev.val)).setCell ⟨b, 2 + p * 4 + 3, none⟩ (.int .i64 (t.n : Int))
theorem lies_setQ {w : World} {b : Nat} {L : Int} {F : Nat} {ps : List Tr} {f n p : Nat} {T : TypeId} (h : Lies b (qC L F ps f n) T w) (t : Tr) (hp : p < ps.length) : Lies b (qC L F (ps.set p t) f n) T (setQ w b p t) := by
  have h1 := (((h.set (2 + p * 4) (.string t.ev.key)).set (2 + p * 4 + 1) (.int .i64 t.ev.at_)).set (2 + p * 4 + 2) (.int .i64 t.ev.val)).set (2 + p * 4 + 3) (.int .i64 (t.n : Int))
  rwa [q_set t hp] at h1
theorem mine_setQ {M : Nat → Prop} (w : World) {b : Nat} (p : Nat) (t : Tr) (h : M b) : Mine M w (setQ w b p t) :=
  (((Mine.set w (a := ⟨b, 2 + p * 4, none⟩) _ h).trans (Mine.set _ (a := ⟨b, 2 + p * 4 + 1, none⟩) _ h)).trans (Mine.set _ (a := ⟨b, 2 + p * 4 + 2, none⟩) _ h)).trans (Mine.set _ (a := ⟨b, 2 + p * 4 + 3, none⟩) _ h)
theorem idx_mod {x : Nat} : ((x : Int)).tmod 16 = ((x % 16 : Nat) : Int) := by
  rw [Int.tmod_eq_emod_of_nonneg (by omega)]; omega
end Lp
end Go.Proofs.Ytipmphkmeiogoaa
/- turn, New, Put, Step, Len of a queue. -/
namespace Go.Proofs.Ytipmphkmeiogoaa
open Go.RowKit
set_option linter.unusedVariables false
namespace Lp
open Gen
def trOf : Option Tr → Tr
  | some t => t
  | none => zTr
theorem step_in {L : Int} {F : Nat} {l : List Tr} (h : ∀ t ∈ l, inI t.ev.val) : ∀ t ∈ (step L F l).1, inI t.ev.val := by
  cases l with
  | nil => exact h
  | cons t r =>
    cases hq : leaves L F t
    · rw [step_on hq]
      intro u hu
      rcases List.mem_append.1 hu with h1 | h1
      · exact h u (by simp [h1])
      · rw [List.mem_singleton.1 h1]; exact half_in (h t (by simp))
    · rw [step_out hq]
      exact fun u hu => h u (by simp [hu])
theorem q_rule (L : Int) (F : Nat) (ps : List Tr) (f n : Nat) : ((qC 0 0 ps f n).setIfInBounds 0 (.int .u64 L)).setIfInBounds 1 (.int .i64 (F : Int)) = qC L F ps f n := by simp [qC, qL]
end Lp
end Go.Proofs.Ytipmphkmeiogoaa
/- Put, Step, Len of a queue. -/
namespace Go.Proofs.Ytipmphkmeiogoaa
open Go.RowKit
set_option linter.unusedVariables false
namespace Lp
open Gen
abbrev ev0 (e : Ev) : Array Value := #[.string e.key, .int .i64 e.at_, .int .i64 e.val, .int .i64 0]
theorem zeroT (u : World) : (zeroValue 106).run Try.prog u = .ok (.agg trZ) u := by kernel_rfl
def evOf : Option Tr → Ev
  | some t => t.ev
  | none => zEv
theorem evOf_tr (o : Option Tr) : (trOf o).ev = evOf o := by cases o <;> rfl
end Lp
end Go.Proofs.Ytipmphkmeiogoaa
/- Run: an event goes round till it leaves. -/
namespace Go.Proofs.Ytipmphkmeiogoaa
open Go.RowKit
set_option linter.unusedVariables false
namespace Lp
open Gen
/-- What an event leaves as. -/
def ran (L : Int) (F : Nat) (e : Ev) : Tr := fin L F ⟨e, 0⟩
/-- Hands back an event and how often it went round; what was stays. -/
def GivesR (t : Tr) (w : World) (e : Ending) (w' : World) : Prop := e = .returned (.tuple #[evV t.ev, .int .i64 (t.n : Int)]) ∧ Below w.heap.size w w'
theorem run_ret {t : Tr} {rb : Nat} {w0 w : World} {act : Act} (ht : act.tmps.getD 6 undef = .pointer (some ⟨rb, 0, none⟩)) (hs : act.tmps.getD 7 undef = .int .i64 (t.n : Int)) (hd : act.defers = []) (hl : Lies rb (evC t.ev) 45 w) (h : Below w0.heap.size w0 w) :
    bodyPost Try.prog Try.f42 (GivesR t w0) Exit.ret act w := by
  have c0 : w.cell? ⟨rb, 0, none⟩ = some (.string t.ev.key) := hl.cell (j := 0) rfl
  have c1 : w.cell? ⟨rb, 1, none⟩ = some (.int .i64 t.ev.at_) := hl.cell (j := 1) rfl
  have c2 : w.cell? ⟨rb, 2, none⟩ = some (.int .i64 t.ev.val) := hl.cell (j := 2) rfl
  have ht2 : act.tmps[6]?.getD undef = .pointer (some ⟨rb, 0, none⟩) := by simpa using ht
  have hs2 : act.tmps[7]?.getD undef = .int .i64 (t.n : Int) := by simpa using hs
  exact bodyPost_ret (v := .tuple #[evV t.ev, .int .i64 (t.n : Int)]) (by simp [results, Try.results42, go_sem, ht2, hs2, c0, c1, c2]) hd ⟨rfl, h⟩
def boolOf : Value → Bool
  | .bool b => b
  | _ => false
/-- The trips that a cell counts. -/
def nAt (w : World) (D : Nat) : Nat :=
  match w.cell? ⟨D, 3, none⟩ with
  | some (.int _ n) => n.toNat
  | _ => 0
theorem nAt_eq {w : World} {D : Nat} {t : Tr} (h : Lies D (trC t) 106 w) : nAt w D = t.n := by
  have c3 : w.cell? ⟨D, 3, none⟩ = some (.int .i64 (t.n : Int)) := h.cell (j := 3) rfl
  unfold nAt
  rw [c3]
  simp
/-- Where the loop stands. -/
structure RunTo (L : Int) (F : Nat) (e : Ev) (w0 : World) (D : Nat) (b : Bool) (t : Tr) (w : World) : Prop where
  lies : Lies D (trC t) 106 w
  same : fin L F t = ran L F e
  val : inI t.ev.val
  few : t.n ≤ F
  out : b = true → leaves L F t = true
  below : Below w0.heap.size w0 w
theorem RunTo.fin_ {L : Int} {F : Nat} {e : Ev} {w0 w : World} {D : Nat} {t : Tr} (h : RunTo L F e w0 D true t w) : t = ran L F e := by rw [← h.same, fin_stop (h.out rfl)]
theorem RunTo.pass_ {L : Int} {F : Nat} {e : Ev} {w0 w w2 : World} {D : Nat} {t : Tr} {b : Bool} (h : RunTo L F e w0 D b t w) (hl : Lies D (trC (passed L F t)) 106 w2) (hb : Below w0.heap.size w0 w2) : RunTo L F e w0 D (leaves L F t) (passed L F t) w2 := by
  cases hq : leaves L F t
  · have hp : passed L F t = next t := by unfold passed; rw [hq]; rfl
    rw [hp] at hl ⊢
    exact ⟨hl, (fin_go hq).trans h.same, half_in h.val, leaves_lt hq, (fun e => by cases e), hb⟩
  · have hp : passed L F t = t := by unfold passed; rw [hq]; rfl
    rw [hp] at hl ⊢
    exact ⟨hl, h.same, h.val, h.few, fun _ => hq, hb⟩
theorem RunTo.start {L : Int} {F : Nat} {e : Ev} {w0 w : World} {D : Nat} (hv : inI e.val) (hl : Lies D (trC (passed L F ⟨e, 0⟩)) 106 w) (hb : Below w0.heap.size w0 w) : RunTo L F e w0 D (leaves L F ⟨e, 0⟩) (passed L F ⟨e, 0⟩) w := by
  cases hq : leaves L F ⟨e, 0⟩
  · have hp : passed L F ⟨e, 0⟩ = next ⟨e, 0⟩ := by unfold passed; rw [hq]; rfl
    rw [hp] at hl ⊢
    exact ⟨hl, fin_go hq, half_in hv, leaves_lt hq, (fun e => by cases e), hb⟩
  · have hp : passed L F ⟨e, 0⟩ = ⟨e, 0⟩ := by unfold passed; rw [hq]; rfl
    rw [hp] at hl ⊢
    exact ⟨hl, rfl, hv, Nat.zero_le _, fun _ => hq, hb⟩
set_option maxHeartbeats 2000000 in
theorem lpRun (e : Ev) (l f : Int) (hv : inI e.val) (hl : inI l) (w : World) : Calls Try.prog 42 #[evV e, .int .i64 l, .int .i64 f] w (GivesR (ran (limOf l) (fuelOf f) e) w) := by
  obtain ⟨L, hL⟩ : ∃ L, L = limOf l := ⟨_, rfl⟩
  obtain ⟨F, hF⟩ : ∃ F, F = fuelOf f := ⟨_, rfl⟩
  have hLi := limOf_in hl
  have hFi := fuelOf_le f
  have HR := Lib.hid (fun w => lpRule l f hl w)
  rw [← hL, ← hF] at HR
  rw [← hL, ← hF]
  rw [← hL] at hLi
  rw [← hF] at hFi
  have HV := Lib.hid hv
  have HLI := Lib.hid hLi
  have HFI := Lib.hid hFi
  have HP0 : Hid (∀ w, Calls Try.prog 67 #[ruV L F, .agg (ev0 e)] w (GivesT (passed L F ⟨e, 0⟩) (leaves L F ⟨e, 0⟩) w)) := Lib.hid (fun w => lpPass L F ⟨e, 0⟩ hv hLi hFi w)
  have hmf : ∀ (fn : Fn) (first cap : Array Value) (w : World), (Instr.makeFunc fn first cap).run Try.prog w = .ok (.func fn first cap) w := fun _ _ _ _ => rfl
  have hz := zeroT
  have L0 := Lib.hid ((Lies.new w (evC e) 45).al (o := .cells (evC zEv) 45))
  have L1 := Lib.hid (lies_new1 w (.cells (evC e) 45) (evC zEv) 45)
  clear hv hl hL hF hLi hFi
  go_enter Try.func42, Try.ntmps42
  go_wp2_with fail
  refine (HR.out _).mono ?_
  rintro e1 w1 ⟨rfl, hb1⟩
  have K0 := Lib.hid (L0.out.below hb1)
  have K1 := Lib.hid (L1.out.below hb1)
  have HB1 := Lib.hid (below_next (below_al (below_al (Below.refl w.heap.size w))) hb1)
  have c0 := K0.out.cell (j := 0) rfl
  have c1 := K0.out.cell (j := 1) rfl
  have c2 := K0.out.cell (j := 2) rfl
  clear hb1
  go_wp2_with fail
  refine (HP0.out _).mono ?_
  rintro e2 w2 ⟨rfl, hb2⟩
  have K1b := Lib.hid ((K1.out.below hb2).al (o := .cells (trC (passed L F ⟨e, 0⟩)) 106))
  have R0 := Lib.hid (RunTo.start (L := L) (F := F) (e := e) HV.out (Lies.new w2 (trC (passed L F ⟨e, 0⟩)) 106) (below_al (below_next HB1.out hb2)))
  obtain ⟨D, hD⟩ : ∃ D, D = w2.heap.size := ⟨_, rfl⟩
  have hD1 : w.heap.size + 1 < D := by rw [hD]; exact lt_of_block (K1.out.below hb2)
  clear hb2 c0 c1 c2
  go_wp2_with fail
  rw [← hD] at R0 ⊢
  clear hD
  go_loopw [10] (fun s10 wr => ∃ (b : Bool) (t : Tr), s10 = .bool b ∧ RunTo L F e w D b t wr ∧ Lies (w.heap.size + 1) (evC zEv) 45 wr) (fun s10 wr => if boolOf s10 then 0 else 42 - nAt wr D)
  case atStart => exact ⟨_, _, rfl, R0.out, K1b.out⟩
  case round =>
    clear R0 K1b
    obtain ⟨b, t, rfl, hr, hk⟩ := hrel
    have R1 := Lib.hid hr
    have K2 := Lib.hid hk
    have c0 := hr.lies.cell (j := 0) rfl
    have c1 := hr.lies.cell (j := 1) rfl
    have c2 := hr.lies.cell (j := 2) rfl
    have c3 := hr.lies.cell (j := 3) rfl
    have d0 := hk.cell (j := 0) rfl
    have d1 := hk.cell (j := 1) rfl
    have d2 := hk.cell (j := 2) rfl
    have f0 := hk.free 0
    have f1 := hk.free 1
    have f2 := hk.free 2
    clear hr hk
    cases b with
    | true =>
      obtain rfl := R1.out.fin_
      go_wp2_with fail
      go_region
      go_wp2_with fail
      exact run_ret (rb := w.heap.size + 1) rfl rfl rfl (Lies.set3 K2.out.drew _ _ _) (below_set3 (below_drewOf R1.out.below) (Nat.le_succ _) _ _ _)
    | false =>
      have HP := Lib.hid (lpPass L F t R1.out.val HLI.out HFI.out wr)
      go_wp2_with fail
      refine HP.out.mono ?_
      rintro e3 w3 ⟨rfl, hb3⟩
      have L3 := Lib.hid (R1.out.lies.below hb3)
      have K3 := Lib.hid (K2.out.below hb3)
      have HB3 := Lib.hid (below_next R1.out.below hb3)
      have e0 := L3.out.cell (j := 0) rfl
      have e1 := L3.out.cell (j := 1) rfl
      have e2 := L3.out.cell (j := 2) rfl
      have e3 := L3.out.cell (j := 3) rfl
      have g0 := L3.out.free 0
      have g1 := L3.out.free 1
      have g2 := L3.out.free 2
      have g3 := L3.out.free 3
      clear hb3
      go_wp2_with fail
      go_roundw
      case rel =>
        exact ⟨_, _, rfl, R1.out.pass_ (Lies.set4 L3.out _ _ _ _) (below_set4 HB3.out (by omega) _ _ _ _), ((((K3.out.other (by omega) _ _).other (by omega) _ _).other (by omega) _ _).other (by omega) _ _)⟩
      case measure =>
        have h1 := nAt_eq (Lies.set4 L3.out (.string (passed L F t).ev.key) (.int .i64 (passed L F t).ev.at_) (.int .i64 (passed L F t).ev.val) (.int .i64 ((passed L F t).n : Int)))
        have h2 := nAt_eq R1.out.lies
        have h3 := R1.out.few
        have h4 := HFI.out
        rw [h1, h2]
        cases hq : leaves L F t
        · have hp : passed L F t = next t := by unfold passed; rw [hq]; rfl
          rw [hp]
          have := leaves_lt hq
          simp [boolOf, next]
          omega
        · simp [boolOf]
          omega
end Lp
end Go.Proofs.Ytipmphkmeiogoaa
/- The reference's Half, Leaves, Run. -/
namespace Go.Proofs.Ytipmphkmeiogoaa
open Go.RowKit
set_option linter.unusedVariables false
namespace Lp
open Gen
theorem half_pos {v : Int} (h : 0 ≤ v) : v / 2 = half v := by unfold half; rw [Int.tdiv_eq_ediv_of_nonneg h]
theorem half_neg {v : Int} (h : v < 0) : half v = -((-v) / 2) ∧ v.tmod 2 = -((-v) % 2) := by
  have h1 : (-v).tdiv 2 = (-v) / 2 := Int.tdiv_eq_ediv_of_nonneg (by omega)
  have h2 : (-v).tmod 2 = (-v) % 2 := Int.tmod_eq_emod_of_nonneg (by omega)
  rw [Int.neg_tdiv] at h1
  rw [Int.neg_tmod] at h2
  unfold half
  omega
theorem rfHalf (v : Int) (hv : inI v) (w : World) : Calls Try.prog 47 #[.int .i64 v] w (SaysI (half v) w) := by
  have HV := Lib.hid hv
  clear hv
  by_cases h : v < 0
  · have HN := Lib.hid (half_neg h)
    have h1 : v.tmod 2 = 0 ∨ v.tmod 2 = -1 := by have := HN.out.2; omega
    rcases h1 with h1 | h1
    · have HE : Hid (v / 2 = half v) := Lib.hid (by have := HN.out; omega)
      go_enter Try.func47, Try.ntmps47
      go_wp2_with fail
      go_ret
      exact ⟨by rw [← HE.out]; rfl, rfl⟩
    · have hw := wrap_i (v := v + 1) (by have := HV.out; unfold inI at *; omega)
      have HE : Hid ((v + 1) / 2 = half v) := Lib.hid (by have := HN.out; omega)
      go_enter Try.func47, Try.ntmps47
      go_wp2_with fail
      go_ret
      exact ⟨by rw [← HE.out]; rfl, rfl⟩
  · have h0 : 0 ≤ v := by omega
    have HE := Lib.hid (half_pos h0)
    go_enter Try.func47, Try.ntmps47
    go_wp2_with fail
    go_ret
    exact ⟨by rw [← HE.out]; rfl, rfl⟩
theorem rfAbove (v l : Int) (hv : inI v) (hl : 0 ≤ l ∧ l ≤ 9223372036854775807) (w : World) : Calls Try.prog 70 #[.int .i64 v, .int .i64 l] w (SaysB (decide (l < (v.natAbs : Int))) w) := by
  have hw := wrap_i (v := -l) (by unfold inI; omega)
  have HV := Lib.hid hv
  have HL := Lib.hid hl
  clear hv hl
  by_cases h : l < v
  · have HE : Hid (l < (v.natAbs : Int)) := Lib.hid (by have := HL.out; omega)
    go_enter Try.func70, Try.ntmps70
    go_wp2_with fail
    go_ret
    exact ⟨by simp [HE.out], rfl⟩
  · by_cases h2 : v < -l
    · have HE : Hid (l < (v.natAbs : Int)) := Lib.hid (by have := HL.out; omega)
      go_enter Try.func70, Try.ntmps70
      go_wp2_with fail
      go_ret
      exact ⟨by simp [HE.out], rfl⟩
    · have HE : Hid (¬ l < (v.natAbs : Int)) := Lib.hid (by have := HL.out; omega)
      go_enter Try.func70, Try.ntmps70
      go_wp2_with fail
      go_ret
      exact ⟨by simp [HE.out], rfl⟩
theorem rfLeaves (t : Tr) (l f : Int) (hv : inI t.ev.val) (hl : inI l) (w : World) :
    Calls Try.prog 46 #[.int .i64 t.ev.val, .int .i64 (t.n : Int), .int .i64 l, .int .i64 f] w (SaysB (leaves (limOf l) (fuelOf f) t) w) := by
  obtain ⟨L, hL⟩ : ∃ L, L = limOf l := ⟨_, rfl⟩
  obtain ⟨G, hG⟩ : ∃ G : Int, G = if f > 40 then 40 else f := ⟨_, rfl⟩
  have hLi := limOf_in hl
  rw [← hL] at hLi
  have HA := Lib.hid (fun w => rfAbove t.ev.val L hv hLi w)
  obtain ⟨r, hr⟩ : ∃ r, r = leaves L (fuelOf f) t := ⟨_, rfl⟩
  have hrr : r = decide (G ≤ t.n ∨ ¬ L < (t.ev.val.natAbs : Int)) := by
    rw [hr, hG]; unfold leaves fuelOf
    rw [Bool.eq_iff_iff, decide_eq_true_eq, decide_eq_true_eq]
    split <;> omega
  rw [← hL, ← hr]
  obtain ⟨q, hq⟩ : ∃ q, q = decide (L < (t.ev.val.natAbs : Int)) := ⟨_, rfl⟩
  rw [← hq] at HA
  obtain ⟨v, hv2⟩ : ∃ v, v = t.ev.val := ⟨_, rfl⟩
  rw [← hv2] at HA ⊢
  obtain ⟨n, hn2⟩ : ∃ n, n = t.n := ⟨_, rfl⟩
  rw [← hn2] at hrr ⊢
  have hl1 : (l < 0 ∧ L = 0) ∨ (¬ l < 0 ∧ L = l) := by rw [hL]; unfold limOf; omega
  have hg1 : (40 < f ∧ G = 40) ∨ (¬ 40 < f ∧ G = f) := by rw [hG]; split <;> omega
  have hg2 : G ≤ (n : Int) ∧ r = true ∨ ¬ G ≤ (n : Int) ∧ r = !q := by
    rw [hrr, hq, ← hv2]
    by_cases h : G ≤ (n : Int)
    · simp [h]
    · by_cases h2 : L < (v.natAbs : Int)
      · simp [h, h2]
      · simp [h, h2]
  clear hL hG hr hrr hLi hq hv hl hv2 hn2
  rcases hl1 with ⟨a1, rfl⟩ | ⟨a1, rfl⟩ <;> rcases hg1 with ⟨b1, rfl⟩ | ⟨b1, rfl⟩ <;> rcases hg2 with ⟨d1, rfl⟩ | ⟨d1, rfl⟩
  all_goals (
    go_enter Try.func46, Try.ntmps46
    go_wp2_with (go_at_call 70; refine (HA.out _).mono ?_; rintro e w' ⟨rfl, rfl⟩)
    go_ret
    exact ⟨rfl, rfl⟩)
/-- The way out of the reference's Run. -/
theorem refrun_ret {t : Tr} {rb : Nat} {w0 w : World} {act : Act} (ht : act.tmps.getD 6 undef = .pointer (some ⟨rb, 0, none⟩)) (hs : act.tmps.getD 7 undef = .int .i64 (t.n : Int)) (hd : act.defers = []) (hl : Lies rb (evC t.ev) 45 w) (h : Below w0.heap.size w0 w) :
    bodyPost Try.prog Try.f27 (GivesR t w0) Exit.ret act w := by
  have c0 : w.cell? ⟨rb, 0, none⟩ = some (.string t.ev.key) := hl.cell (j := 0) rfl
  have c1 : w.cell? ⟨rb, 1, none⟩ = some (.int .i64 t.ev.at_) := hl.cell (j := 1) rfl
  have c2 : w.cell? ⟨rb, 2, none⟩ = some (.int .i64 t.ev.val) := hl.cell (j := 2) rfl
  have ht2 : act.tmps[6]?.getD undef = .pointer (some ⟨rb, 0, none⟩) := by simpa using ht
  have hs2 : act.tmps[7]?.getD undef = .int .i64 (t.n : Int) := by simpa using hs
  exact bodyPost_ret (v := .tuple #[evV t.ev, .int .i64 (t.n : Int)]) (by simp [results, Try.results27, go_sem, ht2, hs2, c0, c1, c2]) hd ⟨rfl, h⟩
/-- Where its loop stands. -/
structure RefTo (L : Int) (F : Nat) (e : Ev) (w0 : World) (t : Tr) (w : World) : Prop where
  lies : Lies w0.heap.size (evC t.ev) 45 w
  res : Lies (w0.heap.size + 1) (evC zEv) 45 w
  same : fin L F t = ran L F e
  val : inI t.ev.val
  few : t.n ≤ F
  below : Below w0.heap.size w0 w
set_option maxHeartbeats 2000000 in
theorem rfRun (e : Ev) (l f : Int) (hv : inI e.val) (hl : inI l) (w : World) : Calls Try.prog 27 #[evV e, .int .i64 l, .int .i64 f] w (GivesR (ran (limOf l) (fuelOf f) e) w) := by
  have HF : Hid (fuelOf f ≤ 40) := Lib.hid (fuelOf_le f)
  have HL := Lib.hid hl
  have R0 : Hid (RefTo (limOf l) (fuelOf f) e w ⟨e, 0⟩ ((w.alloc (.cells (evC e) 45)).alloc (.cells (evC zEv) 45))) := Lib.hid ⟨(Lies.new w (evC e) _).al, lies_new1 w _ (evC zEv) _, rfl, hv, Nat.zero_le _, below_al (below_al (Below.refl _ _))⟩
  clear hv hl
  go_enter Try.func27, Try.ntmps27
  go_wp2_with fail
  go_loopw [8] (fun s8 wr => ∃ t : Tr, s8 = .int .i64 (t.n : Int) ∧ RefTo (limOf l) (fuelOf f) e w t wr) (fun s8 _ => 41 - (intOf s8).toNat)
  case atStart => exact ⟨⟨e, 0⟩, rfl, R0.out⟩
  case round =>
    clear R0
    obtain ⟨t, rfl, hr⟩ := hrel
    have R1 := Lib.hid hr
    have c0 := hr.lies.cell (j := 0) rfl
    have c1 := hr.lies.cell (j := 1) rfl
    have c2 := hr.lies.cell (j := 2) rfl
    have d0 := hr.res.cell (j := 0) rfl
    have d1 := hr.res.cell (j := 1) rfl
    have d2 := hr.res.cell (j := 2) rfl
    have f0 := hr.res.free 0
    have f1 := hr.res.free 1
    have f2 := hr.res.free 2
    have f3 := hr.lies.free 2
    have HC := Lib.hid (rfLeaves t l f hr.val HL.out wr)
    have HH := Lib.hid (rfHalf t.ev.val hr.val wr)
    clear hr
    cases hq : leaves (limOf l) (fuelOf f) t
    · rw [hq] at HC
      have HN := Lib.hid (leaves_lt hq)
      have HS := Lib.hid (fin_go hq)
      have hw := wrap_i (v := (t.n : Int) + 1) (by have := HN.out; have := HF.out; unfold inI; omega)
      clear hq
      go_wp2_with fail
      refine HC.out.mono ?_
      rintro e2 w2 ⟨rfl, rfl⟩
      go_wp2_with fail
      refine HH.out.mono ?_
      rintro e2 w2 ⟨rfl, rfl⟩
      go_wp2_with fail
      go_roundw
      case rel => exact ⟨next t, by simp [next], R1.out.lies.set 2 (.int .i64 (half t.ev.val)), R1.out.res.other (by omega) 2 _, HS.out.trans R1.out.same, half_in R1.out.val, HN.out, R1.out.below.setCell (p := ⟨w.heap.size, 2, none⟩) (Nat.le_refl _) _⟩
      case measure => have := HN.out; have := HF.out; simp [intOf]; omega
    · rw [hq] at HC
      have HE : Hid (t = ran (limOf l) (fuelOf f) e) := Lib.hid (by rw [← R1.out.same, fin_stop hq])
      clear hq
      go_wp2_with fail
      refine HC.out.mono ?_
      rintro e2 w2 ⟨rfl, rfl⟩
      go_wp2_with fail
      rw [← HE.out]
      exact refrun_ret (rb := w.heap.size + 1) rfl rfl rfl (Lies.set3 R1.out.res _ _ _) (below_set3 R1.out.below (Nat.le_succ _) _ _ _)
end Lp
end Go.Proofs.Ytipmphkmeiogoaa
