/- Run: an event goes round till it leaves. -/
import Derived.Test.YtdfdfdhgggilbaaLoopPut
namespace Go.Proofs.Ytdfdfdhgggilbaa
open Go.RowKit
set_option linter.unusedVariables false
namespace Lp
open Gen
/-- What an event leaves as. -/
def ran (L : Int) (F : Nat) (e : Ev) : Tr := fin L F ⟨e, 0⟩
/-- Hands back an event and how often it went round; what was stays. -/
def GivesR (t : Tr) (w : World) (e : Ending) (w' : World) : Prop := e = .returned (.tuple #[evV t.ev, .int .i64 (t.n : Int)]) ∧ Below w.heap.size w w'
theorem run_ret {t : Tr} {rb : Nat} {w0 w : World} {act : Act} (ht : act.tmps.getD 6 undef = .pointer (some ⟨rb, 0, none⟩)) (hs : act.tmps.getD 7 undef = .int .i64 (t.n : Int)) (hd : act.defers = []) (hl : Lies rb (evC t.ev) 23 w) (h : Below w0.heap.size w0 w) :
    bodyPost Try.prog Try.f9 (GivesR t w0) Exit.ret act w := by
  have c0 : w.cell? ⟨rb, 0, none⟩ = some (.string t.ev.key) := hl.cell (j := 0) rfl
  have c1 : w.cell? ⟨rb, 1, none⟩ = some (.int .i64 t.ev.at_) := hl.cell (j := 1) rfl
  have c2 : w.cell? ⟨rb, 2, none⟩ = some (.int .i64 t.ev.val) := hl.cell (j := 2) rfl
  have ht2 : act.tmps[6]?.getD undef = .pointer (some ⟨rb, 0, none⟩) := by simpa using ht
  have hs2 : act.tmps[7]?.getD undef = .int .i64 (t.n : Int) := by simpa using hs
  exact bodyPost_ret (v := .tuple #[evV t.ev, .int .i64 (t.n : Int)]) (by simp [results, Try.results9, go_sem, ht2, hs2, c0, c1, c2]) hd ⟨rfl, h⟩
def boolOf : Value → Bool
  | .bool b => b
  | _ => false
/-- The trips that a cell counts. -/
def nAt (w : World) (D : Nat) : Nat :=
  match w.cell? ⟨D, 3, none⟩ with
  | some (.int _ n) => n.toNat
  | _ => 0
theorem nAt_eq {w : World} {D : Nat} {t : Tr} (h : Lies D (trC t) 52 w) : nAt w D = t.n := by
  have c3 : w.cell? ⟨D, 3, none⟩ = some (.int .i64 (t.n : Int)) := h.cell (j := 3) rfl
  unfold nAt
  rw [c3]
  simp
/-- Where the loop stands. -/
structure RunTo (L : Int) (F : Nat) (e : Ev) (w0 : World) (D : Nat) (b : Bool) (t : Tr) (w : World) : Prop where
  lies : Lies D (trC t) 52 w
  same : fin L F t = ran L F e
  val : inI t.ev.val
  few : t.n ≤ F
  out : b = true → leaves L F t = true
  below : Below w0.heap.size w0 w
theorem RunTo.fin_ {L : Int} {F : Nat} {e : Ev} {w0 w : World} {D : Nat} {t : Tr} (h : RunTo L F e w0 D true t w) : t = ran L F e := by rw [← h.same, fin_stop (h.out rfl)]
theorem RunTo.pass_ {L : Int} {F : Nat} {e : Ev} {w0 w w2 : World} {D : Nat} {t : Tr} {b : Bool} (h : RunTo L F e w0 D b t w) (hl : Lies D (trC (passed L F t)) 52 w2) (hb : Below w0.heap.size w0 w2) : RunTo L F e w0 D (leaves L F t) (passed L F t) w2 := by
  cases hq : leaves L F t
  · have hp : passed L F t = next t := by unfold passed; rw [hq]; rfl
    rw [hp] at hl ⊢
    exact ⟨hl, (fin_go hq).trans h.same, half_in h.val, leaves_lt hq, (fun e => by cases e), hb⟩
  · have hp : passed L F t = t := by unfold passed; rw [hq]; rfl
    rw [hp] at hl ⊢
    exact ⟨hl, h.same, h.val, h.few, fun _ => hq, hb⟩
theorem RunTo.start {L : Int} {F : Nat} {e : Ev} {w0 w : World} {D : Nat} (hv : inI e.val) (hl : Lies D (trC (passed L F ⟨e, 0⟩)) 52 w) (hb : Below w0.heap.size w0 w) : RunTo L F e w0 D (leaves L F ⟨e, 0⟩) (passed L F ⟨e, 0⟩) w := by
  cases hq : leaves L F ⟨e, 0⟩
  · have hp : passed L F ⟨e, 0⟩ = next ⟨e, 0⟩ := by unfold passed; rw [hq]; rfl
    rw [hp] at hl ⊢
    exact ⟨hl, fin_go hq, half_in hv, leaves_lt hq, (fun e => by cases e), hb⟩
  · have hp : passed L F ⟨e, 0⟩ = ⟨e, 0⟩ := by unfold passed; rw [hq]; rfl
    rw [hp] at hl ⊢
    exact ⟨hl, rfl, hv, Nat.zero_le _, fun _ => hq, hb⟩
set_option maxHeartbeats 2000000 in
theorem lpRun (e : Ev) (l f : Int) (hv : inI e.val) (hl : inI l) (w : World) : Calls Try.prog 9 #[evV e, .int .i64 l, .int .i64 f] w (GivesR (ran (limOf l) (fuelOf f) e) w) := by
  obtain ⟨L, hL⟩ : ∃ L, L = limOf l := ⟨_, rfl⟩
  obtain ⟨F, hF⟩ : ∃ F, F = fuelOf f := ⟨_, rfl⟩
  have hLi := limOf_in hl
  have hFi := fuelOf_le f
  have HR := Lib.hid (fun w => lpRule l f hl w)
  rw [← hL, ← hF] at HR
  rw [← hL, ← hF]
  rw [← hL] at hLi
  rw [← hF] at hFi
  have HV := Lib.hid hv
  have HLI := Lib.hid hLi
  have HFI := Lib.hid hFi
  have HP0 : Hid (∀ w, Calls Try.prog 19 #[ruV L F, .agg (ev0 e)] w (GivesT (passed L F ⟨e, 0⟩) (leaves L F ⟨e, 0⟩) w)) := Lib.hid (fun w => lpPass L F ⟨e, 0⟩ hv hLi hFi w)
  have hmf : ∀ (fn : Fn) (first cap : Array Value) (w : World), (Instr.makeFunc fn first cap).run Try.prog w = .ok (.func fn first cap) w := fun _ _ _ _ => rfl
  have hz := zeroT
  have L0 := Lib.hid ((Lies.new w (evC e) 23).al (o := .cells (evC zEv) 23))
  have L1 := Lib.hid (lies_new1 w (.cells (evC e) 23) (evC zEv) 23)
  clear hv hl hL hF hLi hFi
  go_enter Try.func9, Try.ntmps9
  go_wp2_with fail
  refine (HR.out _).mono ?_
  rintro e1 w1 ⟨rfl, hb1⟩
  have K0 := Lib.hid (L0.out.below hb1)
  have K1 := Lib.hid (L1.out.below hb1)
  have HB1 := Lib.hid (below_next (below_al (below_al (Below.refl w.heap.size w))) hb1)
  have c0 := K0.out.cell (j := 0) rfl
  have c1 := K0.out.cell (j := 1) rfl
  have c2 := K0.out.cell (j := 2) rfl
  clear hb1
  go_wp2_with fail
  refine (HP0.out _).mono ?_
  rintro e2 w2 ⟨rfl, hb2⟩
  have K1b := Lib.hid ((K1.out.below hb2).al (o := .cells (trC (passed L F ⟨e, 0⟩)) 52))
  have R0 := Lib.hid (RunTo.start (L := L) (F := F) (e := e) HV.out (Lies.new w2 (trC (passed L F ⟨e, 0⟩)) 52) (below_al (below_next HB1.out hb2)))
  obtain ⟨D, hD⟩ : ∃ D, D = w2.heap.size := ⟨_, rfl⟩
  have hD1 : w.heap.size + 1 < D := by rw [hD]; exact lt_of_block (K1.out.below hb2)
  clear hb2 c0 c1 c2
  go_wp2_with fail
  rw [← hD] at R0 ⊢
  clear hD
  go_loopw [10] (fun s10 wr => ∃ (b : Bool) (t : Tr), s10 = .bool b ∧ RunTo L F e w D b t wr ∧ Lies (w.heap.size + 1) (evC zEv) 23 wr) (fun s10 wr => if boolOf s10 then 0 else 42 - nAt wr D)
  case atStart => exact ⟨_, _, rfl, R0.out, K1b.out⟩
  case round =>
    clear R0 K1b
    obtain ⟨b, t, rfl, hr, hk⟩ := hrel
    have R1 := Lib.hid hr
    have K2 := Lib.hid hk
    have c0 := hr.lies.cell (j := 0) rfl
    have c1 := hr.lies.cell (j := 1) rfl
    have c2 := hr.lies.cell (j := 2) rfl
    have c3 := hr.lies.cell (j := 3) rfl
    have d0 := hk.cell (j := 0) rfl
    have d1 := hk.cell (j := 1) rfl
    have d2 := hk.cell (j := 2) rfl
    have f0 := hk.free 0
    have f1 := hk.free 1
    have f2 := hk.free 2
    clear hr hk
    cases b with
    | true =>
      obtain rfl := R1.out.fin_
      go_wp2_with fail
      go_region
      go_wp2_with fail
      exact run_ret (rb := w.heap.size + 1) rfl rfl rfl (Lies.set3 K2.out.drew _ _ _) (below_set3 (below_drewOf R1.out.below) (Nat.le_succ _) _ _ _)
    | false =>
      have HP := Lib.hid (lpPass L F t R1.out.val HLI.out HFI.out wr)
      go_wp2_with fail
      refine HP.out.mono ?_
      rintro e3 w3 ⟨rfl, hb3⟩
      have L3 := Lib.hid (R1.out.lies.below hb3)
      have K3 := Lib.hid (K2.out.below hb3)
      have HB3 := Lib.hid (below_next R1.out.below hb3)
      have e0 := L3.out.cell (j := 0) rfl
      have e1 := L3.out.cell (j := 1) rfl
      have e2 := L3.out.cell (j := 2) rfl
      have e3 := L3.out.cell (j := 3) rfl
      have g0 := L3.out.free 0
      have g1 := L3.out.free 1
      have g2 := L3.out.free 2
      have g3 := L3.out.free 3
      clear hb3
      go_wp2_with fail
      go_roundw
      case rel =>
        exact ⟨_, _, rfl, R1.out.pass_ (Lies.set4 L3.out _ _ _ _) (below_set4 HB3.out (by omega) _ _ _ _), ((((K3.out.other (by omega) _ _).other (by omega) _ _).other (by omega) _ _).other (by omega) _ _)⟩
      case measure =>
        have h1 := nAt_eq (Lies.set4 L3.out (.string (passed L F t).ev.key) (.int .i64 (passed L F t).ev.at_) (.int .i64 (passed L F t).ev.val) (.int .i64 ((passed L F t).n : Int)))
        have h2 := nAt_eq R1.out.lies
        have h3 := R1.out.few
        have h4 := HFI.out
        rw [h1, h2]
        cases hq : leaves L F t
        · have hp : passed L F t = next t := by unfold passed; rw [hq]; rfl
          rw [hp]
          have := leaves_lt hq
          simp [boolOf, next]
          omega
        · simp [boolOf]
          omega
end Lp
end Go.Proofs.Ytdfdfdhgggilbaa
