/- The walk of the law LoopEnds. -/
import Derived.Test.YtdfdfdhgggilbaaLoopMap
import Derived.Test.YtdfdfdhgggilbaaLawsLoopA
import Derived.Deep.CutRange
import Derived.Maps.RangeWalk
namespace Go.Proofs.Ytdfdfdhgggilbaa
open Go.ChangeShapes Go.WideShapes Go.ChangeAt Go.RowKit Go.Maps
set_option linter.unusedVariables false
set_option maxRecDepth 8000
namespace Lp
open Gen
section
variable {b : Nat} {L : Int} {F : Nat} {w : World}
theorem lpStep0 (H : Que w b L F []) (hL : 0 ≤ L ∧ L ≤ 9223372036854775807) (hF : F ≤ 40) :
    Calls Try.prog 15 #[.pointer (some ⟨b, 0, none⟩)] w fun r w' => r = .returned (.tuple #[evV zEv, .bool false]) ∧ Que w' b L F [] ∧ Mine (· = b) w w' := lpStep b L F [] w H (by simp) hL hF
theorem lpStepOut {t : Tr} {l : List Tr} (H : Que w b L F (t :: l)) (hv : ∀ u ∈ t :: l, inI u.ev.val) (hL : 0 ≤ L ∧ L ≤ 9223372036854775807) (hF : F ≤ 40) (hq : leaves L F t = true) :
    Calls Try.prog 15 #[.pointer (some ⟨b, 0, none⟩)] w fun r w' => r = .returned (.tuple #[evV t.ev, .bool true]) ∧ Que w' b L F l ∧ Mine (· = b) w w' := by
  have h := lpStep b L F (t :: l) w H hv hL hF
  unfold StepPost at h
  rw [step_out hq] at h
  exact h
theorem lpStepOn {t : Tr} {l : List Tr} (H : Que w b L F (t :: l)) (hv : ∀ u ∈ t :: l, inI u.ev.val) (hL : 0 ≤ L ∧ L ≤ 9223372036854775807) (hF : F ≤ 40) (hq : leaves L F t = false) :
    Calls Try.prog 15 #[.pointer (some ⟨b, 0, none⟩)] w fun r w' => r = .returned (.tuple #[evV zEv, .bool false]) ∧ Que w' b L F (l ++ [next t]) ∧ Mine (· = b) w w' := by
  have h := lpStep b L F (t :: l) w H hv hL hF
  unfold StepPost at h
  rw [step_on hq] at h
  exact h
end
/-- The events that a row of trips leaves as. -/
def outs (L : Int) (F : Nat) (l : List Tr) : List Ev := l.map fun t => (fin L F t).ev
def trips (l : List Ev) : List Tr := l.map fun e => ⟨e, 0⟩
theorem outs_on {L : Int} {F : Nat} {t : Tr} (hq : leaves L F t = false) (l : List Tr) (e : Ev) : (outs L F (l ++ [next t])).count e = (outs L F (t :: l)).count e := by
  simp only [outs, List.map_append, List.map_cons, List.map_nil, fin_go hq, List.count_append, List.count_cons, List.count_nil]
  omega
theorem outs_out {L : Int} {F : Nat} {t : Tr} (hq : leaves L F t = true) (l : List Tr) : outs L F (t :: l) = t.ev :: outs L F l := by simp [outs, fin_stop hq]
theorem ran_evOk {L : Int} {F : Nat} {e : Ev} (h : evOk e) : evOk (ran L F e).ev := ⟨h.1, ran_ok h.2.1, h.2.2⟩
theorem next_evOk {t : Tr} (h : evOk t.ev) : evOk (next t).ev := ⟨h.1, half_in h.2.1, h.2.2⟩
theorem ran_n {L : Int} {F : Nat} {e : Ev} : (ran L F e).n ≤ F := by
  have := rv_le L (F - 0) e.val
  show 0 + (rv L (F - 0) e.val).2 ≤ F
  omega
/-- A queue and a map of the call's own, beside each other. -/
structure QM (w0 : World) (b mb : Nat) (L : Int) (F : Nat) (l : List Tr) (m : Nat) (D : DataW Unit) (w : World) : Prop where
  que : Que w b L F l
  map : Cnt w mb m D
  below : Below w0.heap.size w0 w
  newb : w0.heap.size ≤ b
  newm : w0.heap.size ≤ mb
  ne : b ≠ mb
theorem QM.up {w0 w w' : World} {b mb : Nat} {L : Int} {F : Nat} {l : List Tr} {m : Nat} {D : DataW Unit} (h : QM w0 b mb L F l m D w) (hb : Below w.heap.size w w') : QM w0 b mb L F l m D w' :=
  ⟨h.que.below hb, ownsMap_block h.map (hb.block _ h.map.lt), below_next h.below hb, h.newb, h.newm, h.ne⟩
theorem QM.turnQ {w0 w w' : World} {b mb : Nat} {L : Int} {F : Nat} {l l' : List Tr} {m : Nat} {D : DataW Unit} (h : QM w0 b mb L F l m D w) (hq : Que w' b L F l') (hm : Mine (· = b) w w') : QM w0 b mb L F l' m D w' :=
  ⟨hq, ownsMap_block h.map (hm.block _ h.map.lt fun e => h.ne e.symm), Mine.below h.below hm (fun k hk => by rw [hk]; exact h.newb) h.below.size, h.newb, h.newm, h.ne⟩
theorem QM.turnM {w0 w w' : World} {b mb : Nat} {L : Int} {F : Nat} {l : List Tr} {m m' : Nat} {D D' : DataW Unit} (h : QM w0 b mb L F l m D w) (hq : Cnt w' mb m' D') (hg : w.grownBy w' (some mb)) : QM w0 b mb L F l m' D' w' :=
  ⟨h.que.mine (Mine.grown_one hg) h.ne, hq, Mine.below h.below (Mine.grown_one hg) (fun k hk => by rw [hk]; exact h.newm) h.below.size, h.newb, h.newm, h.ne⟩
theorem lies_grownL {w w' : World} {k b : Nat} {C : Array Value} {T : TypeId} (h : Lies k C T w) (hg : w.grownBy w' (some b)) (hne : k ≠ b) : Lies k C T w' := (Mine.grown_one hg).lies h hne
theorem take_succ {α : Type} {l : List α} {k : Nat} {x : α} (h : l[k]? = some x) : l.take (k + 1) = l.take k ++ [x] := by
  rw [List.take_add_one, h]; rfl
set_option maxHeartbeats 8000000 in
theorem walkLoopEnds (l f : Int) (xs : List Ev) (A : Option Addr) (c : Nat) (w : World) (hA : Row w A (xs.flatMap evL)) (hl : xs.length ≤ c) (hc : c ≤ 9223372036854775807) (hok : ∀ e ∈ xs, evOk e) (hli : inI l) :
    Calls Try.prog 5 #[.int .i64 l, .int .i64 f, .slice A xs.length c] w (TellsB true w) := by
  obtain ⟨ys, hys⟩ : ∃ ys, ys = xs.take 16 := ⟨_, rfl⟩
  have hYO : ∀ t ∈ ys, evOk t := fun t ht => hok t (by rw [hys] at ht; exact List.mem_of_mem_take ht)
  have hYA : Row w A (ys.flatMap evL) := by rw [hys]; exact row_take evL_len hA 16
  obtain ⟨n, hn⟩ : ∃ n, n = ys.length := ⟨_, rfl⟩
  have hnx : n = if 16 < xs.length then 16 else xs.length := by rw [hn, hys, List.length_take]; split <;> omega
  have hn3 : n ≤ 16 := by rw [hnx]; split <;> omega
  obtain ⟨L, hL⟩ : ∃ L, L = limOf l := ⟨_, rfl⟩
  obtain ⟨F, hF⟩ : ∃ F, F = fuelOf f := ⟨_, rfl⟩
  have hF40 : F ≤ 40 := by rw [hF]; exact fuelOf_le f
  have hLi := limOf_in hli
  rw [← hL] at hLi
  have hff : min (max f 0) 40 = (F : Int) := by rw [hF]; unfold fuelOf; omega
  obtain ⟨N, hN⟩ : ∃ N : Nat, N = n * (F + 1) := ⟨_, rfl⟩
  have hN2 : N ≤ 656 := by rw [hN]; exact Nat.le_trans (Nat.mul_le_mul hn3 (Nat.succ_le_succ hF40)) (by decide)
  have hN3 : (n : Int) * ((F : Int) + 1) = (N : Int) := by rw [hN]; push_cast; rfl
  have hw1 := wrap_i (v := (F : Int) + 1) (by unfold inI; omega)
  have hw2 := wrap_i (v := (N : Int)) (by unfold inI; omega)
  have HRUN := Lib.hid (fun e (he : inI e.val) w => lpRun e l f he hli w)
  have HNEW := Lib.hid (fun w => lpNew l f hli w)
  rw [← hL, ← hF] at HRUN HNEW
  have HA := Lib.hid hYA
  have HNX := Lib.hid hnx
  have HN := Lib.hid hn
  have HOK := Lib.hid hYO
  have HLI := Lib.hid hLi
  have HF40 := Lib.hid hF40
  have HNN := Lib.hid hN
  have HN2 := Lib.hid hN2
  have HN3 := Lib.hid hN3
  have HW1 := Lib.hid hw1
  have HW2 := Lib.hid hw2
  clear hA hys hYA hn hnx hok hYO hL hF hli hLi hN hN2 hN3 hw1 hw2
  have hmm := @run_makeMap Try.prog
  go_enter Try.func5, Try.ntmps5
  go_upto_if 19 with fail
  go_cut [2] from 20 (fun s wc => s = .slice A n c ∧ wc = w)
  case first =>
    by_cases h : 16 < xs.length
    · have h1 : (16 : Int) < xs.length := by omega
      have h2 : (16 : Int) ≤ c := by omega
      have hn := HNX.out
      rw [if_pos h] at hn
      go_wp2_with fail
      go_meet
      case rel => exact ⟨by rw [hn], rfl⟩
    · have h1 : (xs.length : Int) ≤ 16 := by omega
      have hn := HNX.out
      rw [if_neg h] at hn
      go_wp2_with fail
      go_meet
      case rel => exact ⟨by rw [hn], rfl⟩
  case rest =>
    obtain ⟨rfl, hw⟩ := hcut
    subst hw
    go_wp2_with fail
    refine (HNEW.out _).mono ?_
    rintro e w1 ⟨b, rfl, hb, hq, hbl⟩
    have P0 : Hid (QM wc b w1.heap.size L F [] 0 (.map []) (w1.alloc (.map #[] 0))) := Lib.hid ⟨hq.below (below_al (Below.refl _ _)), World.ownsMap_made (H := Unit) w1 Try.prog 23 (plainElem (H := Unit) Try.prog 3), below_al hbl, hb, hbl.size, by have := hq.lt; omega⟩
    obtain ⟨mb, hmb⟩ : ∃ mb, mb = w1.heap.size := ⟨_, rfl⟩
    clear hq hbl hb
    go_wp2_with fail
    rw [← hmb] at P0 ⊢
    clear hmb
    go_loopw [30] (fun s30 wr => ∃ (k : Nat) (D : DataW Unit), s30 = .int .i64 k ∧ k ≤ n ∧ QM wc b mb L F (trips (ys.take k)) k D wr ∧ CountAt D (fun e => ((outs L F (trips (ys.take k))).count e : Int))) (fun s30 _ => n - (intOf s30).toNat)
    case atStart => exact ⟨0, _, rfl, Nat.zero_le _, P0.out, count_start _ fun e => rfl⟩
    case round =>
      clear P0
      obtain ⟨k, D, rfl, hk, hp, hcnt⟩ := hrel
      have HP := Lib.hid hp
      have HC := Lib.hid hcnt
      clear hp hcnt
      by_cases hlt : k < n
      · obtain ⟨e, hx⟩ : ∃ e, ys[k]? = some e := ⟨_, List.getElem?_eq_getElem (by rw [← HN.out]; exact hlt)⟩
        obtain ⟨bb, off, rfl, c0, c1, c2⟩ := row_evL (HA.out.below HP.out.below) hx
        have HT := Lib.hid (take_succ hx)
        have HE := Lib.hid (HOK.out e (List.mem_of_getElem? hx))
        clear hx
        obtain ⟨t, ht⟩ : ∃ t, t = ran L F e := ⟨_, rfl⟩
        have HR := Lib.hid (fun w => HRUN.out e HE.out.2.1 w)
        rw [← ht] at HR
        have HTE : Hid (evOk t.ev) := Lib.hid (by rw [ht]; exact ran_evOk HE.out)
        have hnt : ¬ (F : Int) < (t.n : Int) := by have := ran_n (L := L) (F := F) (e := e); rw [← ht] at this; omega
        have HO : Hid (outs L F (trips (ys.take (k + 1))) = outs L F (trips (ys.take k)) ++ [t.ev]) := Lib.hid (by rw [HT.out, ht]; simp [outs, trips, ran])
        have HT2 : Hid (trips (ys.take (k + 1)) = trips (ys.take k) ++ [⟨e, 0⟩]) := Lib.hid (by rw [HT.out]; simp [trips])
        have HLN : Hid ((trips (ys.take k)).length < 16) := Lib.hid (by simp [trips, List.length_take]; omega)
        clear ht
        have P1 := Lib.hid (HP.out.up (below_al (o := .cells (evC e) 23) (Below.refl _ _)))
        have LX := Lib.hid (Lies.new wr (evC e) 23)
        have NX : Hid (wr.heap.size ≠ b) := Lib.hid (by have := HP.out.que.lt; omega)
        go_wp2_with fail
        refine (lpPut b L F _ e _ P1.out.que HLN.out).mono ?_
        rintro e1 w1 ⟨rfl, q1, q2⟩
        have P2 := Lib.hid (P1.out.turnQ q1 q2)
        have L2 := Lib.hid (q2.lies LX.out NX.out)
        have d0 := L2.out.cell (j := 0) rfl
        have d1 := L2.out.cell (j := 1) rfl
        have d2 := L2.out.cell (j := 2) rfl
        clear q1 q2
        go_wp2_with fail
        refine (HR.out _).mono ?_
        rintro e2 w3 ⟨rfl, hb3⟩
        have P4 := Lib.hid ((P2.out.up hb3).up (below_al (o := .cells (evC t.ev) 23) (Below.refl _ _)))
        have L4 := Lib.hid (Lies.new w3 (evC t.ev) 23)
        clear hb3 d0 d1 d2
        go_wp2_with fail
        obtain ⟨w4, hw4⟩ : ∃ w4, w4 = w3.alloc (.cells (evC t.ev) 23) := ⟨_, rfl⟩
        rw [← hw4] at P4 L4 ⊢
        clear hw4
        have d0 := L4.out.cell (j := 0) rfl
        have d1 := L4.out.cell (j := 1) rfl
        have d2 := L4.out.cell (j := 2) rfl
        obtain ⟨st, w5, e1, e2, e3, g5, hst⟩ := ev_turn P4.out.map.drew (by unfold maxLen; omega) HTE.out HC.out
        have hcl : (outs L F (trips (ys.take k))).count t.ev ≤ 16 := Nat.le_trans List.count_le_length (by simp [outs, trips, List.length_take]; omega)
        obtain ⟨q, hq⟩ : ∃ q, q = (outs L F (trips (ys.take k))).count t.ev := ⟨_, rfl⟩
        rw [← hq] at e1 e2 e3 hcl
        obtain ⟨w6, e4, o6, g6⟩ := hst ((q : Int) + 1) (by unfold inI; omega)
        unfold goInt at e2 e4
        have hw3 := wrap_i (v := (q : Int) + 1) (by unfold inI; omega)
        have P6 := Lib.hid (QM.turnM (P4.out.up (below_drewOf (Below.refl _ _))) o6 g6)
        have HC6 : Hid (CountAt (D.put (evK t.ev) (.lit (.int .i64 ((q : Int) + 1)))) (fun e => ((outs L F (trips (ys.take (k + 1)))).count e : Int))) := by
          have := count_put (g := fun e => ((outs L F (trips (ys.take (k + 1)))).count e : Int)) P4.out.map.isMap HTE.out HC.out fun u hu => by
            show ((outs L F (trips (ys.take (k + 1)))).count u : Int) = ((outs L F (trips (ys.take k))).count u : Int)
            rw [HO.out, List.count_append, List.count_singleton, if_neg (by simpa using fun e => hu e.symm), Nat.add_zero]
          have e0 : (((outs L F (trips (ys.take (k + 1)))).count t.ev : Nat) : Int) = (q : Int) + 1 := by rw [HO.out, List.count_append, List.count_singleton_self, ← hq]; rfl
          rw [e0] at this
          exact Lib.hid this
        clear hst o6 g5 g6 hq
        go_region
        clear e1 e2 e3 e4 d0 d1 d2
        go_wp2_with fail
        go_roundw
        case rel => exact ⟨k + 1, _, by go_num, by omega, by rw [HT2.out]; exact P6.out, HC6.out⟩
        case measure => simp [intOf]; omega
      · have hge : n ≤ k := by omega
        have HKN : Hid (ys.take k = ys) := Lib.hid (by rw [show k = n by omega, HN.out, List.take_length])
        have q0 := HP.out
        have q1 := HC.out
        rw [HKN.out] at q0 q1
        have Q0 := Lib.hid q0
        have Q1 := Lib.hid q1
        clear q0 q1
        have hw1 := HW1.out
        have hw2 := HW2.out
        have hN3 := HN3.out
        clear HKN HP HC
        go_wp2_with fail
        clear hw1 hw2 hN3
        have HS0 : Hid (lefts L F (trips ys) ≤ N - 0) := Lib.hid (by rw [HNN.out, HN.out]; have := lefts_le L F (trips ys); simpa [trips] using this)
        have HV0 : Hid (∀ t ∈ trips ys, evOk t.ev) := Lib.hid (fun t ht => by
          obtain ⟨e, he, rfl⟩ := List.mem_map.1 ht
          exact HOK.out e he)
        go_loopw [64] (fun s64 wr => ∃ (i : Nat) (r : List Tr) (m : Nat) (D : DataW Unit), s64 = .int .i64 i ∧ i ≤ N ∧ QM wc b mb L F r m D wr ∧ CountAt D (fun e => ((outs L F r).count e : Int)) ∧ m ≤ 16 + i ∧ lefts L F r ≤ N - i ∧ ∀ t ∈ r, evOk t.ev) (fun s64 _ => N - (intOf s64).toNat)
        case atStart => exact ⟨0, _, k, _, rfl, Nat.zero_le _, Q0.out, Q1.out, by omega, HS0.out, HV0.out⟩
        case round =>
          clear Q0 Q1 HS0 HV0 hlt hge hk
          obtain ⟨i, r, m, D, rfl, hi, hp, hcnt, hm, hle, hv⟩ := hrel
          have HP := Lib.hid hp
          have HC := Lib.hid hcnt
          have HLE := Lib.hid hle
          have HV := Lib.hid hv
          have HM := Lib.hid hm
          clear hp hcnt hle hv hm
          by_cases hlt : i < N
          · have hi9 : i < 1000 := by have := HN2.out; omega
            cases r with
            | nil =>
              go_wp2_with fail
              refine (lpStep0 HP.out.que HLI.out HF40.out).mono ?_
              rintro e1 w1 ⟨rfl, q1, q2⟩
              have P1 := Lib.hid (HP.out.turnQ q1 q2)
              have P2 := Lib.hid (P1.out.up (below_al (o := .cells (evC zEv) 23) (Below.refl _ _)))
              clear q1 q2
              go_wp2_with fail
              go_roundw
              case rel => exact ⟨i + 1, [], m, D, by go_num, by omega, P2.out, HC.out, by have := HM.out; omega, by simp [lefts], by simp⟩
              case measure => simp [intOf]; omega
            | cons t r =>
              have HVI : Hid (∀ u ∈ t :: r, inI u.ev.val) := Lib.hid fun u hu => (HV.out u hu).2.1
              cases hq : leaves L F t
              · have HQ := Lib.hid hq
                clear hq
                go_wp2_with fail
                refine (lpStepOn HP.out.que HVI.out HLI.out HF40.out HQ.out).mono ?_
                rintro e1 w1 ⟨rfl, q1, q2⟩
                have P1 := Lib.hid (HP.out.turnQ q1 q2)
                have P2 := Lib.hid (P1.out.up (below_al (o := .cells (evC zEv) 23) (Below.refl _ _)))
                clear q1 q2
                go_wp2_with fail
                go_roundw
                case rel =>
                  refine ⟨i + 1, _, m, D, by go_num, by omega, P2.out, fun e he => ?_, by have := HM.out; omega, ?_, fun u hu => ?_⟩
                  · have := outs_on HQ.out r e
                    rw [HC.out e he]
                    show DataW.lit (Lit.int .i64 (((outs L F (t :: r)).count e : Nat) : Int)) = .lit (.int .i64 (((outs L F (r ++ [next t])).count e : Nat) : Int))
                    rw [this]
                  · have h1 := HLE.out
                    have h2 := left_go HQ.out
                    rw [lefts_cons] at h1
                    rw [lefts_push]
                    omega
                  · rcases List.mem_append.1 hu with h1 | h1
                    · exact HV.out u (by simp [h1])
                    · rw [List.mem_singleton.1 h1]; exact next_evOk (HV.out t (by simp))
                case measure => simp [intOf]; omega
              · have HQ := Lib.hid hq
                clear hq
                have HTE := Lib.hid (HV.out t (by simp))
                go_wp2_with fail
                refine (lpStepOut HP.out.que HVI.out HLI.out HF40.out HQ.out).mono ?_
                rintro e1 w1 ⟨rfl, q1, q2⟩
                have P1 := Lib.hid (HP.out.turnQ q1 q2)
                have P4 := Lib.hid (P1.out.up (below_al (o := .cells (evC t.ev) 23) (Below.refl _ _)))
                clear q1 q2
                have P5 := P4.out
                have hmm2 := HM.out
                have hN2 := HN2.out
                obtain ⟨st0, w50, a1, _, _, _, _⟩ := ev_turn P5.map (by unfold maxLen; omega) HTE.out HC.out
                obtain ⟨st, w5, e1, e2, e3, g5, hst⟩ := ev_turn P5.map.drew (by unfold maxLen; omega) HTE.out HC.out
                obtain ⟨q, hq⟩ : ∃ q, q = (outs L F r).count t.ev := ⟨_, rfl⟩
                have hq1 : (outs L F (t :: r)).count t.ev = q + 1 := by rw [outs_out HQ.out, List.count_cons_self, hq]
                have hql : q < 100 := by
                  have h1 := lefts_ge L F (t :: r)
                  have h2 := HLE.out
                  have h3 : q ≤ r.length := by rw [hq]; exact Nat.le_trans List.count_le_length (by simp [outs])
                  obtain ⟨_, _, _, h4, _⟩ := HP.out.que
                  have h5 := h4.len
                  have h6 := h4.few
                  rw [List.length_cons] at h5
                  omega
                rw [hq1] at a1 e1 e2 e3
                obtain ⟨w6, e4, o6, g6⟩ := hst (q : Int) (by unfold inI; omega)
                unfold goInt at e2 e4
                have hz0 : (((q + 1 : Nat) : Int) == 0) = false := ne_b (by omega)
                have hs1 : ((q + 1 : Nat) : Int) - 1 = (q : Int) := by omega
                have hw3 := wrap_i (v := (q : Int)) (by unfold inI; omega)
                have P6 := Lib.hid (QM.turnM (P5.up (below_drewOf (Below.refl _ _))) o6 g6)
                have HC6 : Hid (CountAt (D.put (evK t.ev) (.lit (.int .i64 (q : Int)))) (fun e => ((outs L F r).count e : Int))) := by
                  have := count_put (g := fun e => ((outs L F r).count e : Int)) P5.map.isMap HTE.out HC.out fun u hu => by
                    show ((outs L F r).count u : Int) = ((outs L F (t :: r)).count u : Int)
                    rw [outs_out HQ.out, List.count_cons_of_ne (fun e => hu e.symm)]
                  rw [← hq] at this
                  exact Lib.hid this
                have HST : Hid (m + 1 ≤ 16 + (i + 1)) := Lib.hid (by omega)
                clear hst o6 g5 g6 hq hq1 hql hmm2 hN2 P5
                go_wp2_with fail
                go_region
                clear a1 e1 e2 e3 e4
                go_wp2_with fail
                go_roundw
                case rel =>
                  refine ⟨i + 1, r, m + 1, _, by go_num, by omega, P6.out, HC6.out, HST.out, ?_, fun u hu => HV.out u (by simp [hu])⟩
                  have h1 := HLE.out
                  have h2 := left_pos L F t
                  rw [lefts_cons] at h1
                  omega
                case measure => simp [intOf]; omega
          · have hge : N ≤ i := by omega
            obtain rfl : r = [] := lefts_nil (L := L) (F := F) (by have := HLE.out; omega)
            have H0 : Hid (∀ e, evOk e → D.atKey (evK e) (.lit (.int .i64 0)) = .lit (.int .i64 0)) := Lib.hid (fun e he => HC.out e he)
            obtain ⟨wo, hwo⟩ : ∃ wo, wo = wr := ⟨_, rfl⟩
            subst hwo
            have HBN : Hid (b < wo.heap.size) := Lib.hid HP.out.que.lt
            have HSZ : Hid (wc.heap.size ≤ wo.heap.size) := Lib.hid HP.out.below.size
            go_wp2_with (first | (at_range; refine wpList_range_own _ rfl _ 43 rfl 23 3 (Keyed.of_law lawEv) Try.underlying43 (plainElem (H := Unit) Try.prog 3) mb m D rfl HP.out.map ?_; intro w0 hrg0 hg0 hs0) | fail)
            go_frame
            clear hi hge hlt
            have G0 := Lib.hid (show wo.grownBy w0 none from hg0)
            have R0 := Lib.hid hrg0
            clear hg0 hrg0 hs0
            go_loopw [16] (fun _ wr => ∃ left cnt, wr.ranges Try.prog 23 (plainElem (H := Unit) Try.prog 3) mb wo.heap.size m D left cnt ∧ Que wr b L F [] ∧ Below wc.heap.size wc wr) (fun _ wr => wr.rangeLeft mb wo.heap.size)
            case atStart =>
              have hM : Mine (fun _ => False) wo w0 := Mine.grown G0.out (fun k hk => by cases hk)
              exact ⟨_, _, R0.out, HP.out.que.mine hM (fun h => h), Mine.below HP.out.below hM (fun k hk => hk.elim) HSZ.out⟩
            case round =>
              obtain ⟨left, cnt, hrg, hq, hbl⟩ := hrel
              have HQ := Lib.hid hq
              have HB := Lib.hid hbl
              have HRG := Lib.hid hrg
              clear hq hbl hrg
              go_wp2_with (first
                | (at_next; refine wpList_next_ranges _ rfl _ rfl 23 (Keyed.of_law lawEv) (plainElem (H := Unit) Try.prog 3) (fun v : Value => v) (Value.int .i64) (fun key kl _ => ⟨key, rfl⟩) (fun v y hv => by obtain ⟨c, rfl, _⟩ := plainElem_int_inv Try.underlying3 hv; exact ⟨c, rfl⟩) mb wo.heap.size m D left cnt rfl HRG.out ?_ ?_)
                | fail)
              · intro hc0 hl0
                clear hc0 hl0
                go_wp2_with (first
                  | (go_at_call 17; refine (lpLen b L F [] _ HQ.out).mono ?_; rintro e1 w1 ⟨rfl, rfl⟩)
                  | (go_at_call 11; refine (half6 _).mono ?_; rintro e4 w4 ⟨rfl, rfl⟩))
                go_ret
                exact ⟨rfl, HB.out⟩
              · intro x cv kl yd yp w1 cnt1 hkey hlk hv hat hrg1 hlt1 hg1 hs1 hen
                obtain ⟨e, he, rfl, rfl⟩ := keyOf_ev_inv hkey
                obtain ⟨c', ec, hy, hwc⟩ := plainElem_int_inv Try.underlying3 hv
                cases ec
                cases hy
                have hz : cv = 0 := lit_inj ((hat (.lit (.int .i64 0))).symm.trans (H0.out e he))
                subst hz
                have hM : Mine (· = wo.heap.size) wr w1 := Mine.grown_one hg1
                have Q1 := Lib.hid (HQ.out.mine hM (by have := HBN.out; omega))
                have B1 := Lib.hid (Mine.below HB.out hM (fun k hk => by rw [hk]; exact HSZ.out) HB.out.size)
                have R1 := Lib.hid hrg1
                have LT := Lib.hid hlt1
                clear hkey hlk hv hat hrg1 hlt1 hg1 hs1 he hwc hM
                go_wp2_with fail
                go_roundw
                case rel => exact ⟨_, _, R1.out, Q1.out, B1.out⟩
                case measure => rw [R1.out.left_eq, HRG.out.left_eq]; exact LT.out
theorem lawLoopEnds : Lift.Owes 5 [2, 3, 28] := by
  intro H enc W base args ds ps hval hA _ _
  obtain ⟨v0, v1, v2, d0, d1, d2, p0, p1, p2, rfl, rfl, rfl, h0, h1, h2⟩ := trodAll_three hA
  obtain ⟨x0, rfl, _, _, wf0⟩ := open_int Try.underlying2 (hval 0 _ v0 rfl rfl) h0
  obtain ⟨x1, rfl, _, _, wf1⟩ := open_int Try.underlying3 (hval 1 _ v1 rfl rfl) h1
  obtain ⟨A, c, xs, rfl, hl, hc, hrow, hok⟩ := openEvsL (hval 2 _ v2 rfl rfl) h2
  exact walkLoopEnds x0 x1 xs A c W hrow hl hc hok (lwf64 wf0)
end Lp
theorem lawLoopEnds : Lift.Owes 5 [2, 3, 28] := Lp.lawLoopEnds
end Go.Proofs.Ytdfdfdhgggilbaa
