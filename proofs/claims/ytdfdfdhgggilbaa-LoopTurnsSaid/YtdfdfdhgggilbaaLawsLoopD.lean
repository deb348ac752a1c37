/- The walk of the law LoopTurns. -/
import Derived.Test.YtdfdfdhgggilbaaLawsLoopC
namespace Go.Proofs.Ytdfdfdhgggilbaa
open Go.ChangeShapes Go.WideShapes Go.ChangeAt Go.RowKit Go.Maps
set_option linter.unusedVariables false
set_option maxRecDepth 8000
namespace Lp
open Gen
/-- What the map holds while the events of one side leave; ahead of a side. -/
def sideH (s : Nat) (O r : List Ev) (e : Ev) : Int := if s = 0 then (O.count e : Int) - (r.count e : Int) else (r.count e : Int)
def sideG (s : Nat) (O : List Ev) (e : Ev) : Int := if s = 1 then (O.count e : Int) else 0
theorem side_start {s : Nat} (hs : s < 2) {O r : List Ev} (h : r.Perm O) (e : Ev) : sideH s O r e = sideG s O e := by
  have := h.count_eq e
  unfold sideH sideG
  rcases (show s = 0 ∨ s = 1 by omega) with rfl | rfl
  · simp; omega
  · simp; omega
theorem side_end {s : Nat} (hs : s < 2) (O : List Ev) (e : Ev) : sideH s O [] e = sideG (s + 1) O e := by
  unfold sideH sideG
  rcases (show s = 0 ∨ s = 1 by omega) with rfl | rfl <;> simp
theorem side_out (s : Nat) (hs : s < 2) (O r : List Ev) (x : Ev) : sideH s O r x = sideH s O (x :: r) x + (1 - 2 * (s : Int)) := by
  unfold sideH
  rw [List.count_cons_self]
  rcases (show s = 0 ∨ s = 1 by omega) with rfl | rfl
  · simp; omega
  · simp; omega
theorem side_other (s : Nat) (O r : List Ev) {x e : Ev} (h : e ≠ x) : sideH s O r e = sideH s O (x :: r) e := by
  unfold sideH
  rw [List.count_cons_of_ne (fun h2 => h h2.symm)]
theorem side_on {L : Int} {F : Nat} {t : Tr} (hq : leaves L F t = false) (s : Nat) (O : List Ev) (l : List Tr) (e : Ev) : sideH s O (outs L F (l ++ [next t])) e = sideH s O (outs L F (t :: l)) e := by
  unfold sideH
  rw [outs_on hq]
theorem side_in (s : Nat) {O r : List Ev} (h1 : O.length ≤ 16) (h2 : r.length ≤ 16) (e : Ev) : -16 ≤ sideH s O r e ∧ sideH s O r e ≤ 16 := by
  have a := List.count_le_length (a := e) (l := O)
  have b := List.count_le_length (a := e) (l := r)
  unfold sideH
  split <;> omega
/-- A map of the call's own. -/
structure MO (w0 : World) (mb m : Nat) (D : DataW Unit) (w : World) : Prop where
  map : Cnt w mb m D
  below : Below w0.heap.size w0 w
  newm : w0.heap.size ≤ mb
theorem QM.mo {w0 w : World} {b mb : Nat} {L : Int} {F : Nat} {l : List Tr} {m : Nat} {D : DataW Unit} (h : QM w0 b mb L F l m D w) : MO w0 mb m D w := ⟨h.map, h.below, h.newm⟩
theorem MO.qm {w0 w w' : World} {b mb : Nat} {L : Int} {F : Nat} {l : List Tr} {m : Nat} {D : DataW Unit} (h : MO w0 mb m D w) (hb : Below w.heap.size w w') (hq : Que w' b L F l) (hn : w.heap.size ≤ b) : QM w0 b mb L F l m D w' :=
  ⟨hq, ownsMap_block h.map (hb.block _ h.map.lt), below_next h.below hb, by have := h.below.size; omega, h.newm, by have := h.map.lt; omega⟩
theorem que_few {w : World} {b : Nat} {L : Int} {F : Nat} {l : List Tr} (h : Que w b L F l) : l.length ≤ 16 := by
  obtain ⟨_, _, _, h4, _⟩ := h
  have := h4.len
  have := h4.few
  omega
theorem outs_len (L : Int) (F : Nat) (l : List Tr) : (outs L F l).length = l.length := by simp [outs]
theorem outs_rev (L : Int) (F : Nat) (ys : List Ev) : (outs L F (trips ys.reverse)).Perm (outs L F (trips ys)) := by
  simp only [outs, trips, List.map_reverse]
  exact List.reverse_perm _
set_option maxHeartbeats 8000000 in
theorem walkLoopTurns (l f : Int) (xs : List Ev) (A : Option Addr) (c : Nat) (w : World) (hA : Row w A (xs.flatMap evL)) (hl : xs.length ≤ c) (hc : c ≤ 9223372036854775807) (hok : ∀ e ∈ xs, evOk e) (hli : inI l) :
    Calls Try.prog 8 #[.int .i64 l, .int .i64 f, .slice A xs.length c] w (TellsB true w) := by
  obtain ⟨ys, hys⟩ : ∃ ys, ys = xs.take 16 := ⟨_, rfl⟩
  have hYO : ∀ t ∈ ys, evOk t := fun t ht => hok t (by rw [hys] at ht; exact List.mem_of_mem_take ht)
  have hYA : Row w A (ys.flatMap evL) := by rw [hys]; exact row_take evL_len hA 16
  obtain ⟨n, hn⟩ : ∃ n, n = ys.length := ⟨_, rfl⟩
  have hnx : n = if 16 < xs.length then 16 else xs.length := by rw [hn, hys, List.length_take]; split <;> omega
  have hn3 : n ≤ 16 := by rw [hnx]; split <;> omega
  obtain ⟨L, hL⟩ : ∃ L, L = limOf l := ⟨_, rfl⟩
  obtain ⟨F, hF⟩ : ∃ F, F = fuelOf f := ⟨_, rfl⟩
  have hF40 : F ≤ 40 := by rw [hF]; exact fuelOf_le f
  have hLi := limOf_in hli
  rw [← hL] at hLi
  obtain ⟨N, hN⟩ : ∃ N : Nat, N = n * (F + 1) := ⟨_, rfl⟩
  have hN2 : N ≤ 656 := by rw [hN]; exact Nat.le_trans (Nat.mul_le_mul hn3 (Nat.succ_le_succ hF40)) (by decide)
  obtain ⟨O, hO⟩ : ∃ O, O = outs L F (trips ys) := ⟨_, rfl⟩
  have HOL : Hid (O.length ≤ 16) := Lib.hid (by rw [hO, outs_len]; simp [trips]; omega)
  have HNEW := Lib.hid (fun w => lpNew l f hli w)
  rw [← hL, ← hF] at HNEW
  have HA := Lib.hid hYA
  have HNX := Lib.hid hnx
  have HN := Lib.hid hn
  have HOK := Lib.hid hYO
  have HLI := Lib.hid hLi
  have HF40 := Lib.hid hF40
  have HNN := Lib.hid hN
  have HN2 := Lib.hid hN2
  have HO := Lib.hid hO
  clear hA hys hYA hn hnx hok hYO hL hF hli hLi hN hN2 hO
  have hmm := @run_makeMap Try.prog
  go_enter Try.func8, Try.ntmps8
  go_upto_if 19 with fail
  go_cut [2] from 20 (fun s wc => s = .slice A n c ∧ wc = w)
  case first =>
    by_cases h : 16 < xs.length
    · have h1 : (16 : Int) < xs.length := by omega
      have h2 : (16 : Int) ≤ c := by omega
      have hn := HNX.out
      rw [if_pos h] at hn
      go_wp2_with fail
      go_meet
      case rel => exact ⟨by rw [hn], rfl⟩
    · have h1 : (xs.length : Int) ≤ 16 := by omega
      have hn := HNX.out
      rw [if_neg h] at hn
      go_wp2_with fail
      go_meet
      case rel => exact ⟨by rw [hn], rfl⟩
  case rest =>
    obtain ⟨rfl, hw⟩ := hcut
    subst hw
    have P0 : Hid (MO wc wc.heap.size 0 (.map []) (wc.alloc (.map #[] 0))) := Lib.hid ⟨World.ownsMap_made (H := Unit) wc Try.prog 23 (plainElem (H := Unit) Try.prog 3), below_al (Below.refl _ _), Nat.le_refl _⟩
    obtain ⟨mb, hmb⟩ : ∃ mb, mb = wc.heap.size := ⟨_, rfl⟩
    go_wp2_with fail
    rw [← hmb] at P0 ⊢
    clear hmb
    go_loopw [23] (fun s23 wr => ∃ (s m : Nat) (D : DataW Unit), s23 = .int .i64 s ∧ s ≤ 2 ∧ m ≤ 1000 * s ∧ MO wc mb m D wr ∧ CountAt D (sideG s O)) (fun s23 _ => 2 - (intOf s23).toNat)
    case atStart => exact ⟨0, 0, _, rfl, by omega, by omega, P0.out, count_start _ fun e => rfl⟩
    case round =>
      clear P0
      obtain ⟨s, m, D, rfl, hs, hm, hp, hcnt⟩ := hrel
      have HP := Lib.hid hp
      have HC := Lib.hid hcnt
      have HM := Lib.hid hm
      clear hp hcnt hm
      obtain ⟨wo, hwo⟩ : ∃ wo, wo = wr := ⟨_, rfl⟩
      subst hwo
      by_cases hlt : s < 2
      · have HS := Lib.hid hlt
        obtain ⟨zs, hzs⟩ : ∃ zs, zs = if s = 0 then ys else ys.reverse := ⟨_, rfl⟩
        have HZL : Hid (zs.length = n) := Lib.hid (by rw [hzs, HN.out]; split <;> simp)
        have HZP : Hid ((outs L F (trips zs)).Perm O) := Lib.hid (by rw [hzs, HO.out]; split; exact .refl _; exact outs_rev L F ys)
        have HZO : Hid (∀ e ∈ zs, evOk e) := Lib.hid (fun e he => HOK.out e (by rw [hzs] at he; split at he; exact he; exact List.mem_reverse.1 he))
        have HZK : Hid (∀ i, i < n → ∃ (kk : Nat) (e : Ev), (s = 0 ∧ kk = i ∨ s = 1 ∧ kk = n - 1 - i) ∧ zs[i]? = some e ∧ ys[kk]? = some e) := Lib.hid (fun i hi => by
          have hl := HN.out
          rcases (show s = 0 ∨ s = 1 by omega) with rfl | rfl
          · rw [if_pos rfl] at hzs
            exact ⟨i, _, .inl ⟨rfl, rfl⟩, by rw [hzs]; exact List.getElem?_eq_getElem (by omega), List.getElem?_eq_getElem _⟩
          · rw [if_neg (by omega)] at hzs
            obtain ⟨e, he⟩ : ∃ e, ys[n - 1 - i]? = some e := ⟨_, List.getElem?_eq_getElem (by omega)⟩
            refine ⟨n - 1 - i, e, .inr ⟨rfl, rfl⟩, ?_, he⟩
            rw [hzs, List.getElem?_reverse (by omega), ← hl]
            exact he)
        clear hzs
        go_wp2_with fail
        refine (HNEW.out _).mono ?_
        rintro e w1 ⟨b, rfl, hb, hq, hbl⟩
        have Q0 := Lib.hid (HP.out.qm hbl hq hb)
        clear hq hbl hb
        go_wp2_with fail
        go_loopw [33] (fun s33 wr => ∃ i : Nat, s33 = .int .i64 i ∧ i ≤ n ∧ QM wc b mb L F (trips (zs.take i)) m D wr) (fun s33 _ => n - (intOf s33).toNat)
        case atStart => exact ⟨0, rfl, Nat.zero_le _, Q0.out⟩
        case round =>
          clear Q0
          obtain ⟨i, rfl, hi, hp⟩ := hrel
          have HQ := Lib.hid hp
          clear hp
          by_cases hlt2 : i < n
          · obtain ⟨kk, e, hsk, hz, hy⟩ := HZK.out i hlt2
            obtain ⟨bb, off, rfl, c0, c1, c2⟩ := row_evL (HA.out.below HQ.out.below) hy
            have hkn : kk < n := by omega
            have HT2 : Hid (trips (zs.take (i + 1)) = trips (zs.take i) ++ [⟨e, 0⟩]) := Lib.hid (by rw [take_succ hz]; simp [trips])
            have HLN : Hid ((trips (zs.take i)).length < 16) := Lib.hid (by simp [trips, List.length_take]; omega)
            clear hz hy
            rcases hsk with ⟨hs0, hkk⟩ | ⟨hs1, hkk⟩
            · have hkk2 := hkk.symm
              subst hkk2
              have ht : ((s : Int) == 1) = false := ne_b (by omega)
              clear hs0 hkk
              go_wp2_with fail
              refine (lpPut b L F _ e _ HQ.out.que HLN.out).mono ?_
              rintro e1 w2 ⟨rfl, q1, q2⟩
              have P2 := Lib.hid (HQ.out.turnQ q1 q2)
              clear q1 q2
              go_wp2_with fail
              go_roundw
              case rel => exact ⟨i + 1, by go_num, by omega, by rw [HT2.out]; exact P2.out⟩
              case measure => simp [intOf]; omega
            · have hk1 : (n : Int) - 1 - i = (kk : Int) := by omega
              have ht : ((s : Int) == 1) = true := eq_b (by omega)
              clear hkk hs1
              go_wp2_with fail
              refine (lpPut b L F _ e _ HQ.out.que HLN.out).mono ?_
              rintro e1 w2 ⟨rfl, q1, q2⟩
              have P2 := Lib.hid (HQ.out.turnQ q1 q2)
              clear q1 q2
              go_wp2_with fail
              go_roundw
              case rel => exact ⟨i + 1, by go_num, by omega, by rw [HT2.out]; exact P2.out⟩
              case measure => simp [intOf]; omega
          · have hge2 : n ≤ i := by omega
            have HKN : Hid (zs.take i = zs) := Lib.hid (by rw [show i = n by omega, ← HZL.out, List.take_length])
            have q0 := HQ.out
            rw [HKN.out] at q0
            have Q1 := Lib.hid q0
            have HS0 : Hid (lefts L F (trips zs) ≤ N - 0) := Lib.hid (by rw [HNN.out, ← HZL.out]; have := lefts_le L F (trips zs); simpa [trips] using this)
            have HV0 : Hid (∀ t ∈ trips zs, evOk t.ev) := Lib.hid (fun t ht => by
              obtain ⟨e, he, rfl⟩ := List.mem_map.1 ht
              exact HZO.out e he)
            have HC0 : Hid (CountAt D (sideH s O (outs L F (trips zs)))) := Lib.hid (fun e he => by rw [HC.out e he, side_start HS.out HZP.out e])
            clear q0 HQ
            go_wp2_with fail
            go_loopw [12] (fun s12 wr => ∃ (j : Nat) (r : List Tr) (m : Nat) (D : DataW Unit), s12 = .int .i64 j ∧ j ≤ N ∧ QM wc b mb L F r m D wr ∧ CountAt D (sideH s O (outs L F r)) ∧ m ≤ 1000 * s + j ∧ lefts L F r ≤ N - j ∧ ∀ t ∈ r, evOk t.ev) (fun s12 _ => N - (intOf s12).toNat)
            case atStart => exact ⟨0, _, m, D, rfl, Nat.zero_le _, Q1.out, HC0.out, HM.out, HS0.out, HV0.out⟩
            case round =>
              clear Q1 HS0 HV0 HC0 HKN hge2 hlt2 hi HC HM
              obtain ⟨j, r, m, D, rfl, hj, hp, hcnt, hm, hle, hv⟩ := hrel
              have HQ := Lib.hid hp
              have HC := Lib.hid hcnt
              have HLE := Lib.hid hle
              have HV := Lib.hid hv
              have HM := Lib.hid hm
              clear hp hcnt hle hv hm
              cases r with
              | nil =>
                have HLEN := Lib.hid (show Calls Try.prog 17 #[.pointer (some ⟨b, 0, none⟩)] wr (SaysI 0 wr) from lpLen b L F [] _ HQ.out.que)
                have MO1 := Lib.hid HQ.out.mo
                have HCE : Hid (CountAt D (sideG (s + 1) O)) := Lib.hid (fun e he => by rw [HC.out e he]; show DataW.lit (Lit.int .i64 (sideH s O [] e)) = _; rw [side_end HS.out])
                have hm9 : m ≤ 1000 * (s + 1) := by have := HM.out; have := HN2.out; omega
                go_wp2_with (go_at_call 17; refine HLEN.out.mono ?_; rintro e1 w1 ⟨rfl, rfl⟩)
                go_roundw
                case rel => exact ⟨s + 1, m, D, by go_num, by omega, hm9, MO1.out, HCE.out⟩
                case measure => simp [intOf]; omega
              | cons t r =>
                obtain ⟨q, hq⟩ : ∃ q, q = (t :: r).length := ⟨_, rfl⟩
                have HLEN := Lib.hid (lpLen b L F (t :: r) wr HQ.out.que)
                rw [← hq] at HLEN
                have hq0 : (0 : Int) < (q : Int) := by rw [hq, List.length_cons]; omega
                have hj9 : j < N := by
                  have h1 := HLE.out
                  have h2 := left_pos L F t
                  rw [lefts_cons] at h1
                  omega
                have hj8 : j < 700 := by have := HN2.out; omega
                have HVI : Hid (∀ u ∈ t :: r, inI u.ev.val) := Lib.hid fun u hu => (HV.out u hu).2.1
                clear hq
                cases hq : leaves L F t
                · have HL := Lib.hid hq
                  clear hq
                  go_wp2_with (go_at_call 17; refine HLEN.out.mono ?_; rintro e1 w1 ⟨rfl, rfl⟩)
                  refine (lpStepOn HQ.out.que HVI.out HLI.out HF40.out HL.out).mono ?_
                  rintro e1 w2 ⟨rfl, q1, q2⟩
                  have P1 := Lib.hid (HQ.out.turnQ q1 q2)
                  have P2 := Lib.hid (P1.out.up (below_al (o := .cells (evC zEv) 23) (Below.refl _ _)))
                  clear q1 q2
                  go_wp2_with fail
                  go_roundw
                  case rel =>
                    refine ⟨j + 1, _, m, D, by go_num, by omega, P2.out, fun e he => ?_, by have := HM.out; omega, ?_, fun u hu => ?_⟩
                    · rw [HC.out e he, side_on HL.out]
                    · have h1 := HLE.out
                      have h2 := left_go HL.out
                      rw [lefts_cons] at h1
                      rw [lefts_push]
                      omega
                    · rcases List.mem_append.1 hu with h1 | h1
                      · exact HV.out u (by simp [h1])
                      · rw [List.mem_singleton.1 h1]; exact next_evOk (HV.out t (by simp))
                  case measure => simp [intOf]; omega
                · have HL := Lib.hid hq
                  clear hq
                  have HTE := Lib.hid (HV.out t (by simp))
                  go_wp2_with (go_at_call 17; refine HLEN.out.mono ?_; rintro e1 w1 ⟨rfl, rfl⟩)
                  refine (lpStepOut HQ.out.que HVI.out HLI.out HF40.out HL.out).mono ?_
                  rintro e1 w2 ⟨rfl, q1, q2⟩
                  have P1 := Lib.hid (HQ.out.turnQ q1 q2)
                  have P4 := Lib.hid (P1.out.up (below_al (o := .cells (evC t.ev) 23) (Below.refl _ _)))
                  clear q1 q2
                  have P5 := P4.out
                  have hm2 : m < 5000 := by have := HM.out; omega
                  obtain ⟨st, w5, e1, e2, e3, g5, hst⟩ := ev_turn P5.map.drew (by unfold maxLen; omega) HTE.out HC.out
                  have hin := side_in s HOL.out (show (outs L F (t :: r)).length ≤ 16 by rw [outs_len]; exact que_few HQ.out.que) t.ev
                  obtain ⟨z, hz⟩ : ∃ z, z = sideH s O (outs L F (t :: r)) t.ev := ⟨_, rfl⟩
                  rw [← hz] at e1 e2 e3 hin
                  obtain ⟨z2, hz2⟩ : ∃ z2, z2 = z + (1 - 2 * (s : Int)) := ⟨_, rfl⟩
                  have hs9 : (s : Int) ≤ 2 := by omega
                  obtain ⟨w6, e4, o6, g6⟩ := hst z2 (by unfold inI; omega)
                  unfold goInt at e2 e4
                  have hw1 := wrap_i (v := 2 * (s : Int)) (by unfold inI; omega)
                  have hw2 := wrap_i (v := 1 - 2 * (s : Int)) (by unfold inI; omega)
                  have hw3 : IntKind.i64.wrap (z + (1 - 2 * (s : Int))) = z2 := by rw [← hz2]; exact wrap_i (by unfold inI; omega)
                  have P6 := Lib.hid (QM.turnM (P5.up (below_drewOf (Below.refl _ _))) o6 g6)
                  have HC6 : Hid (CountAt (D.put (evK t.ev) (.lit (.int .i64 z2))) (sideH s O (outs L F r))) := by
                    have h1 : sideH s O (outs L F r) t.ev = z2 := by rw [hz2, hz, outs_out HL.out]; exact side_out s HS.out O _ _
                    have := count_put (g := sideH s O (outs L F r)) P5.map.isMap HTE.out HC.out fun u hu => by
                      rw [outs_out HL.out]
                      exact side_other s O _ hu
                    rw [h1] at this
                    exact Lib.hid this
                  have HST : Hid (m + 1 ≤ 1000 * s + (j + 1)) := Lib.hid (by have := HM.out; omega)
                  clear hst o6 g5 g6 hz hz2 hin hm2 P5 hs9
                  go_wp2_with fail
                  go_region
                  clear e1 e2 e3 e4 hw1 hw2 hw3
                  go_wp2_with fail
                  go_roundw
                  case rel =>
                    refine ⟨j + 1, r, m + 1, _, by go_num, by omega, P6.out, HC6.out, HST.out, ?_, fun u hu => HV.out u (by simp [hu])⟩
                    have h1 := HLE.out
                    have h2 := left_pos L F t
                    rw [lefts_cons] at h1
                    omega
                  case measure => simp [intOf]; omega
      · have hge : 2 ≤ s := by omega
        have H0 : Hid (∀ e, evOk e → D.atKey (evK e) (.lit (.int .i64 0)) = .lit (.int .i64 0)) := Lib.hid (fun e he => by
          rw [HC.out e he]
          unfold sideG
          rw [if_neg (by omega)])
        have HSZ : Hid (wc.heap.size ≤ wo.heap.size) := Lib.hid HP.out.below.size
        go_wp2_with (first | (at_range; refine wpList_range_own _ rfl _ 43 rfl 23 3 (Keyed.of_law lawEv) Try.underlying43 (plainElem (H := Unit) Try.prog 3) mb m D rfl HP.out.map ?_; intro w0 hrg0 hg0 hs0) | fail)
        go_frame
        clear hs hge hlt
        have G0 := Lib.hid (show wo.grownBy w0 none from hg0)
        have R0 := Lib.hid hrg0
        clear hg0 hrg0 hs0
        go_loopw [16] (fun _ wr => ∃ left cnt, wr.ranges Try.prog 23 (plainElem (H := Unit) Try.prog 3) mb wo.heap.size m D left cnt ∧ Below wc.heap.size wc wr) (fun _ wr => wr.rangeLeft mb wo.heap.size)
        case atStart =>
          have hM : Mine (fun _ => False) wo w0 := Mine.grown G0.out (fun k hk => by cases hk)
          exact ⟨_, _, R0.out, Mine.below HP.out.below hM (fun k hk => hk.elim) HSZ.out⟩
        case round =>
          obtain ⟨left, cnt, hrg, hbl⟩ := hrel
          have HB := Lib.hid hbl
          have HRG := Lib.hid hrg
          clear hbl hrg
          go_wp2_with (first
            | (at_next; refine wpList_next_ranges _ rfl _ rfl 23 (Keyed.of_law lawEv) (plainElem (H := Unit) Try.prog 3) (fun v : Value => v) (Value.int .i64) (fun key kl _ => ⟨key, rfl⟩) (fun v y hv => by obtain ⟨c, rfl, _⟩ := plainElem_int_inv Try.underlying3 hv; exact ⟨c, rfl⟩) mb wo.heap.size m D left cnt rfl HRG.out ?_ ?_)
            | fail)
          · intro hc0 hl0
            clear hc0 hl0
            go_wp2_with (go_at_call 11; refine (half6 _).mono ?_; rintro e4 w4 ⟨rfl, rfl⟩)
            go_ret
            exact ⟨rfl, HB.out⟩
          · intro x cv kl yd yp w1 cnt1 hkey hlk hv hat hrg1 hlt1 hg1 hs1 hen
            obtain ⟨e, he, rfl, rfl⟩ := keyOf_ev_inv hkey
            obtain ⟨c', ec, hy, hwc⟩ := plainElem_int_inv Try.underlying3 hv
            cases ec
            cases hy
            have hz : cv = 0 := lit_inj ((hat (.lit (.int .i64 0))).symm.trans (H0.out e he))
            subst hz
            have hM : Mine (· = wo.heap.size) wr w1 := Mine.grown_one hg1
            have B1 := Lib.hid (Mine.below HB.out hM (fun k hk => by rw [hk]; exact HSZ.out) HB.out.size)
            have R1 := Lib.hid hrg1
            have LT := Lib.hid hlt1
            clear hkey hlk hv hat hrg1 hlt1 hg1 hs1 he hwc hM
            go_wp2_with fail
            go_roundw
            case rel => exact ⟨_, _, R1.out, B1.out⟩
            case measure => rw [R1.out.left_eq, HRG.out.left_eq]; exact LT.out
theorem lawLoopTurns : Lift.Owes 8 [2, 3, 28] := by
  intro H enc W base args ds ps hval hA _ _
  obtain ⟨v0, v1, v2, d0, d1, d2, p0, p1, p2, rfl, rfl, rfl, h0, h1, h2⟩ := trodAll_three hA
  obtain ⟨x0, rfl, _, _, wf0⟩ := open_int Try.underlying2 (hval 0 _ v0 rfl rfl) h0
  obtain ⟨x1, rfl, _, _, wf1⟩ := open_int Try.underlying3 (hval 1 _ v1 rfl rfl) h1
  obtain ⟨A, c, xs, rfl, hl, hc, hrow, hok⟩ := openEvsL (hval 2 _ v2 rfl rfl) h2
  exact walkLoopTurns x0 x1 xs A c W hrow hl hc hok (lwf64 wf0)
end Lp
theorem lawLoopTurns : Lift.Owes 8 [2, 3, 28] := Lp.lawLoopTurns
end Go.Proofs.Ytdfdfdhgggilbaa
