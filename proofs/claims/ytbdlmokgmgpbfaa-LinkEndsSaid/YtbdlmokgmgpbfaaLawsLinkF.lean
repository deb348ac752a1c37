/- The walk of the law LinkEnds. -/
import Derived.Test.YtbdlmokgmgpbfaaLinkDo
import Derived.Test.YtbdlmokgmgpbfaaLinkFin
import Derived.Lib.MinMax
namespace Go.Proofs.Ytbdlmokgmgpbfaa
open Go.ChangeShapes Go.WideShapes Go.ChangeAt Go.RowKit
set_option linter.unusedVariables false
set_option maxRecDepth 8000
namespace Lk
open Gen (TellsB TellsI row_one)
/-- So many ticks. -/
def tks : Nat → Wy → Wy
  | 0, p => p
  | n + 1, p => tickW (tks n p)
theorem tks_inv {ep : Int} {n : Nat} {p : Wy} (h : Inv ep n p) : ∀ j, Inv ep (n + j) (tks j p)
  | 0 => h
  | j + 1 => tick_inv (tks_inv h j)
theorem do_tick (p : Wy) : doO p ⟨5, 0, ⟨#[]⟩⟩ = tickW p := rfl
theorem do_next (p : Wy) : doO p ⟨1, 0, ⟨#[]⟩⟩ = doO p a1 := rfl
/-- How many packets are on their way, as the memory has it. -/
def wayAt (b : Nat) (w : World) : Nat := match w.cell? ⟨b, 6, none⟩ with | some (.slice _ n _) => n | _ => 0
theorem wayAt_eq {w0 w : World} {b : Nat} {p : Wy} (h : Plays w0 b p w) : wayAt b w = p.way.length := by
  obtain ⟨vb, vw, vp, vg, vs, hp⟩ := h
  obtain ⟨A, c, rfl, _⟩ := own_form hp.way (by omega)
  have h6 := hp.at_.cell (j := 6) rfl
  unfold wayAt
  rw [h6]
  rfl
theorem Plays.next {w0 w w' : World} {b : Nat} {p : Wy} (h : Plays w0 b p w) (hb : Below w.heap.size w w') : Plays w0 b p w' := by
  obtain ⟨vb, vw, vp, vg, vs, hp⟩ := h
  exact ⟨_, _, _, _, _, hp.next hb⟩
theorem Plays.cleared {w0 w : World} {b : Nat} {p : Wy} (h : Plays w0 b p w) : Plays w0 b { p with way := [] } (w.setCell ⟨b, 6, none⟩ (.slice none 0 0)) := by
  obtain ⟨vb, vw, vp, vg, vs, hp⟩ := h
  exact ⟨_, _, _, _, _, hp.wy (World.grownBy.refl _ none) (by intro q hq; cases hq) [] (.slice none 0 0) 0 rfl own_none⟩
set_option maxRecDepth 100000 in
set_option maxHeartbeats 4000000 in
theorem walkLinkEnds (ep : Int) (acts : List Ac) (A : Option Addr) (c : Nat) (w : World) (h : Row w A (acts.flatMap acL)) (hl : acts.length ≤ c) (hc : c ≤ maxLen) :
    Calls Try.prog 6 #[.int .i64 ep, .slice A acts.length c] w (TellsB true w) := by
  obtain ⟨E, hE⟩ : ∃ E, min (max ep 0) 536870912 = E := ⟨_, rfl⟩
  have hE2 : 0 ≤ E ∧ E ≤ 536870912 := by omega
  obtain ⟨M, hM⟩ : ∃ M, M = acts.length := ⟨_, rfl⟩
  rw [← hM] at hl ⊢
  have HO := Lib.hid (fun w => ckOpenYes E (isNo_yes hE2.1 (by omega)) w)
  have HA := Lib.hid (fun w => lawAliveL w)
  have HZ := Lib.hid h
  have HMM := Lib.hid hM
  have HI0 := Lib.hid (inv_start hE2)
  clear hE2 h hM hl hc
  go_enter Try.func6, Try.ntmps6
  go_wp2_with fail
  refine (HO.out _).mono ?_
  rintro e w1 ⟨rfl, hb1⟩
  have L5 := Lib.hid ((Lies.new w1 #[.int .i64 E, .int .i64 0, .slice none 0 0, .int .i64 0] 24).al (o := .cells #[.int .i64 E, .int .i64 0] 41))
  have L6 := Lib.hid (Gen.lies_new1 w1 (.cells #[.int .i64 E, .int .i64 0, .slice none 0 0, .int .i64 0] 24) #[.int .i64 E, .int .i64 0] 41)
  have HB1 := Lib.hid (below_al (o := .cells #[.int .i64 E, .int .i64 0] 41) (below_al (o := .cells #[.int .i64 E, .int .i64 0, .slice none 0 0, .int .i64 0] 24) hb1))
  go_upto_region 2 with fail
  obtain ⟨b5, hb5⟩ : ∃ b, b = w1.heap.size := ⟨_, rfl⟩
  obtain ⟨W1, hW⟩ : ∃ W, W = (w1.alloc (.cells #[.int .i64 E, .int .i64 0, .slice none 0 0, .int .i64 0] 24)).alloc (.cells #[.int .i64 E, .int .i64 0] 41) := ⟨_, rfl⟩
  rw [← hW] at L5 L6 HB1 ⊢
  rw [← hb5] at L5 L6 ⊢
  clear hW hb5 hb1
  go_wp2_with fail
  refine (HA.out _).mono ?_
  rintro e w2 ⟨rfl, hb2⟩
  have L52 := Lib.hid (L5.out.below hb2)
  have L62 := Lib.hid (L6.out.below hb2)
  have HB2 := Lib.hid (below_next HB1.out hb2)
  clear hb2 L5 L6 HB1
  have x0 := L52.out.cell (j := 0) rfl; have x1 := L52.out.cell (j := 1) rfl; have x2 := L52.out.cell (j := 2) rfl; have x3 := L52.out.cell (j := 3) rfl
  have y0 := L62.out.cell (j := 0) rfl; have y1 := L62.out.cell (j := 1) rfl
  go_upto_region 5 with fail
  have HP0 := Lib.hid (plays0 (w0 := w) E HB2.out)
  obtain ⟨b, hb⟩ : ∃ b, b = w2.heap.size := ⟨_, rfl⟩
  obtain ⟨W2, hW⟩ : ∃ W, W = w2.alloc (.cells (plC0 E) 51) := ⟨_, rfl⟩
  rw [← hW] at HP0 ⊢
  rw [← hb] at HP0 ⊢
  clear hW hb x0 x1 x2 x3 y0 y1 L52 L62 HB2
  go_upto_block 0 with fail
  go_cut [9, 10] from 33 (fun s9 s10 wd => ∃ (k : Nat) (p : Wy), k ≤ 200 ∧ Inv E k p ∧ Plays w b p wd)
  case first =>
    go_wp2_with fail
    go_loopw [33] (fun i wr => ∃ (k : Nat) (p : Wy), i = .int .i64 (k : Int) ∧ k ≤ M ∧ k ≤ 200 ∧ Inv E k p ∧ Plays w b p wr) (fun i _ => M - (intOf i).toNat)
    case atStart => exact ⟨0, p0 E, rfl, Nat.zero_le _, Nat.zero_le _, HI0.out, HP0.out⟩
    case round =>
      clear HP0 HI0
      obtain ⟨k, p, rfl, hkM, hk, hI, hP⟩ := hrel
      have HI := Lib.hid hI
      have HP := Lib.hid hP
      clear hI hP
      by_cases hlt : k < M
      · obtain ⟨a, ha⟩ : ∃ a, acts[k]? = some a := ⟨_, List.getElem?_eq_getElem (by rw [← HMM.out]; exact hlt)⟩
        have hbel : Below w.heap.size w wr := by obtain ⟨_, _, _, _, _, hp⟩ := HP.out; exact hp.below
        obtain ⟨q, off, rfl, g⟩ := row_one acL_len (by omega) (HZ.out.below hbel) ha
        have d0 := g 0 _ rfl; have d1 := g 1 _ rfl; have d2 := g 2 _ rfl
        simp only [Nat.add_zero] at d0
        have hw := num_k (k := k) (by omega)
        have hki : (k : Int) < (M : Int) := by omega
        clear ha g hbel
        obtain ⟨what, which, body⟩ := a
        have HPA : Hid (Plays w b p (wr.alloc (.cells #[.int .i64 what, .int .i64 which, .string body] 53))) := Lib.hid (HP.out.next (below_al (Below.refl _ _)))
        by_cases h200 : k < 200
        · have h2i : ¬ (200 : Int) ≤ (k : Int) := by omega
          have HD := Lib.hid (fun w' h' => lawDoA w b E k p HI.out (by omega) ⟨what, which, body⟩ w' h')
          have HI2 := Lib.hid (do_inv HI.out (by omega) ⟨what, which, body⟩)
          obtain ⟨P, hP⟩ : ∃ P, P = doO p ⟨what, which, body⟩ := ⟨_, rfl⟩
          rw [← hP] at HD HI2
          clear hP HP
          go_wp2_with fail
          refine (HD.out _ HPA.out).mono ?_
          rintro e w3 ⟨rfl, hp3⟩
          have HP3 := Lib.hid hp3
          clear d0 d1 d2 HPA HD hp3
          go_wp2_with fail
          go_roundw
          case rel => exact ⟨k + 1, P, rfl, by omega, by omega, HI2.out, HP3.out⟩
          case measure => simp [intOf]; omega
        · have h2i : (200 : Int) ≤ (k : Int) := by omega
          go_wp2_with fail
          go_meet
          case rel => exact ⟨k, p, hk, HI.out, HPA.out⟩
      · have hki : ¬ (k : Int) < (M : Int) := by omega
        go_wp2_with fail
        go_meet
        case rel => exact ⟨k, p, hk, HI.out, HP.out⟩
  case rest =>
  obtain ⟨k, p, hk, hI, hP⟩ := hcut
  obtain ⟨W0, hW0⟩ : ∃ W, W = wc := ⟨_, rfl⟩
  subst hW0
  have HP1 := Lib.hid hP.cleared
  have HI1 := Lib.hid (tks_inv (hI.ways [] (by simp) (Nat.zero_le _)))
  obtain ⟨q, hq, hdr⟩ := dr_start hI
  have HQ : Hid (tks 4 { p with way := [] } = q) := Lib.hid hq
  have HDR := Lib.hid hdr
  have HK := Lib.hid hk
  have HB8 := Lib.hid ((right_iff _).1 hI.right).2.1
  obtain ⟨_, _, _, _, _, hp⟩ := hP
  have g6 := hp.at_.free 6
  have x6 := hp.at_.cell (j := 6) rfl
  obtain ⟨p1, hp1⟩ : ∃ p1, p1 = ({ p with way := [] } : Wy) := ⟨_, rfl⟩
  rw [← hp1] at HP1 HI1 HQ
  clear HP0 HI0 HZ HMM hp hI hq hdr hk hp1
  go_upto_region 12 with fail
  obtain ⟨W1, hW1⟩ : ∃ W, W = W0.setCell ⟨b, 6, none⟩ (.slice none 0 0) := ⟨_, rfl⟩
  rw [← hW1] at HP1 ⊢
  clear hW1 g6 x6
  go_upto_block 2 with fail
  go_cut [] from 47 (fun wd => Plays w b q wd)
  case first =>
    go_wp2_with fail
    go_loopw [47] (fun i wr => ∃ j : Nat, i = .int .i64 (j : Int) ∧ j ≤ 4 ∧ Plays w b (tks j p1) wr) (fun i _ => 4 - (intOf i).toNat)
    case atStart => exact ⟨0, rfl, Nat.zero_le _, HP1.out⟩
    case round =>
      clear HP1
      obtain ⟨j, rfl, hj, hP⟩ := hrel
      have HP := Lib.hid hP
      clear hP
      have hw := num_k (k := j) (by omega)
      by_cases hlt : j < 4
      · have hji : (j : Int) < 4 := by omega
        have HD : Hid (∀ w', Plays w b (tks j p1) w' → Calls Try.prog 23 #[.pointer (some ⟨b, 0, none⟩), .agg #[.int .i64 5, .int .i64 0, .string ⟨#[]⟩]] w' (DidP w b (tks (j + 1) p1))) :=
          Lib.hid (fun w' h' => lawDoA w b E (k + j) (tks j p1) (HI1.out j) (by have := HK.out; omega) ⟨5, 0, ⟨#[]⟩⟩ w' h')
        go_wp2_with fail
        refine (HD.out _ HP.out).mono ?_
        rintro e w3 ⟨rfl, hp3⟩
        have HP3 := Lib.hid hp3
        clear HD HP hp3
        go_wp2_with fail
        go_roundw
        case rel => exact ⟨j + 1, rfl, by omega, HP3.out⟩
        case measure => simp [intOf]; omega
      · have hji : ¬ (j : Int) < 4 := by omega
        have hj4 : j = 4 := by omega
        go_wp2_with fail
        go_meet
        case rel =>
          have h := HP.out
          rw [hj4, HQ.out] at h
          exact h
  case rest =>
  obtain ⟨W2, hW2⟩ : ∃ W, W = wc := ⟨_, rfl⟩
  subst hW2
  have HP2 := Lib.hid hcut
  clear hcut HP1 HI1 HQ
  go_upto_block 4 with fail
  go_cut [] from 53 (fun wd => ∃ (N : Nat) (p : Wy) (no : Int), N ≤ 212 ∧ Dr E N p no [] ∧ Plays w b p wd)
  case first =>
    go_wp2_with fail
    go_loopw [] (fun wr => ∃ (N : Nat) (p : Wy) (no : Int) (l : List ByteArray), N + l.length ≤ 212 ∧ Dr E N p no l ∧ Plays w b p wr) (fun wr => wayAt b wr)
    case atStart => exact ⟨_, _, _, _, by have := HB8.out; have := HK.out; omega, HDR.out, HP2.out⟩
    case round =>
      clear HP2 HDR HB8
      obtain ⟨N, p, no, l, hN, hD, hP⟩ := hrel
      have hlen := hD.way
      have hwa := wayAt_eq hP
      have HP := Lib.hid hP
      obtain ⟨vb, vw, vp, vg, vs, hp⟩ := hP
      obtain ⟨n, hn⟩ : ∃ n, n = p.way.length := ⟨_, rfl⟩
      have hnl : n = l.length := by rw [hn, hlen, packs_len]
      have hwy := hp.way
      rw [← hn] at hwy
      obtain ⟨WA, wc_, rfl, _⟩ := own_form hwy (by omega)
      have x6 := hp.at_.cell (j := 6) rfl
      have x9 : wr.cell? ⟨b, 9, none⟩ = some (.bool true) := by have h9 := hp.at_.cell (j := 9) rfl; rw [← hD.inv.ok]; exact h9
      have HD := Lib.hid hD
      have HNL := Lib.hid hN
      have HWA := Lib.hid (hwa.trans hn.symm)
      have HNE := Lib.hid hnl
      clear hp hwy hlen hwa hD hN hn hnl
      cases l with
      | nil =>
        have hn0 : n = 0 := HNE.out
        have h0i : ¬ (0 : Int) < (n : Int) := by omega
        have HD2 := Lib.hid HD.out
        clear hn0
        go_wp2_with fail
        go_meet
        case rel => exact ⟨N, p, no, by have := HNL.out; simp only [List.length_nil] at this; omega, HD2.out, HP.out⟩
      | cons x l' =>
        have hn1 : n = l'.length + 1 := HNE.out
        have h0i : (0 : Int) < (n : Int) := by omega
        clear hn1
        have HC : Hid (∀ w', Plays w b p w' → Calls Try.prog 23 #[.pointer (some ⟨b, 0, none⟩), .agg #[.int .i64 1, .int .i64 0, .string ⟨#[]⟩]] w' (DidP w b (doO p a1))) :=
          Lib.hid (fun w' h' => lawDoA w b E N p HD.out.inv (by have := HNL.out; omega) ⟨1, 0, ⟨#[]⟩⟩ w' h')
        have HS := Lib.hid (dr_step HD.out (by have := HNL.out; omega))
        have HL : Hid (N + 1 + l'.length ≤ 212) := Lib.hid (by have := HNL.out; simp only [List.length_cons] at this; omega)
        obtain ⟨P, hP⟩ : ∃ P, P = doO p a1 := ⟨_, rfl⟩
        rw [← hP] at HC HS
        clear hP
        go_wp2_with fail
        refine (HC.out _ HP.out).mono ?_
        rintro e w3 ⟨rfl, hp3⟩
        have HP3 := Lib.hid hp3
        clear hp3 HC HP x6 x9
        go_wp2_with fail
        go_roundw
        case rel => exact ⟨N + 1, P, no + 1, l', HL.out, HS.out, HP3.out⟩
        case measure =>
          have h1 := wayAt_eq HP3.out
          rw [HS.out.way, packs_len] at h1
          rw [h1, HWA.out, HNE.out]
          simp
  case rest =>
  obtain ⟨N, p, no, hN, hD, vb, vw, vp, vg, vs, hP⟩ := hcut
  obtain ⟨W1, hW1⟩ : ∃ W, W = wc := ⟨_, rfl⟩
  subst hW1
  obtain ⟨hz0, hb0, hgp, hok⟩ := dr_end hD
  have P0 := Lib.hid hP
  obtain ⟨bm, hbm⟩ : ∃ m, m = p.s.bodies.length := ⟨_, rfl⟩
  obtain ⟨pn, hpn⟩ : ∃ m, m = p.put.length := ⟨_, rfl⟩
  have o1 := hP.bod; have o2 := hP.put; have o3 := hP.got
  rw [← hbm] at o1
  rw [← hpn] at o2
  rw [hgp, ← hpn] at o3
  obtain ⟨BA, bc, rfl, _⟩ := own_form o1 (by omega)
  obtain ⟨PA, pc, rfl, _⟩ := own_form o2 (by omega)
  obtain ⟨GA, gc, rfl, _⟩ := own_form o3 (by omega)
  have HR := Lib.hid (row_of_ownL o1 (by omega))
  obtain ⟨⟨t, zt⟩, ht⟩ : ∃ o, o = ackO p.s p.s.epoch p.r.want := ⟨_, rfl⟩
  rw [← ht] at hz0 hb0
  simp only at hz0 hb0
  subst hz0
  have HTT := Lib.hid (fun w h => ckAckO p.s bm BA bc p.s.epoch p.r.want t 0 0 ht w hbm (by rw [hb0]; rfl) (by rw [hbm]; have := ((right_iff _).1 hD.inv.right).2.1; omega) h)
  have x0 := hP.at_.cell (j := 0) rfl; have x1 := hP.at_.cell (j := 1) rfl; have x2 := hP.at_.cell (j := 2) rfl; have x3 := hP.at_.cell (j := 3) rfl
  have x5 := hP.at_.cell (j := 5) rfl; have x10 := hP.at_.cell (j := 10) rfl
  have HOK := Lib.hid hok
  have S0 : W1.drew.cell? ⟨b, 0, none⟩ = some (.int .i64 p.s.epoch) ∧ W1.drew.cell? ⟨b, 1, none⟩ = some (.int .i64 p.s.base) ∧ W1.drew.cell? ⟨b, 2, none⟩ = some (.slice BA bm bc) ∧ W1.drew.cell? ⟨b, 3, none⟩ = some (.int .i64 p.s.timer) ∧ W1.drew.cell? ⟨b, 10, none⟩ = some vs ∧ W1.drew.cell? ⟨b, 1, none⟩ = some (.int .i64 p.s.base) ∧ W1.drew.cell? ⟨b, 5, none⟩ = some (.int .i64 p.r.want) ∧ Below W1.heap.size W1 W1.drew := ⟨x0, x1, x2, x3, x10, x1, x5, below_drewOf (Below.refl _ _)⟩
  have HKW : Hid (b < W1.heap.size) := Lib.hid (lies_lt hP.at_)
  have HTS := Lib.hid (fun w' (hS : w'.cell? ⟨b, 0, none⟩ = some (.int .i64 p.s.epoch) ∧ w'.cell? ⟨b, 1, none⟩ = some (.int .i64 p.s.base) ∧ w'.cell? ⟨b, 2, none⟩ = some (.slice BA bm bc) ∧ w'.cell? ⟨b, 3, none⟩ = some (.int .i64 p.s.timer) ∧ w'.cell? ⟨b, 10, none⟩ = some vs ∧ w'.cell? ⟨b, 1, none⟩ = some (.int .i64 p.s.base) ∧ w'.cell? ⟨b, 5, none⟩ = some (.int .i64 p.r.want) ∧ Below W1.heap.size W1 w') => HTT.out w' (HR.out.below hS.2.2.2.2.2.2.2))
  clear HTT HR ht hbm hpn hgp hok hb0 o1 o2 o3 hD hN hP HK HDR HP2
  clear HB8
  go_upto_region 18 with fail
  clear x0 x1 x2 x3 x5 x10
  go_cut [11, 12] from 68 (fun s11 s12 wd => ∃ b5 A5 c5, s11 = .pointer (some ⟨b5, 0, none⟩) ∧ s12 = .int .i64 0 ∧ Lies b5 #[.int .i64 t.epoch, .int .i64 t.base, .slice A5 0 c5, .int .i64 t.timer] 24 wd ∧ Below W1.heap.size W1 wd)
  case first =>
    go_region_held3 (fun w' => w'.cell? ⟨b, 0, none⟩ = some (.int .i64 p.s.epoch) ∧ w'.cell? ⟨b, 1, none⟩ = some (.int .i64 p.s.base) ∧ w'.cell? ⟨b, 2, none⟩ = some (.slice BA bm bc) ∧ w'.cell? ⟨b, 3, none⟩ = some (.int .i64 p.s.timer) ∧ w'.cell? ⟨b, 10, none⟩ = some vs ∧ w'.cell? ⟨b, 1, none⟩ = some (.int .i64 p.s.base) ∧ w'.cell? ⟨b, 5, none⟩ = some (.int .i64 p.r.want) ∧ Below W1.heap.size W1 w')
      (first | with_reducible assumption | ((with_reducible refine keep4s ?_ ?_ ?_ ?_ ?_) <;> first | with_reducible assumption | (have := HKW.out; omega)) | ((with_reducible refine keep4 hb5 ?_); with_reducible assumption) | ((with_reducible refine keep4d ?_); with_reducible assumption) | ((with_reducible refine keep4 (below_al (Below.refl _ _)) ?_); with_reducible assumption) | ((with_reducible refine keep4 (below_al (Below.refl _ _)) ?_); with_reducible exact HS5.out))
      ((go_at_call 15
        refine (HTS.out _ (by with_reducible assumption)).mono ?_
        rintro e w5 ⟨A5, c5, rfl, ho5, hb5⟩
        have HS5 := Lib.hid (keep4 hb5 (by with_reducible assumption))
        have HK5 := Lib.hid (keepLS hb5)
        (try have hlz := HK5.out _ _ (by first | with_reducible exact Lies.new _ _ _ | with_reducible exact (Lies.new _ _ _).al | with_reducible exact (Lies.new _ _ _).drew | with_reducible exact (Lies.new _ _ _).al.drew))
        (try simp only [World.size_alloc] at hlz)
        (try have HLZ := Lib.hid hlz)
        (try clear hlz)
        (try have z0 := HLZ.out.cell (j := 0) rfl)
        (try have z1 := HLZ.out.cell (j := 1) rfl)
        (try have z2 := HLZ.out.cell (j := 2) rfl)
        (try have z3 := HLZ.out.cell (j := 3) rfl)
        (try have f0 := HLZ.out.free 0)
        (try have f1 := HLZ.out.free 1)
        (try have f2 := HLZ.out.free 2)
        (try have f3 := HLZ.out.free 3)
        clear ho5
        dsimp only))
    all_goals (
      go_wp2_with fail
      go_meet
      case rel => first
        | exact ⟨_, _, _, rfl, rfl, Lies.new _ _ _, below_al HS5.out.2.2.2.2.2.2.2⟩
        | exact ⟨_, _, _, rfl, rfl, Gen.Lies.set4 HLZ.out _ _ _ _, Gen.below_set4 HS5.out.2.2.2.2.2.2.2 (Nat.le_refl _) _ _ _ _⟩)
  case rest =>
    obtain ⟨b5, A5, c5, rfl, rfl, hl5, hb5⟩ := hcut
    have P2 := Lib.hid (P0.out.next hb5)
    have HBW := Lib.hid P2.out.below
    have x9 : wc.cell? ⟨b, 9, none⟩ = some (.bool true) := by have h9 := P2.out.at_.cell (j := 9) rfl; rw [← HOK.out]; exact h9
    have x7 := P2.out.at_.cell (j := 7) rfl; have x8 := P2.out.at_.cell (j := 8) rfl
    have y2 := hl5.cell (j := 2) rfl
    have hpp : ((pn : Int) == (pn : Int)) = true := eq_b rfl
    clear hl5 hb5 S0 P0 HTS
    go_wp2_with fail
    go_quiet (fail)
    clear x7 x8 x9 y2
    go_wp2_with fail
    go_ret
    exact ⟨rfl, HBW.out.trans (below_drewN (Below.refl _ _))⟩
theorem lawLinkEnds : Lift.Owes 6 [3, 47] := by
  intro H enc W base args ds ps hval hA _ _
  obtain ⟨v0, v1, d0, d1, p0, p1, rfl, rfl, rfl, h0, h1⟩ := trodAll_two hA
  obtain ⟨x0, rfl, _, _, wf0⟩ := open_int Try.underlying3 (hval 0 _ v0 rfl rfl) h0
  obtain ⟨A, c, acts, rfl, hc1, hc2, hrow⟩ := openActsL (hval 1 _ v1 rfl rfl) h1
  exact walkLinkEnds x0 acts A c W hrow hc1 hc2
end Lk
theorem lawLinkEnds : Lift.Owes 6 [3, 47] := Lk.lawLinkEnds
end Go.Proofs.Ytbdlmokgmgpbfaa
