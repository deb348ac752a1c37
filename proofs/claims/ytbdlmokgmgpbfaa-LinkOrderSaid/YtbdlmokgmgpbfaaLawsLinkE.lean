/- The walk of the law LinkOrder. -/
import Derived.Test.YtbdlmokgmgpbfaaLinkDo
import Derived.Test.YtbdlmokgmgpbfaaWide
import Derived.Lib.MinMax
namespace Go.Proofs.Ytbdlmokgmgpbfaa
open Go.ChangeShapes Go.WideShapes Go.ChangeAt Go.RowKit
set_option linter.unusedVariables false
set_option maxRecDepth 8000
namespace Lk
open Gen (TellsB TellsI row_one)
set_option maxRecDepth 100000 in
set_option maxHeartbeats 4000000 in
theorem walkLinkOrder (ep : Int) (acts : List Ac) (A : Option Addr) (c : Nat) (w : World) (h : Row w A (acts.flatMap acL)) (hl : acts.length ≤ c) (hc : c ≤ maxLen) :
    Calls Try.prog 5 #[.int .i64 ep, .slice A acts.length c] w (TellsB true w) := by
  obtain ⟨E, hE⟩ : ∃ E, min (max ep 0) 536870912 = E := ⟨_, rfl⟩
  have hE2 : 0 ≤ E ∧ E ≤ 536870912 := by omega
  obtain ⟨M, hM⟩ : ∃ M, M = acts.length := ⟨_, rfl⟩
  rw [← hM] at hl ⊢
  have HO := Lib.hid (fun w => ckOpenYes E (isNo_yes hE2.1 (by omega)) w)
  have HA := Lib.hid (fun w => lawAliveL w)
  have HZ := Lib.hid h
  have HMM := Lib.hid hM
  have HI0 := Lib.hid (inv_start hE2)
  clear hE2 h hM hl hc
  go_enter Try.func5, Try.ntmps5
  go_wp2_with fail
  refine (HO.out _).mono ?_
  rintro e w1 ⟨rfl, hb1⟩
  have L5 := Lib.hid ((Lies.new w1 #[.int .i64 E, .int .i64 0, .slice none 0 0, .int .i64 0] 24).al (o := .cells #[.int .i64 E, .int .i64 0] 41))
  have L6 := Lib.hid (Gen.lies_new1 w1 (.cells #[.int .i64 E, .int .i64 0, .slice none 0 0, .int .i64 0] 24) #[.int .i64 E, .int .i64 0] 41)
  have HB1 := Lib.hid (below_al (o := .cells #[.int .i64 E, .int .i64 0] 41) (below_al (o := .cells #[.int .i64 E, .int .i64 0, .slice none 0 0, .int .i64 0] 24) hb1))
  go_upto_region 2 with fail
  obtain ⟨b5, hb5⟩ : ∃ b, b = w1.heap.size := ⟨_, rfl⟩
  obtain ⟨W1, hW⟩ : ∃ W, W = (w1.alloc (.cells #[.int .i64 E, .int .i64 0, .slice none 0 0, .int .i64 0] 24)).alloc (.cells #[.int .i64 E, .int .i64 0] 41) := ⟨_, rfl⟩
  rw [← hW] at L5 L6 HB1 ⊢
  rw [← hb5] at L5 L6 ⊢
  clear hW hb5 hb1
  go_wp2_with fail
  refine (HA.out _).mono ?_
  rintro e w2 ⟨rfl, hb2⟩
  have L52 := Lib.hid (L5.out.below hb2)
  have L62 := Lib.hid (L6.out.below hb2)
  have HB2 := Lib.hid (below_next HB1.out hb2)
  clear hb2 L5 L6 HB1
  have x0 := L52.out.cell (j := 0) rfl; have x1 := L52.out.cell (j := 1) rfl; have x2 := L52.out.cell (j := 2) rfl; have x3 := L52.out.cell (j := 3) rfl
  have y0 := L62.out.cell (j := 0) rfl; have y1 := L62.out.cell (j := 1) rfl
  go_upto_region 5 with fail
  have HP0 := Lib.hid (plays0 (w0 := w) E HB2.out)
  obtain ⟨b, hb⟩ : ∃ b, b = w2.heap.size := ⟨_, rfl⟩
  obtain ⟨W2, hW⟩ : ∃ W, W = w2.alloc (.cells (plC0 E) 51) := ⟨_, rfl⟩
  rw [← hW] at HP0 ⊢
  rw [← hb] at HP0 ⊢
  clear hW hb x0 x1 x2 x3 y0 y1 L52 L62 HB2
  go_wp2_with fail
  go_loopw [33] (fun i wr => ∃ (k : Nat) (p : Wy), i = .int .i64 (k : Int) ∧ k ≤ M ∧ k ≤ 300 ∧ Inv E k p ∧ Plays w b p wr) (fun i _ => M - (intOf i).toNat)
  case atStart => exact ⟨0, p0 E, rfl, Nat.zero_le _, Nat.zero_le _, HI0.out, HP0.out⟩
  case round =>
    clear HP0 HI0
    obtain ⟨k, p, rfl, hkM, hk, hI, hP⟩ := hrel
    have HI := Lib.hid hI
    have HP := Lib.hid hP
    clear hI hP
    by_cases hlt : k < M
    · obtain ⟨a, ha⟩ : ∃ a, acts[k]? = some a := ⟨_, List.getElem?_eq_getElem (by rw [← HMM.out]; exact hlt)⟩
      have hbel : Below w.heap.size w wr := by obtain ⟨_, _, _, _, _, hp⟩ := HP.out; exact hp.below
      obtain ⟨q, off, rfl, g⟩ := row_one acL_len (by omega) (HZ.out.below hbel) ha
      have d0 := g 0 _ rfl; have d1 := g 1 _ rfl; have d2 := g 2 _ rfl
      simp only [Nat.add_zero] at d0
      have hw := num_k (k := k) (by omega)
      have hki : (k : Int) < (M : Int) := by omega
      clear ha g hbel
      by_cases h300 : k < 300
      · have h3i : ¬ (300 : Int) ≤ (k : Int) := by omega
        obtain ⟨what, which, body⟩ := a
        have HD := Lib.hid (fun w' h' => lawDoA w b E k p HI.out (by omega) ⟨what, which, body⟩ w' h')
        have HI2 := Lib.hid (do_inv HI.out (by omega) ⟨what, which, body⟩)
        obtain ⟨P, hP⟩ : ∃ P, P = doO p ⟨what, which, body⟩ := ⟨_, rfl⟩
        rw [← hP] at HD HI2
        have HPA : Hid (Plays w b p (wr.alloc (.cells #[.int .i64 what, .int .i64 which, .string body] 53))) := Lib.hid (by
          obtain ⟨_, _, _, _, _, hp⟩ := HP.out
          exact ⟨_, _, _, _, _, hp.next (below_al (Below.refl _ _))⟩)
        clear hP HP
        go_wp2_with fail
        refine (HD.out _ HPA.out).mono ?_
        rintro e w3 ⟨rfl, vb, vw, vp, vg, vs, hp3⟩
        clear d0 d1 d2 HPA HD
        obtain ⟨m, hm⟩ : ∃ m, m = P.s.bodies.length := ⟨_, rfl⟩
        obtain ⟨pn, hpn⟩ : ∃ m, m = P.put.length := ⟨_, rfl⟩
        obtain ⟨gn, hgn⟩ : ∃ m, m = P.got.length := ⟨_, rfl⟩
        have o1 := hp3.bod; have o2 := hp3.put; have o3 := hp3.got
        rw [← hm] at o1
        rw [← hpn] at o2
        rw [← hgn] at o3
        obtain ⟨BA, bc, rfl, _⟩ := own_form o1 (by omega)
        obtain ⟨PA, pc, rfl, _⟩ := own_form o2 (by omega)
        obtain ⟨GA, gc, rfl, _⟩ := own_form o3 (by omega)
        have P3 := Lib.hid hp3
        have i1 := HI2.out.right; have i2 := HI2.out.gl; have i3 := HI2.out.want; have i4 := HI2.out.sum; have i5 := HI2.out.bw; have i6 := HI2.out.few; have i7 := HI2.out.base0
        rw [← hpn, ← hgn] at i2
        rw [← hgn] at i3
        rw [← hm, ← hpn] at i4
        rw [← hpn] at i6
        have g1 : ¬ (pn : Int) < (gn : Int) := by omega
        have g2 : (P.r.want != (gn : Int)) = false := nb0 i3
        have g3 : IntKind.i64.wrap (P.s.base + (m : Int)) = P.s.base + (m : Int) := wrap64L (by omega) (by omega)
        have g4 : (P.s.base + (m : Int) != (pn : Int)) = false := nb0 i4
        have g5 : ¬ P.r.want < P.s.base := by omega
        have g1b : decide ((pn : Int) < (gn : Int)) = false := decide_eq_false g1
        have g1c : decide (pn < gn) = false := decide_eq_false (by omega)
        have g5b : decide (P.r.want < P.s.base) = false := decide_eq_false g5
        have HCR := Lib.hid (fun w' (h' : PlAt w b P (.slice BA m bc) vw (.slice PA pn pc) (.slice GA gn gc) vs w') => ckRight P.s.epoch P.s.base P.s.bodies m P.s.timer BA bc true hm i1.symm w' (row_of_ownL (by have h := h'.bod; rw [← hm] at h; exact h) (by omega)) (by omega))
        have HOK := Lib.hid HI2.out.ok
        have HGN := Lib.hid hgn
        have HPN := Lib.hid hpn
        have HFEW := Lib.hid (And.intro i2 i6)
        clear i1 i2 i3 i4 i5 i6 i7 hm hpn hgn o1 o2 o3 hp3
        go_upto_region 10 with fail
        refine wide_all (PlAt w b P (.slice BA m bc) vw (.slice PA pn pc) (.slice GA gn gc) vs) (by kernel_rfl) (by kernel_rfl) (P3.out.next (below_drewOf (Below.refl _ _))) ?_
        simp only [List.append_eq, List.cons_append, List.nil_append]
        repeat (first
        | go_big_quiet_skip
        | (go_big_quiet_want
           apply wide_op
           · (intro w5 h5; have x0 := h5.at_.cell (j := 0) rfl; have x1 := h5.at_.cell (j := 1) rfl; have x2 := h5.at_.cell (j := 2) rfl; have x3 := h5.at_.cell (j := 3) rfl
              have x5 := h5.at_.cell (j := 5) rfl; have x7 := h5.at_.cell (j := 7) rfl; have x8 := h5.at_.cell (j := 8) rfl
              have x9 : w5.cell? ⟨b, 9, none⟩ = some (.bool true) := by have h9 := h5.at_.cell (j := 9) rfl; rw [← HOK.out]; exact h9
              go_simp; first | done | with_reducible rfl | (refine (HCR.out _ h5).mono ?_; rintro e w6 ⟨rfl, hb6⟩; exact ⟨rfl, h5.next hb6⟩))
           (try simp only [Act.put, List.setIfInBounds_toArray, List.set_cons_zero, List.set_cons_succ])
           go_big_quiet_on))
        refine wpQuiet_nil ?_
        intro w4 h4
        have P4 := Lib.hid h4
        clear h4 P3
        have x1 := P4.out.at_.cell (j := 1) rfl; have x2 := P4.out.at_.cell (j := 2) rfl
        have x5 := P4.out.at_.cell (j := 5) rfl; have x7 := P4.out.at_.cell (j := 7) rfl; have x8 := P4.out.at_.cell (j := 8) rfl
        have GR := Lib.hid (row_of_ownL (by have h := P4.out.got; rw [← HGN.out] at h; exact h) (by omega))
        have PR := Lib.hid (row_of_ownL (by have h := P4.out.put; rw [← HPN.out] at h; exact h) (by omega))
        go_wp2_with fail
        go_loop [120] (fun i => ∃ j : Nat, i = .int .i64 (j : Int) ∧ j ≤ gn) (fun i => gn - (intOf i).toNat)
        case atStart => exact ⟨0, rfl, Nat.zero_le _⟩
        case round =>
          obtain ⟨j, rfl, hj⟩ := hrel
          by_cases hjl : j < gn
          · obtain ⟨s, hs⟩ : ∃ s, P.got[j]? = some s := ⟨_, List.getElem?_eq_getElem (by rw [← HGN.out]; exact hjl)⟩
            have hs2 : P.put[j]? = some s := by
              have h2 := HI2.out.got
              rw [h2, ← HGN.out, List.getElem?_take, if_pos hjl] at hs
              exact hs
            obtain ⟨q1, f1, rfl, e1⟩ := bcs_get GR.out hs
            obtain ⟨q2, f2, rfl, e2⟩ := bcs_get PR.out hs2
            have he : (s.toList == s.toList) = true := by simp
            have hwj := num_k (k := j) (by have := HFEW.out; omega)
            have hji : (j : Int) < (gn : Int) := by omega
            have hjp : j < pn := by have := HFEW.out; omega
            have hjp2 : (j : Int) < (pn : Int) := by omega
            clear hs hs2
            go_wp2_with fail
            go_round
            case rel => exact ⟨j + 1, rfl, by omega⟩
            case measure => simp [intOf]; omega
          · have hjg : ¬ (j : Int) < (gn : Int) := by omega
            go_wp2_with fail
            go_roundw
            case rel => exact ⟨k + 1, P, rfl, by omega, by omega, HI2.out, _, _, _, _, _, P4.out⟩
            case measure => simp [intOf]; omega
      · have h3i : (300 : Int) ≤ (k : Int) := by omega
        have HBB : Hid (Below w.heap.size w (wr.alloc (.cells #[.int .i64 a.what, .int .i64 a.which, .string a.body] 53))) := Lib.hid (by
          obtain ⟨_, _, _, _, _, hp⟩ := HP.out
          exact hp.below.alloc hp.below.size _)
        go_wp2_with fail
        go_ret
        exact ⟨rfl, HBB.out⟩
    · have hki : ¬ (k : Int) < (M : Int) := by omega
      have HBB : Hid (Below w.heap.size w wr) := Lib.hid (by obtain ⟨_, _, _, _, _, hp⟩ := HP.out; exact hp.below)
      go_wp2_with fail
      go_ret
      exact ⟨rfl, HBB.out⟩
theorem lawLinkOrder : Lift.Owes 5 [3, 47] := by
  intro H enc W base args ds ps hval hA _ _
  obtain ⟨v0, v1, d0, d1, p0, p1, rfl, rfl, rfl, h0, h1⟩ := trodAll_two hA
  obtain ⟨x0, rfl, _, _, wf0⟩ := open_int Try.underlying3 (hval 0 _ v0 rfl rfl) h0
  obtain ⟨A, c, acts, rfl, hc1, hc2, hrow⟩ := openActsL (hval 1 _ v1 rfl rfl) h1
  exact walkLinkOrder x0 acts A c W hrow hc1 hc2
end Lk
theorem lawLinkOrder : Lift.Owes 5 [3, 47] := Lk.lawLinkOrder
end Go.Proofs.Ytbdlmokgmgpbfaa
