/- The pattern-defeating quicksort of few 32-bit numbers. -/
import Derived.Test.YtgpcbiballdioaaDoorSrtPis
import Derived.Test.YtgpcbiballdioaaDoorSrtMid
import Derived.Test.YtgpcbiballdioaaDoorSrtHeap
import Derived.Test.YtgpcbiballdioaaDoorSrtBrk
import Derived.Test.YtgpcbiballdioaaDoorSrtPart
import Derived.Deep.CutRange
namespace Go.Proofs.YtgpcbiballdioaaDoor
open Go.RowKit
set_option linter.unusedVariables false
set_option maxRecDepth 8000
namespace Srt
set_option maxRecDepth 100000 in
set_option maxHeartbeats 8000000 in
theorem uPdq (b off n cap : Nat) (hn : n ≤ 100) (N : Nat) : ∀ (a c L : Nat) (d : Fn) (w : World), At b off n d w → a ≤ c → c ≤ n → c - a ≤ N → L ≤ 100 → (∀ k, 0 < a → a ≤ k → k < c → d (a - 1) ≤ d k) →
    Calls Tryd.prog 33 #[.slice (some ⟨b, off, none⟩) n cap, .int .i64 a, .int .i64 c, .int .i64 L] w (GivesS b off n a c d w) := by
  induction N using Nat.strongRecOn with
  | ind N ih =>
  intro a c L d w h hac hc hN hL hpv
  have IH := Lib.hid ih
  have R0 := Lib.hid (Rw.start h)
  have M0 := Lib.hid (Mid.start hac hpv)
  have hn1 : n ≤ 1000 := by omega
  clear ih h hpv
  go_enter Tryd.func33, Tryd.ntmps33
  go_wp2_with fail
  go_loopw [1, 2, 3, 8, 9] (fun s1 s2 s3 s8 s9 wr => ∃ (a' c' L' : Nat) (t8 t9 : Bool) (e : Fn), s1 = .int .i64 a' ∧ s2 = .int .i64 c' ∧ s3 = .int .i64 L' ∧ L' ≤ 100 ∧ s8 = .bool t8 ∧ s9 = .bool t9 ∧ Sw a c d e ∧ Mid a c a' c' e ∧ Rw b off n w e wr) (fun s1 s2 _ _ _ _ => (intOf s2 - intOf s1).toNat)
  case atStart => exact ⟨a, c, L, true, true, d, rfl, rfl, rfl, hL, rfl, rfl, .refl _, M0.out, R0.out⟩
  case round =>
    obtain ⟨a', c', L', t8, t9, e, rfl, rfl, rfl, hL', rfl, rfl, hsw, hmd, hrw⟩ := hrel
    have HSW := Lib.hid hsw; have HMD := Lib.hid hmd; have HRW := Lib.hid hrw
    have l1 := hmd.lo; have l2 := hmd.mid; have l3 := hmd.hi
    clear hsw hmd hrw
    by_cases hlen : (c' : Int) - (a' : Int) ≤ 12
    · have HI := Lib.hid (uIns b off n cap a' c' e wr HRW.out.at_ l2 (by omega) hn1)
      go_wp2_with fail
      refine HI.out.mono ?_
      rintro e2 w2 ⟨rfl, f, hs1, hs2, hr⟩
      have H1 := Lib.hid hs1; have H2 := Lib.hid hs2; have H3 := Lib.hid hr
      clear hs1 hs2 hr
      go_wp2_with fail
      go_end0
      exact ⟨rfl, f, HSW.out.trans (H1.out.mono (by omega) (by omega)), (HMD.out.sw H1.out).done H2.out, HRW.out.next H3.out⟩
    · have hlen2 : a' + 13 ≤ c' := by omega
      by_cases hL0 : L' = 0
      · subst hL0
        have z0 := eq_b (rfl : (0 : Int) = 0)
        have HI := Lib.hid (uHeap b off n cap a' c' e wr HRW.out.at_ (by omega) (by omega) hn1)
        go_wp2_with fail
        refine HI.out.mono ?_
        rintro e2 w2 ⟨rfl, f, hs1, hs2, hr⟩
        have H1 := Lib.hid hs1; have H2 := Lib.hid hs2; have H3 := Lib.hid hr
        clear hs1 hs2 hr
        go_wp2_with fail
        go_end0
        exact ⟨rfl, f, HSW.out.trans (H1.out.mono (by omega) (by omega)), (HMD.out.sw H1.out).done H2.out, HRW.out.next H3.out⟩
      · have z0 := ne_b (show (L' : Int) ≠ 0 by omega)
        go_upto_if 35 with fail
        go_cut [3] from 19 to 133 (fun s3 wc => ∃ (L3 : Nat) (f : Fn), s3 = .int .i64 L3 ∧ L3 ≤ 100 ∧ Sw a c d f ∧ Mid a c a' c' f ∧ Rw b off n w f wc)
        case first =>
          cases t8
          · have HI := Lib.hid (uBrk b off n cap a' c' e wr HRW.out.at_ (by omega) (by omega) hn1 (by omega))
            go_wp2_with fail
            refine HI.out.mono ?_
            rintro e2 w2 ⟨rfl, f, hs1, hr⟩
            have H1 := Lib.hid hs1; have H3 := Lib.hid hr
            clear hs1 hr
            go_wp2_with fail
            go_meet
            case rel => exact ⟨L' - 1, f, by go_num, by omega, HSW.out.trans (H1.out.mono (by omega) (by omega)), HMD.out.sw H1.out, HRW.out.next H3.out⟩
          · go_wp2_with fail
            go_meet
            case rel => exact ⟨L', e, rfl, hL', HSW.out, HMD.out, HRW.out⟩
        case rest =>
          obtain ⟨L3, f, rfl, hL3, hsw, hmd, hrw⟩ := hcut
          have HSW1 := Lib.hid hsw; have HMD1 := Lib.hid hmd; have HRW1 := Lib.hid hrw
          clear hsw hmd hrw HSW HMD HRW z0 hL0 hL'
          have HI := Lib.hid (uPiv b off n cap a' c' f wc HRW1.out.at_ (by omega) (by omega) hn1)
          go_wp2_with fail
          refine HI.out.mono ?_
          rintro e2 w2 ⟨p, t, rfl, hp1, hp2, hb2⟩
          have HRW2 := Lib.hid (HRW1.out.below hb2)
          clear hb2 HRW1 HI
          go_upto_if 50 with fail
          go_cut [11, 12] from 19 to 133 (fun s11 s12 wd => ∃ (p2 : Nat) (t2 : Int) (g : Fn), s11 = .int .i64 p2 ∧ s12 = .int .i64 t2 ∧ a' ≤ p2 ∧ p2 < c' ∧ Sw a c d g ∧ Mid a c a' c' g ∧ Rw b off n w g wd)
          case first =>
            by_cases ht : t = 2
            · subst ht
              have z1 := eq_b (rfl : (2 : Int) = 2)
              have HI := Lib.hid (uRev b off n cap a' c' f w2 HRW2.out.at_ (by omega) (by omega) hn1)
              go_wp2_with fail
              refine HI.out.mono ?_
              rintro e2 w3 ⟨rfl, g, hs1, hr⟩
              have H1 := Lib.hid hs1; have H3 := Lib.hid hr
              clear hs1 hr
              go_wp2_with fail
              go_meet
              case rel => exact ⟨c' - 1 - (p - a'), 1, g, by go_num, rfl, by omega, by omega, HSW1.out.trans (H1.out.mono (by omega) (by omega)), HMD1.out.sw H1.out, HRW2.out.next H3.out⟩
            · have z1 := ne_b ht
              go_wp2_with fail
              go_meet
              case rel => exact ⟨p, t, f, rfl, rfl, hp1, hp2, HSW1.out, HMD1.out, HRW2.out⟩
          case rest =>
            obtain ⟨p2, t2, g, rfl, rfl, hq1, hq2, hsw, hmd, hrw⟩ := hcut
            have HSW2 := Lib.hid hsw; have HMD2 := Lib.hid hmd; have HRW3 := Lib.hid hrw
            clear hsw hmd hrw HSW1 HMD1 HRW2 hp1 hp2
            go_upto_region 15 with fail
            go_cut [68] from 19 to 133 (fun s68 we => (∃ tt : Bool, s68 = .bool tt) ∧ Rw b off n w g we)
            case first =>
              by_cases ht : t2 = 1
              · subst ht
                have z1 := eq_b (rfl : (1 : Int) = 1)
                cases t8
                all_goals cases t9
                all_goals (
                  go_wp2_with fail
                  go_meet
                  case rel => exact ⟨⟨_, rfl⟩, HRW3.out⟩)
              · have z1 := ne_b ht
                cases t8
                all_goals cases t9
                all_goals (
                  go_wp2_with fail
                  go_meet
                  case rel => exact ⟨⟨_, rfl⟩, HRW3.out⟩)
            case rest =>
            obtain ⟨⟨t3, rfl⟩, hrw⟩ := hcut
            have HRW3 := Lib.hid hrw
            clear hrw
            go_upto_if 68 with fail
            go_cut [] from 19 to 133 (fun we => ∃ (g : Fn), Sw a c d g ∧ Mid a c a' c' g ∧ Rw b off n w g we)
            case first =>
              cases t3
              · go_wp2_with fail
                go_meet
                case rel => exact ⟨g, HSW2.out, HMD2.out, HRW3.out⟩
              · have HI := Lib.hid (uPis b off n cap a' c' g wc HRW3.out.at_ (by omega) (by omega) hn1 HMD2.out.pv)
                go_wp2_with fail
                refine HI.out.mono ?_
                rintro e2 w3 ⟨t, f3, rfl, hs1, hso, hr⟩
                have H1 := Lib.hid hs1; have H2 := Lib.hid hso; have H3 := Lib.hid hr
                clear hs1 hso hr HI
                cases t
                · go_wp2_with fail
                  go_meet
                  case rel => exact ⟨f3, HSW2.out.trans (H1.out.mono (by omega) (by omega)), HMD2.out.sw H1.out, HRW3.out.next H3.out⟩
                · go_wp2_with fail
                  go_end0
                  exact ⟨rfl, f3, HSW2.out.trans (H1.out.mono (by omega) (by omega)), (HMD2.out.sw H1.out).done (H2.out (by trivial)), HRW3.out.next H3.out⟩
            case rest =>
              obtain ⟨g, hsw, hmd, hrw⟩ := hcut
              have HSW3 := Lib.hid hsw; have HMD3 := Lib.hid hmd; have HRW4 := Lib.hid hrw
              clear hsw hmd hrw HSW2 HMD2 HRW3
              go_upto_region 17 with fail
              go_cut [87] from 19 to 133 (fun s87 wf => ∃ tt : Bool, s87 = .bool tt ∧ (tt = true → 0 < a' ∧ ¬ g (a' - 1) < g p2) ∧ Rw b off n w g wf)
              case first =>
                rcases a' with _ | k
                · have b1 : ¬ (0 : Int) < ((0 : Nat) : Int) := by omega
                  go_wp2_with fail
                  go_quiet (first | (go_at_call 45; refine Calls.quiet_of_same (uLess _ _ _)))
                  go_wp2_with fail
                  go_meet
                  case rel => exact ⟨false, rfl, (by intro h; cases h), HRW4.out.drewN _⟩
                · obtain ⟨x, hx⟩ : ∃ x, g k = x := ⟨_, rfl⟩
                  obtain ⟨y, hy⟩ : ∃ y, g p2 = y := ⟨_, rfl⟩
                  have c1 := HRW4.out.at_.cell k (by omega)
                  have c2 := HRW4.out.at_.cell p2 (by omega)
                  rw [hx] at c1; rw [hy] at c2
                  have b1 : (0 : Int) < (k : Int) + 1 := by omega
                  have b2 : (0 : Int) ≤ (k : Int) := by omega
                  have b3 : (k : Int) < (n : Int) := by omega
                  have b4 : (p2 : Int) < (n : Int) := by omega
                  have HX := Lib.hid hx; have HY := Lib.hid hy
                  clear hx hy
                  by_cases hxy : x < y
                  · have HL := Lib.hid (fun w => uLessT hxy w)
                    go_wp2_with fail
                    go_quiet (first | (go_at_call 45; refine Calls.quiet_of_same (HL.out _)))
                    go_wp2_with fail
                    go_meet
                    case rel => exact ⟨false, rfl, (by intro h; cases h), HRW4.out.drewN _⟩
                  · have HL := Lib.hid (fun w => uLessF hxy w)
                    go_wp2_with fail
                    go_quiet (first | (go_at_call 45; refine Calls.quiet_of_same (HL.out _)))
                    go_wp2_with fail
                    go_meet
                    case rel => exact ⟨true, rfl, fun _ => ⟨by omega, by rw [Nat.add_sub_cancel, HX.out, HY.out]; exact hxy⟩, HRW4.out.drewN _⟩
              case rest =>
                obtain ⟨tt, rfl, htt, hrw⟩ := hcut
                have HTT := Lib.hid htt; have HRW5 := Lib.hid hrw
                clear htt hrw HRW4
                cases tt
                · have HI := Lib.hid (uPart b off n cap a' c' p2 g wc HRW5.out.at_ hq1 hq2 (by omega) hn1)
                  go_wp2_with fail
                  refine HI.out.mono ?_
                  rintro e2 w3 ⟨m, f3, t4, rfl, hm1, hm2, hs1, hle, hgt, hr⟩
                  have HSW4 := Lib.hid (HSW3.out.trans (hs1.mono l1 l3))
                  have HMD4 := Lib.hid (HMD3.out.sw hs1)
                  have HRW6 := Lib.hid (HRW5.out.next hr)
                  have HP := Lib.hid (show Part a' c' m f3 from ⟨hle, hgt⟩)
                  clear hs1 hr HI hle hgt HRW5 HTT HSW3 HMD3
                  by_cases hlr : (m : Int) - (a' : Int) < (c' : Int) - (m : Int)
                  · have HI := Lib.hid (IH.out (m - a') (by omega) a' m L3 f3 w3 HRW6.out.at_ hm1 (by omega) (Nat.le_refl _) hL3 (fun k k1 k2 k3 => HMD4.out.pv k k1 k2 (by omega)))
                    go_wp2_with fail
                    refine HI.out.mono ?_
                    rintro e2 w4 ⟨rfl, f4, hs1, hso, hr⟩
                    have HM := Lib.hid ((HMD4.out.sw (hs1.mono (Nat.le_refl _) (by omega))).cutL (HP.out.swL hs1) hm1 hm2 hso)
                    have H1 := Lib.hid (HSW4.out.trans (hs1.mono l1 (by omega)))
                    have H3 := Lib.hid (HRW6.out.next hr)
                    clear hs1 hso hr HI
                    go_wp2_with fail
                    go_roundw
                    case rel => exact ⟨m + 1, c', L3, _, t4, f4, by go_num, rfl, rfl, hL3, rfl, rfl, H1.out, HM.out, H3.out⟩
                    case measure => simp [intOf]; omega
                  · have HI := Lib.hid (IH.out (c' - (m + 1)) (by omega) (m + 1) c' L3 f3 w3 HRW6.out.at_ hm2 (by omega) (Nat.le_refl _) hL3 (fun k k1 k2 k3 => by rw [Nat.add_sub_cancel]; exact HP.out.2 k (by omega) k3))
                    go_wp2_with fail
                    refine HI.out.mono ?_
                    rintro e2 w4 ⟨rfl, f4, hs1, hso, hr⟩
                    have HM := Lib.hid ((HMD4.out.sw (hs1.mono (by omega) (Nat.le_refl _))).cutR (HP.out.swR hs1) hm1 hm2 hso)
                    have H1 := Lib.hid (HSW4.out.trans (hs1.mono (by omega) l3))
                    have H3 := Lib.hid (HRW6.out.next hr)
                    clear hs1 hso hr HI
                    go_wp2_with fail
                    go_roundw
                    case rel => exact ⟨a', m, L3, _, t4, f4, rfl, rfl, rfl, hL3, rfl, rfl, H1.out, HM.out, H3.out⟩
                    case measure => simp [intOf]; omega
                · have HI := Lib.hid (uPeq b off n cap a' c' p2 g wc HRW5.out.at_ hq1 hq2 (by omega) hn1)
                  go_wp2_with fail
                  refine HI.out.mono ?_
                  rintro e2 w3 ⟨m, f3, rfl, hm1, hm2, hs1, hle, hgt, hr⟩
                  have H1 := Lib.hid hs1; have H3 := Lib.hid hr
                  have HM := Lib.hid (HMD3.out.eq (HTT.out (by trivial)).1 (show ¬ g (a' - 1) < g p2 from by have h9 := (HTT.out (by trivial)).2; omega) hs1 hm1 hm2 hle hgt)
                  clear hs1 hr HI hle hgt
                  go_wp2_with fail
                  go_roundw
                  case rel => exact ⟨m, c', L3, t8, t9, f3, rfl, rfl, rfl, hL3, rfl, rfl, HSW3.out.trans (H1.out.mono (by omega) (by omega)), HM.out, HRW5.out.next H3.out⟩
                  case measure => simp [intOf]; omega
end Srt
end Go.Proofs.YtgpcbiballdioaaDoor
