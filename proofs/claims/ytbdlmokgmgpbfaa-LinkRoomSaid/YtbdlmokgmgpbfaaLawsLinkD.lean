/- The walk of the law LinkRoom. -/
import Derived.Test.YtbdlmokgmgpbfaaLinkRow
import Derived.Test.YtbdlmokgmgpbfaaLinkFin
import Derived.Test.YtbdlmokgmgpbfaaLawsLinkC
namespace Go.Proofs.Ytbdlmokgmgpbfaa
open Go.ChangeShapes Go.WideShapes Go.ChangeAt Go.RowKit
set_option linter.unusedVariables false
set_option maxRecDepth 8000
namespace Lk
open Gen (TellsB TellsI)
theorem rs_len (ep base : Int) (m : Nat) : m = (rs ep base m).bodies.length := by unfold rs; simp
set_option maxRecDepth 100000 in
set_option maxHeartbeats 4000000 in
theorem walkLinkRoom (ep : Int) (zs : List Int) (A : Option Addr) (c : Nat) (w : World) (h : Row w A (zs.map (Value.int .i64))) (hl : zs.length ≤ c) (hc : c ≤ maxLen) :
    Calls Try.prog 7 #[.int .i64 ep, .slice A zs.length c] w (TellsB true w) := by
  obtain ⟨E, hE⟩ : ∃ E, min (max ep 0) 1073741824 = E := ⟨_, rfl⟩
  have hE2 : 0 ≤ E ∧ E ≤ 1073741824 := by omega
  obtain ⟨N, hN⟩ : ∃ N, N = zs.length := ⟨_, rfl⟩
  rw [← hN] at hl ⊢
  have hNm : N ≤ 9223372036854775807 := by unfold maxLen at hc; omega
  have HO := Lib.hid (fun w => ckOpenYes E (isNo_yes hE2.1 hE2.2) w)
  have HA := Lib.hid (fun w => lawAliveL w)
  have HZ := Lib.hid h
  have HNN := Lib.hid hN
  have HE := Lib.hid hE2
  have HP := Lib.hid (fun (base : Int) (m : Nat) (hb : 0 ≤ base ∧ base ≤ 1000000) (hm : m < 8) (A : Option Addr) (c : Nat) w' (h' : Row w' A (bcs (rs E base m).bodies)) =>
    ckPushS (rs E base m) m A c bB (rs E base (m + 1)) ⟨E, base + m, bB⟩ 0 (m + 1) (by rw [rs_push hE2 hb (by omega), if_neg (by omega)]) w' (rs_len E base m) (rs_len E base (m + 1)) (by omega) h')
  have HF := Lib.hid (fun (base : Int) (m : Nat) (hm : m = 8) (hb : 0 ≤ base ∧ base ≤ 1000000) (A : Option Addr) (c : Nat) w' (h' : Row w' A (bcs (rs E base m).bodies)) =>
    ckPushS (rs E base m) m A c bB zS zP 3 0 (by rw [rs_push hE2 hb (by omega), if_pos hm]) w' (rs_len E base m) rfl (by omega) h')
  have HK := Lib.hid (fun (base : Int) (m : Nat) (hm : m = 8) (k : Nat) (hb : 0 ≤ base ∧ base ≤ 1000000) (hk : k ≤ 8) (A : Option Addr) (c : Nat) w' (h' : Row w' A (bcs (rs E base m).bodies)) =>
    ckAckS (rs E base m) m A c E (base + k) (rs E (base + k) (8 - k)) 0 (8 - k) (by rw [hm]; exact (rs_ack hE2 hb hk).symm) w' (rs_len E base m) (rs_len E (base + k) (8 - k)) (by omega) h')
  clear hE2 h hN hl hc
  go_enter Try.func7, Try.ntmps7
  go_wp2_with fail
  refine (HO.out _).mono ?_
  rintro e w1 ⟨rfl, hb1⟩
  have S1 : Hid (SnAt w1.heap.size (rs E 0 0) 0 none 0 ((w1.alloc (.cells #[.int .i64 E, .int .i64 0, .slice none 0 0, .int .i64 0] 24)).alloc (.cells #[.int .i64 E, .int .i64 0] 41))) := Lib.hid ⟨(Lies.new w1 _ _).al, Row.nil, rfl⟩
  have HB1 := Lib.hid (below_al (o := .cells #[.int .i64 E, .int .i64 0] 41) (below_al (o := .cells #[.int .i64 E, .int .i64 0, .slice none 0 0, .int .i64 0] 24) hb1))
  have HS := Lib.hid hb1.size
  go_upto_region 2 with fail
  obtain ⟨b5, hb5⟩ : ∃ b, b = w1.heap.size := ⟨_, rfl⟩
  obtain ⟨W1, hW⟩ : ∃ W, W = (w1.alloc (.cells #[.int .i64 E, .int .i64 0, .slice none 0 0, .int .i64 0] 24)).alloc (.cells #[.int .i64 E, .int .i64 0] 41) := ⟨_, rfl⟩
  rw [← hW] at S1 HB1 ⊢
  rw [← hb5] at S1 HS ⊢
  clear hW hb5 hb1
  go_wp2_with fail
  refine (HA.out _).mono ?_
  rintro e w2 ⟨rfl, hb2⟩
  have S2 := Lib.hid (S1.out.next hb2)
  have HB2 := Lib.hid (below_next HB1.out hb2)
  clear hb2 S1 HB1
  go_wp2_with fail
  go_loopw [8, 9, 10] (fun nx bs i wr => ∃ (k base m : Nat) (A5 : Option Addr) (c5 : Nat), nx = .int .i64 ((base : Int) + m) ∧ bs = .int .i64 (base : Int) ∧ i = .int .i64 (k : Int) ∧ k ≤ 30 ∧ base ≤ 8 * k ∧ m ≤ 8 ∧ SnAt b5 (rs E base m) m A5 c5 wr ∧ Below w.heap.size w wr) (fun _ _ i _ => 30 - (intOf i).toNat)
  case atStart => exact ⟨0, 0, 0, none, 0, rfl, rfl, rfl, by omega, by omega, by omega, S2.out, HB2.out⟩
  case round =>
    clear S2 HB2
    obtain ⟨k, base, m, A5, c5, rfl, rfl, rfl, hk, hbk, hm, hS, hB⟩ := hrel
    have S3 := Lib.hid hS
    have HB3 := Lib.hid hB
    clear hS hB
    by_cases hlt : k ≤ N ∧ k < 30
    · obtain ⟨hlt1, hlt2⟩ := hlt
      have g1 : (k : Int) ≤ (N : Int) := by omega
      have g2 : (k : Int) < 30 := by omega
      have hbb : 0 ≤ (base : Int) ∧ (base : Int) ≤ 1000000 := by omega
      have HBB := Lib.hid hbb
      obtain ⟨wo, hwo⟩ : ∃ wo, wo = wr := ⟨_, rfl⟩
      subst hwo
      clear hbb hk
      go_wp2_with fail
      go_loopw [8] (fun nx wr => ∃ (m : Nat) (A5 : Option Addr) (c5 : Nat), nx = .int .i64 ((base : Int) + m) ∧ m ≤ 8 ∧ SnAt b5 (rs E base m) m A5 c5 wr ∧ Below w.heap.size w wr) (fun nx _ => 8 - (intOf nx - base).toNat)
      case atStart => exact ⟨m, A5, c5, rfl, hm, S3.out, HB3.out⟩
      case round =>
        clear S3 HB3 hm
        obtain ⟨m, A5, c5, rfl, hm, hS, hB⟩ := hrel
        have S3 := Lib.hid hS
        have HB3 := Lib.hid hB
        clear hS hB
        have x0 := S3.out.at_.cell (j := 0) rfl; have x1 := S3.out.at_.cell (j := 1) rfl; have x2 := S3.out.at_.cell (j := 2) rfl; have x3 := S3.out.at_.cell (j := 3) rfl
        by_cases h8 : m < 8
        · have HPM := Lib.hid (fun w' h' => HP.out (base : Int) m HBB.out h8 A5 c5 w' h')
          obtain ⟨X, hX⟩ : ∃ X, X = rs E base (m + 1) := ⟨_, rfl⟩
          rw [← hX] at HPM
          have HX := Lib.hid hX
          have g3 : IntKind.i64.wrap ((base : Int) + (m : Int) - (base : Int)) = (m : Int) := by rw [show (base : Int) + (m : Int) - (base : Int) = (m : Int) by omega]; exact wrap64L (by omega) (by omega)
          have g4 : ¬ (8 : Int) ≤ (m : Int) := by omega
          have g5 : IntKind.i64.wrap ((base : Int) + (m : Int) + 1) = (base : Int) + ((m + 1 : Nat) : Int) := by rw [wrap64L (by omega) (by omega)]; omega
          clear hX
          go_wp2_with fail
          refine (HPM.out _ S3.out.row).mono ?_
          rintro e w4 ⟨XA, xc, rfl, hr4, hb4⟩
          have hbb := below_al (o := .cells #[.int .i64 E, .int .i64 ((base : Int) + (m : Int)), .string bB] 26) (below_al (o := (.cells #[.int .i64 X.epoch, .int .i64 X.base, .slice XA (m + 1) xc, .int .i64 X.timer] 24)) (Below.refl w4.heap.size w4))
          have S4 := Lib.hid ((S3.out.next hb4).next hbb)
          have X4 := Lib.hid ((SnAt.new (n := m + 1) (c := xc) hr4 (by rw [HX.out]; exact rs_len E base (m + 1))).next (below_al (o := .cells #[.int .i64 E, .int .i64 ((base : Int) + (m : Int)), .string bB] 26) (Below.refl _ _)))
          have P4 := Lib.hid (Gen.lies_new1 w4 (.cells #[.int .i64 X.epoch, .int .i64 X.base, .slice XA (m + 1) xc, .int .i64 X.timer] 24) #[.int .i64 E, .int .i64 ((base : Int) + (m : Int)), .string bB] 26)
          have HB4 := Lib.hid (below_next (below_next HB3.out hb4) hbb)
          go_upto_region 9 with fail
          obtain ⟨bx, hbx⟩ : ∃ b, b = w4.heap.size := ⟨_, rfl⟩
          obtain ⟨W4, hW⟩ : ∃ W, W = (w4.alloc (.cells #[.int .i64 X.epoch, .int .i64 X.base, .slice XA (m + 1) xc, .int .i64 X.timer] 24)).alloc (.cells #[.int .i64 E, .int .i64 ((base : Int) + (m : Int)), .string bB] 26) := ⟨_, rfl⟩
          rw [← hW] at S4 X4 P4 HB4 ⊢
          rw [← hbx] at X4 P4 ⊢
          clear hW hbx hbb hb4 hr4 x0 x1 x2 x3 S3 HB3 HPM
          have y0 := X4.out.at_.cell (j := 0) rfl; have y1 := X4.out.at_.cell (j := 1) rfl; have y2 := X4.out.at_.cell (j := 2) rfl; have y3 := X4.out.at_.cell (j := 3) rfl
          have p1 := P4.out.cell (j := 1) rfl
          have x0 := S4.out.at_.cell (j := 0) rfl; have x1 := S4.out.at_.cell (j := 1) rfl; have x2 := S4.out.at_.cell (j := 2) rfl; have x3 := S4.out.at_.cell (j := 3) rfl
          have f0 := S4.out.at_.free 0; have f1 := S4.out.at_.free 1; have f2 := S4.out.at_.free 2; have f3 := S4.out.at_.free 3
          go_wp2_with fail
          go_roundw
          case rel => exact ⟨m + 1, XA, xc, rfl, by omega, by rw [← HX.out]; exact S4.out.put X4.out.row X4.out.len, Gen.below_set4 HB4.out HS.out _ _ _ _⟩
          case measure => simp [intOf]; omega
        · have hm8 : m = 8 := by omega
          have HFM := Lib.hid (fun w' h' => HF.out (base : Int) m hm8 HBB.out A5 c5 w' h')
          have HM8 := Lib.hid hm8
          have g3 : IntKind.i64.wrap ((base : Int) + (m : Int) - (base : Int)) = 8 := by rw [show (base : Int) + (m : Int) - (base : Int) = 8 by omega]; exact wrap64L (by omega) (by omega)
          clear hm8 h8 hm
          have hbbk := HBB.out
          go_wp2_with fail
          refine (HFM.out _ S3.out.row).mono ?_
          rintro e w4 ⟨XA, xc, rfl, hr4, hb4⟩
          have hbb := below_al (o := .cells #[.int .i64 zP.epoch, .int .i64 zP.no, .string zP.body] 26) (below_al (o := (.cells #[.int .i64 zS.epoch, .int .i64 zS.base, .slice XA 0 xc, .int .i64 zS.timer] 24)) (Below.refl w4.heap.size w4))
          have S4 := Lib.hid ((S3.out.next hb4).next hbb)
          have HB4 := Lib.hid (below_next (below_next HB3.out hb4) hbb)
          clear x0 x1 x2 x3 S3 HB3 HFM
          go_upto_region 14 with fail
          obtain ⟨W4, hW⟩ : ∃ W, W = (w4.alloc (.cells #[.int .i64 zS.epoch, .int .i64 zS.base, .slice XA 0 xc, .int .i64 zS.timer] 24)).alloc (.cells #[.int .i64 zP.epoch, .int .i64 zP.no, .string zP.body] 26) := ⟨_, rfl⟩
          rw [← hW] at S4 HB4 ⊢
          clear hW hbb hb4 hr4
          have hw1 : IntKind.i64.wrap ((k : Int) + 1) = ((k + 1 : Nat) : Int) := num_k (by omega)
          by_cases hkn : k < N
          · have g6 : (k : Int) < (N : Int) := by omega
            obtain ⟨x, q, off, rfl, hx, d0⟩ := (HZ.out.below HB4.out).ints (j := k) (by rw [← HNN.out]; exact hkn)
            obtain ⟨q1, hq1⟩ : ∃ q1, x.tmod 9 = q1 := ⟨_, rfl⟩
            have b1 := tmod_bounds x (n := 9) (by omega)
            rw [hq1] at b1
            have hw2 : IntKind.i64.wrap (q1 + 8) = q1 + 8 := wrap64L (by omega) (by omega)
            have hw3 : IntKind.i64.wrap (q1 + 8 + 1) = q1 + 8 + 1 := wrap64L (by omega) (by omega)
            obtain ⟨kk, hkk⟩ : ∃ kk : Nat, (q1 + 8 + 1).tmod 9 = (kk : Int) := ⟨((q1 + 8 + 1).tmod 9).toNat, (Int.toNat_of_nonneg (Int.tmod_nonneg _ (by omega))).symm⟩
            have hk8 : kk ≤ 8 := by have := Int.tmod_lt_of_pos (q1 + 8 + 1) (show 0 < (9 : Int) by omega); omega
            have hw4 : IntKind.i64.wrap ((base : Int) + (kk : Int)) = (base : Int) + (kk : Int) := wrap64L (by omega) (by omega)
            have hw5 : IntKind.i64.wrap ((base : Int) + (m : Int) - ((base : Int) + (kk : Int))) = ((8 - kk : Nat) : Int) := by rw [show (base : Int) + (m : Int) - ((base : Int) + (kk : Int)) = ((8 - kk : Nat) : Int) by have := HM8.out; omega]; exact wrap64L (by omega) (by omega)
            have HKM := Lib.hid (fun w' h' => HK.out (base : Int) m HM8.out kk HBB.out hk8 A5 c5 w' h')
            obtain ⟨X, hX⟩ : ∃ X, X = rs E ((base : Int) + (kk : Int)) (8 - kk) := ⟨_, rfl⟩
            obtain ⟨t, ht⟩ : ∃ t, t = 8 - kk := ⟨_, rfl⟩
            rw [← hX, ← ht] at HKM
            rw [← ht] at hX hw5
            have HX := Lib.hid hX
            have HT := Lib.hid ht
            have HK8 := Lib.hid hk8
            clear hx b1 hX ht hk8 hbbk
            have x0 := S4.out.at_.cell (j := 0) rfl; have x1 := S4.out.at_.cell (j := 1) rfl; have x2 := S4.out.at_.cell (j := 2) rfl; have x3 := S4.out.at_.cell (j := 3) rfl
            go_wp2_with fail
            refine (HKM.out _ S4.out.row).mono ?_
            rintro e w5 ⟨YA, yc, rfl, hr5, hb5⟩
            have hbb := below_al (o := (.cells #[.int .i64 X.epoch, .int .i64 X.base, .slice YA t yc, .int .i64 X.timer] 24)) (Below.refl w5.heap.size w5)
            have S5 := Lib.hid ((S4.out.next hb5).next hbb)
            have X5 := Lib.hid (SnAt.new (n := t) (c := yc) hr5 (by rw [HX.out]; exact rs_len E _ t))
            have HB5 := Lib.hid (below_next (below_next HB4.out hb5) hbb)
            clear x0 x1 x2 x3 S4 HB4 HKM
            go_upto_region 19 with fail
            obtain ⟨by_, hby⟩ : ∃ b, b = w5.heap.size := ⟨_, rfl⟩
            obtain ⟨W5, hW⟩ : ∃ W, W = w5.alloc (.cells #[.int .i64 X.epoch, .int .i64 X.base, .slice YA t yc, .int .i64 X.timer] 24) := ⟨_, rfl⟩
            rw [← hW] at S5 X5 HB5 ⊢
            rw [← hby] at X5 ⊢
            clear hW hby hbb hb5 hr5 d0
            have y0 := X5.out.at_.cell (j := 0) rfl; have y1 := X5.out.at_.cell (j := 1) rfl; have y2 := X5.out.at_.cell (j := 2) rfl; have y3 := X5.out.at_.cell (j := 3) rfl
            have x0 := S5.out.at_.cell (j := 0) rfl; have x1 := S5.out.at_.cell (j := 1) rfl; have x2 := S5.out.at_.cell (j := 2) rfl; have x3 := S5.out.at_.cell (j := 3) rfl
            have f0 := S5.out.at_.free 0; have f1 := S5.out.at_.free 1; have f2 := S5.out.at_.free 2; have f3 := S5.out.at_.free 3
            go_wp2_with fail
            go_roundw
            case rel => exact ⟨k + 1, base + kk, t, YA, yc, by have := HT.out; have := HK8.out; have := HM8.out; congr 1; omega, by congr 1, rfl, by omega, by have := HK8.out; omega, by have := HT.out; omega, by have := S5.out.put X5.out.row X5.out.len (c' := yc); rw [HX.out] at this ⊢; exact this, Gen.below_set4 HB5.out HS.out _ _ _ _⟩
            case measure => simp [intOf]; omega
          · have g6 : ¬ (k : Int) < (N : Int) := by omega
            clear hbbk
            go_wp2_with fail
            go_roundw
            case rel => exact ⟨k + 1, base, m, A5, c5, rfl, rfl, rfl, by omega, by omega, by have := HM8.out; omega, S4.out, HB4.out⟩
            case measure => simp [intOf]; omega
    · have hway : ¬ (k : Int) ≤ (N : Int) ∨ ((k : Int) ≤ (N : Int) ∧ ¬ (k : Int) < 30) := by omega
      rcases hway with g1 | ⟨g1, g2⟩
      · go_wp2_with fail
        go_ret
        exact ⟨rfl, HB3.out⟩
      · go_wp2_with fail
        go_ret
        exact ⟨rfl, HB3.out⟩
theorem lawLinkRoom : Lift.Owes 7 [3, 49] := by
  intro H enc W base args ds ps hval hA _ _
  obtain ⟨v0, v1, d0, d1, p0, p1, rfl, rfl, rfl, h0, h1⟩ := trodAll_two hA
  obtain ⟨x0, rfl, _, _, wf0⟩ := open_int Try.underlying3 (hval 0 _ v0 rfl rfl) h0
  obtain ⟨A, c, zs, rfl, hc1, hc2, hrow, _⟩ := openInts Try.underlying49 Try.underlying3 lkcells_int (hval 1 _ v1 rfl rfl) h1
  exact walkLinkRoom x0 zs A c W hrow hc1 hc2
end Lk
theorem lawLinkRoom : Lift.Owes 7 [3, 49] := Lk.lawLinkRoom
end Go.Proofs.Ytbdlmokgmgpbfaa
