/- The law's do: a body is pushed. -/
import Derived.Test.YtbdlmokgmgpbfaaLinkDo0B
namespace Go.Proofs.Ytbdlmokgmgpbfaa
open Go.ChangeShapes Go.WideShapes Go.ChangeAt Go.RowKit
set_option linter.unusedVariables false
set_option maxRecDepth 8000
namespace Lk
open Gen (TellsB TellsI Mine)
set_option maxRecDepth 100000 in
set_option maxHeartbeats 4000000 in
theorem lawDo0 (w0 : World) (b : Nat) (ep : Int) (N : Nat) (p : Wy) (hI : Inv ep N p) (hN : N ≤ 1000) (what which : Int) (body : ByteArray) (hwhat : what = 0) (w : World) (h : Plays w0 b p w) :
    Calls Try.prog 23 #[.pointer (some ⟨b, 0, none⟩), .agg #[.int .i64 what, .int .i64 which, .string body]] w (DidP w0 b (pushW p (cut100 body))) := by
  have e0 : (what == 0) = true := eq_b (by omega)
  clear hwhat
  obtain ⟨vb, vw, vp, vg, vs, hP⟩ := h
  obtain ⟨n, hn⟩ : ∃ n, n = p.way.length := ⟨_, rfl⟩
  obtain ⟨ii, hii⟩ : ∃ ii : Nat, ii = if 0 < n then idx which n else 0 := ⟨_, rfl⟩
  have hwl : n ≤ 2000 := by rw [hn]; have := hI.wl; omega
  have hway := hP.way
  rw [← hn] at hway
  obtain ⟨WA, wc_, rfl, _⟩ := own_form hway (by omega)
  have HII := Lib.hid hii
  have HNN := Lib.hid hn
  have HI := Lib.hid hI
  have HN := Lib.hid hN
  have HWL := Lib.hid hwl
  have P0 := Lib.hid (hP.next (below_al (o := .cells #[.int .i64 what, .int .i64 which, .string body] 53) (Below.refl _ _)))
  have LA := Lib.hid (Lies.new w #[.int .i64 what, .int .i64 which, .string body] 53)
  have hbk := lies_lt hP.at_
  clear hP hway hn hii hwl hI hN
  go_enter Try.func23, Try.ntmps23
  go_upto_region 1 with fail
  obtain ⟨ka, hka⟩ : ∃ k, k = w.heap.size := ⟨_, rfl⟩
  obtain ⟨W, hW⟩ : ∃ W, W = w.alloc (.cells #[.int .i64 what, .int .i64 which, .string body] 53) := ⟨_, rfl⟩
  rw [← hW] at P0 LA ⊢
  rw [← hka] at LA hbk ⊢
  clear hW hka
  have x6 := P0.out.at_.cell (j := 6) rfl
  have a0 := LA.out.cell (j := 0) rfl
  have a1 := LA.out.cell (j := 1) rfl
  obtain ⟨pz, hpz1⟩ : ∃ z, decide (0 < n) = z := ⟨_, rfl⟩
  have hpz2 : decide ((0 : Int) < (n : Int)) = pz := by rw [← hpz1]; exact decide_eq_decide.2 (by omega)
  go_upto_if 23 with fail
  go_cut [4] from 40 (fun s4 wc => s4 = .int .i64 (ii : Int) ∧ wc = W)
  case first =>
    cases pz
    rotate_left
    · have hn0 : 0 < n := of_decide_eq_true hpz1
      have hn0' : (0 : Int) < (n : Int) := by omega
      have hne : ((n : Int) == 0) = false := ne_b (by omega)
      have hne2 : ¬ (n : Int) = 0 := by omega
      have hne3 : ¬ n = 0 := by omega
      obtain ⟨q, hq⟩ : ∃ q, which.tmod (n : Int) = q := ⟨_, rfl⟩
      have tb := tmod_bounds which hn0'
      have pl := place (a := which) hn0'
      rw [hq] at tb pl
      obtain ⟨y, hy⟩ : ∃ y, y = q + (n : Int) := ⟨_, rfl⟩
      have hw : IntKind.i64.wrap (q + (n : Int)) = y := by rw [hy]; have := HWL.out; exact wrap64L (by omega) (by omega)
      have hr : y.tmod (n : Int) = (ii : Int) := by
        rw [HII.out, if_pos hn0]
        unfold idx
        rw [hq, ← hy]
        rw [← hy] at pl
        exact (Int.toNat_of_nonneg pl.1).symm
      clear tb pl hy
      go_wp2_with fail
      go_meet
      case rel => exact ⟨rfl, rfl⟩
    · have hn0 : ¬ 0 < n := of_decide_eq_false hpz1
      have hn0' : ¬ (0 : Int) < (n : Int) := by omega
      have hii : ii = 0 := by rw [HII.out, if_neg hn0]
      have e5n : what = 0 := by simpa using e0
      have d1 : ¬ 1 ≤ what := by omega
      clear e5n
      go_wp2_with fail
      go_meet
      case rel => exact ⟨by rw [hii]; rfl, rfl⟩
  case rest =>
    obtain ⟨rfl, rfl⟩ := hcut
    clear x6 a1 hpz1 hpz2
    obtain ⟨cb, hcb⟩ : ∃ cb, cb = cut100 body := ⟨_, rfl⟩
    have HC100 : Hid (cb.size ≤ 100) := Lib.hid (by rw [hcb]; exact cut100_size body)
    obtain ⟨pb, hpb1⟩ : ∃ z, decide (100 < body.size) = z := ⟨_, rfl⟩
    have hpb2 : decide ((100 : Int) < (body.size : Int)) = pb := by rw [← hpb1]; exact decide_eq_decide.2 (by omega)
    have a2 := LA.out.cell (j := 2) rfl
    have HCB := Lib.hid hcb
    clear hcb
    obtain ⟨WX, hWX⟩ : ∃ W, W = wc := ⟨_, rfl⟩
    subst hWX
    go_upto_if 94 with fail
    go_cut [] from 99 (fun wd => PlAt w0 b p vb (.slice WA n wc_) vp vg vs wd ∧ Lies ka #[.int .i64 what, .int .i64 which, .string cb] 53 wd)
    case first =>
      cases pb
      · have hcs : cb = body := by rw [HCB.out]; unfold cut100; rw [if_neg (of_decide_eq_false hpb1)]
        go_wp2_with fail
        go_meet
        case rel => exact ⟨P0.out, by rw [hcs]; exact LA.out⟩
      · have hb100 : 100 < body.size := of_decide_eq_true hpb1
        have hcs : cb = body.extract 0 100 := by rw [HCB.out]; unfold cut100; rw [if_pos hb100]
        have hsl : ∀ w, (Instr.slice 9 (.string body) none (some (.int .i64 100)) none).run Try.prog w = .ok (.string cb) w := fun w => by
          rw [hcs, run_slice_string_h (P := Try.prog) w 9 body Try.underlying9 .i64 100 (by omega) (by omega)]; rfl
        have f2 := LA.out.free 2
        have LN := Lib.hid (LA.out.set 2 (.string cb))
        have PN := Lib.hid (P0.out.beside LA.out (by omega) (by have := P0.out.ge; omega) 2 (.string cb))
        clear hcs HCB
        go_wp2_with fail
        go_meet
        case rel => exact ⟨PN.out, by have := LN.out; simpa using this⟩
    case rest =>
    obtain ⟨hP0, hLA⟩ := hcut
    clear P0 LA
    have P0 := Lib.hid hP0
    have LA := Lib.hid hLA
    clear hP0 hLA a2
    obtain ⟨W1, hW1⟩ : ∃ W, W = wc := ⟨_, rfl⟩
    subst hW1
    obtain ⟨bm, hbm⟩ : ∃ m, m = p.s.bodies.length := ⟨_, rfl⟩
    have hbod := P0.out.bod
    rw [← hbm] at hbod
    obtain ⟨BA, bc, rfl, _⟩ := own_form hbod (by omega)
    have HR := Lib.hid (row_of_ownL hbod (by omega))
    obtain ⟨⟨t, x, z⟩, ht⟩ : ∃ o, o = pushO p.s cb := ⟨_, rfl⟩
    obtain ⟨tn, htn⟩ : ∃ tn, tn = t.bodies.length := ⟨_, rfl⟩
    have HT := Lib.hid (fun w h => ckPushO p.s bm BA bc cb t x z tn ht w hbm htn (by rw [hbm]; have := ((right_iff _).1 HI.out.right).2.1; omega) h)
    have HTN := Lib.hid htn
    have hok := HI.out.ok
    have HPO := Lib.hid ht
    have HBM := Lib.hid hbm
    have x0 := P0.out.at_.cell (j := 0) rfl; have x1 := P0.out.at_.cell (j := 1) rfl; have x2 := P0.out.at_.cell (j := 2) rfl; have x3 := P0.out.at_.cell (j := 3) rfl
    have a2 := LA.out.cell (j := 2) rfl
    have S0 : W1.drew.cell? ⟨b, 0, none⟩ = some (.int .i64 p.s.epoch) ∧ W1.drew.cell? ⟨b, 1, none⟩ = some (.int .i64 p.s.base) ∧ W1.drew.cell? ⟨b, 2, none⟩ = some (.slice BA bm bc) ∧ W1.drew.cell? ⟨b, 3, none⟩ = some (.int .i64 p.s.timer) ∧ W1.drew.cell? ⟨ka, 2, none⟩ = some (.string cb) ∧ Below W1.heap.size W1 W1.drew := ⟨x0, x1, x2, x3, a2, below_drewOf (Below.refl _ _)⟩
    have HKW := Lib.hid (And.intro (lies_lt LA.out) (Nat.lt_trans hbk (lies_lt LA.out)))
    have HTS := Lib.hid (fun w' (hS : w'.cell? ⟨b, 0, none⟩ = some (.int .i64 p.s.epoch) ∧ w'.cell? ⟨b, 1, none⟩ = some (.int .i64 p.s.base) ∧ w'.cell? ⟨b, 2, none⟩ = some (.slice BA bm bc) ∧ w'.cell? ⟨b, 3, none⟩ = some (.int .i64 p.s.timer) ∧ w'.cell? ⟨ka, 2, none⟩ = some (.string cb) ∧ Below W1.heap.size W1 w') => HT.out w' (HR.out.below hS.2.2.2.2.2))
    clear ht htn hbm hbod hpb1 hpb2
    go_upto_region 12 with fail
    clear x0 x1 x2 x3 a2
    go_cut [6, 7, 8] from 110 (fun s6 s7 s8 wd => ∃ b6 b7 A5 c5, s6 = .pointer (some ⟨b6, 0, none⟩) ∧ s7 = .pointer (some ⟨b7, 0, none⟩) ∧ s8 = .int .i64 z ∧ Lies b6 #[.int .i64 t.epoch, .int .i64 t.base, .slice A5 tn c5, .int .i64 t.timer] 24 wd ∧ Lies b7 #[.int .i64 x.epoch, .int .i64 x.no, .string x.body] 26 wd ∧
      wd.ownsRow W1.heap.size 9 1 (.slice A5 tn c5) tn (bcs t.bodies) ∧ Below W1.heap.size W1 wd)
    case first =>
      refine push12 b ka what which body cb p t x z tn bm bc BA W1 S0 HKW.out HTS.out ?_
      rintro b6 b7 A5 c5 wd ⟨r1, r2, r3, r4⟩
      (try dsimp only)
      go_wp2_with fail
      go_meet
      case rel => exact ⟨b6, b7, A5, c5, rfl, rfl, rfl, r1, r2, r3, r4⟩
    case rest =>
      obtain ⟨b6, b7, A5, c5, rfl, rfl, rfl, hl6, hl7, ho5, hb5⟩ := hcut
      have P2 := Lib.hid (P0.out.next hb5)
      have LA2 := Lib.hid (LA.out.below hb5)
      have L6 := Lib.hid hl6
      have L7 := Lib.hid hl7
      have AP := Lib.hid (And.intro (apart_fresh ho5 P0.out.put (Nat.le_refl _)) (apart_fresh ho5 P0.out.got (Nat.le_refl _)))
      have O5 := Lib.hid (own_baseL ho5 P0.out.below.size)
      have HE3 := Lib.hid (fun (hz : z = 3) (h8 : bm = 8) => show pushW p (cut100 body) = { p with ok := true } by
        rw [← HCB.out]; unfold pushW; rw [← HPO.out, if_pos hz, ← HBM.out, h8, hok]; rfl)
      have HE0 := Lib.hid (fun (hz : z = 0) => show pushW p (cut100 body) = { p with ok := true, s := t, way := p.way ++ [x], put := p.put ++ [cb] } by
        rw [← HCB.out]; unfold pushW; rw [← HPO.out, if_neg (by simp [hz]), hok, hz]; rfl)
      have hcs := push_cases HI.out HN.out HC100.out
      rw [← HPO.out] at hcs
      simp only at hcs
      rw [← HBM.out] at hcs
      have HNE := Lib.hid (fun e : b6 = b => by
        have h1 := P2.out.at_
        rw [← e] at h1
        have h2 := hl6
        unfold Lies at h1 h2
        rw [h1] at h2
        simp at h2 : b6 ≠ b)
      have HNF := Lib.hid (fun e : b7 = b => by
        have h1 := P2.out.at_
        rw [← e] at h1
        have h2 := hl7
        unfold Lies at h1 h2
        rw [h1] at h2
        simp at h2 : b7 ≠ b)
      have x9 : wc.cell? ⟨b, 9, none⟩ = some (.bool true) := by
        have h9 := P2.out.at_.cell (j := 9) rfl
        rw [← hok]; exact h9
      have f9 := P2.out.at_.free 9
      have x2 := P2.out.at_.cell (j := 2) rfl
      have HOK := Lib.hid hok
      clear hl6 hl7 ho5 hb5 P0 LA HT HTS hok S0
      have HCS := Lib.hid hcs
      clear hcs
      rcases HCS.out with ⟨hz, h8⟩ | hz
      · have HEE := Lib.hid (HE3.out hz h8)
        have g8 : ((bm : Int) == 8) = true := eq_b (by omega)
        clear HE3 HE0
        subst hz
        go_wp2_with fail
        go_end0
        refine ⟨rfl, ?_⟩
        rw [HEE.out]
        exact ⟨_, _, _, _, _, P2.out.ok_ true⟩
      · have HEE := Lib.hid (HE0.out hz)
        clear HE3 HE0
        subst hz
        go_upto_region 16 with fail
        have P3 := Lib.hid (P2.out.ok_ true)
        have LA3 := Lib.hid (LA2.out.other (c := b) (by omega) 9 (.bool true))
        have L63 := Lib.hid (L6.out.other (c := b) HNE.out 9 (.bool true))
        have L73 := Lib.hid (L7.out.other (c := b) HNF.out 9 (.bool true))
        have O53 := Lib.hid (own_cell O5.out (own_blk O5.out P2.out.at_ str_pl) 9 (.bool true))
        obtain ⟨W3, hW3⟩ : ∃ W, W = wc.setCell ⟨b, 9, none⟩ (.bool true) := ⟨_, rfl⟩
        rw [← hW3] at P3 LA3 L63 L73 O53 ⊢
        clear hW3 x9 f9 x2 P2 LA2 L6 L7 O5
        refine push16 w0 b b6 b7 ka n wc_ WA what which cb p t x tn A5 c5 _ vp vg vs W3 P3.out LA3.out L63.out L73.out O53.out HTN.out HNN.out HWL.out AP.out.1 AP.out.2 (by omega) ?_
        rintro u139 u140 u141 u142 u143 u144 u145 u146 u147 u148 u149 u150 u151 u152 NA nc W5 hP5 hLA5
        have P5 := Lib.hid hP5
        have LA5 := Lib.hid hLA5
        clear hP5 hLA5 P3 LA3 L63 L73 O53
        (try dsimp only)
        go_upto_region 17 with fail
        refine push17 w0 b ka what which cb _ (.slice A5 tn c5) (.slice NA (n + 1) nc) vp vg vs W5 P5.out LA5.out (by have := HI.out.few; have := HN.out; show p.put.length ≤ 10000; omega) (by omega) ?_
        rintro u153 u154 u155 u156 u157 u158 u159 u160 u161 u162 u163 NB nd W6 hP6
        have P6 := Lib.hid hP6
        clear hP6
        (try dsimp only)
        go_end0
        refine ⟨rfl, ?_⟩
        rw [HEE.out]
        exact ⟨_, _, _, _, _, P6.out⟩
end Lk
end Go.Proofs.Ytbdlmokgmgpbfaa
