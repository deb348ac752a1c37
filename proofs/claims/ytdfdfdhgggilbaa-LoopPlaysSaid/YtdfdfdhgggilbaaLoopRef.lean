/- The reference's Half, Leaves, Run. -/
import Derived.Test.YtdfdfdhgggilbaaLoopRun
namespace Go.Proofs.Ytdfdfdhgggilbaa
open Go.RowKit
set_option linter.unusedVariables false
namespace Lp
open Gen
theorem half_pos {v : Int} (h : 0 ≤ v) : v / 2 = half v := by unfold half; rw [Int.tdiv_eq_ediv_of_nonneg h]
theorem half_neg {v : Int} (h : v < 0) : half v = -((-v) / 2) ∧ v.tmod 2 = -((-v) % 2) := by
  have h1 : (-v).tdiv 2 = (-v) / 2 := Int.tdiv_eq_ediv_of_nonneg (by omega)
  have h2 : (-v).tmod 2 = (-v) % 2 := Int.tmod_eq_emod_of_nonneg (by omega)
  rw [Int.neg_tdiv] at h1
  rw [Int.neg_tmod] at h2
  unfold half
  omega
theorem rfHalf (v : Int) (hv : inI v) (w : World) : Calls Try.prog 12 #[.int .i64 v] w (SaysI (half v) w) := by
  have HV := Lib.hid hv
  clear hv
  by_cases h : v < 0
  · have HN := Lib.hid (half_neg h)
    have h1 : v.tmod 2 = 0 ∨ v.tmod 2 = -1 := by have := HN.out.2; omega
    rcases h1 with h1 | h1
    · have HE : Hid (v / 2 = half v) := Lib.hid (by have := HN.out; omega)
      go_enter Try.func12, Try.ntmps12
      go_wp2_with fail
      go_ret
      exact ⟨by rw [← HE.out]; rfl, rfl⟩
    · have hw := wrap_i (v := v + 1) (by have := HV.out; unfold inI at *; omega)
      have HE : Hid ((v + 1) / 2 = half v) := Lib.hid (by have := HN.out; omega)
      go_enter Try.func12, Try.ntmps12
      go_wp2_with fail
      go_ret
      exact ⟨by rw [← HE.out]; rfl, rfl⟩
  · have h0 : 0 ≤ v := by omega
    have HE := Lib.hid (half_pos h0)
    go_enter Try.func12, Try.ntmps12
    go_wp2_with fail
    go_ret
    exact ⟨by rw [← HE.out]; rfl, rfl⟩
theorem rfAbove (v l : Int) (hv : inI v) (hl : 0 ≤ l ∧ l ≤ 9223372036854775807) (w : World) : Calls Try.prog 24 #[.int .i64 v, .int .i64 l] w (SaysB (decide (l < (v.natAbs : Int))) w) := by
  have hw := wrap_i (v := -l) (by unfold inI; omega)
  have HV := Lib.hid hv
  have HL := Lib.hid hl
  clear hv hl
  by_cases h : l < v
  · have HE : Hid (l < (v.natAbs : Int)) := Lib.hid (by have := HL.out; omega)
    go_enter Try.func24, Try.ntmps24
    go_wp2_with fail
    go_ret
    exact ⟨by simp [HE.out], rfl⟩
  · by_cases h2 : v < -l
    · have HE : Hid (l < (v.natAbs : Int)) := Lib.hid (by have := HL.out; omega)
      go_enter Try.func24, Try.ntmps24
      go_wp2_with fail
      go_ret
      exact ⟨by simp [HE.out], rfl⟩
    · have HE : Hid (¬ l < (v.natAbs : Int)) := Lib.hid (by have := HL.out; omega)
      go_enter Try.func24, Try.ntmps24
      go_wp2_with fail
      go_ret
      exact ⟨by simp [HE.out], rfl⟩
theorem rfLeaves (t : Tr) (l f : Int) (hv : inI t.ev.val) (hl : inI l) (w : World) :
    Calls Try.prog 20 #[.int .i64 t.ev.val, .int .i64 (t.n : Int), .int .i64 l, .int .i64 f] w (SaysB (leaves (limOf l) (fuelOf f) t) w) := by
  obtain ⟨L, hL⟩ : ∃ L, L = limOf l := ⟨_, rfl⟩
  obtain ⟨G, hG⟩ : ∃ G : Int, G = if f > 40 then 40 else f := ⟨_, rfl⟩
  have hLi := limOf_in hl
  rw [← hL] at hLi
  have HA := Lib.hid (fun w => rfAbove t.ev.val L hv hLi w)
  obtain ⟨r, hr⟩ : ∃ r, r = leaves L (fuelOf f) t := ⟨_, rfl⟩
  have hrr : r = decide (G ≤ t.n ∨ ¬ L < (t.ev.val.natAbs : Int)) := by
    rw [hr, hG]; unfold leaves fuelOf
    rw [Bool.eq_iff_iff, decide_eq_true_eq, decide_eq_true_eq]
    split <;> omega
  rw [← hL, ← hr]
  obtain ⟨q, hq⟩ : ∃ q, q = decide (L < (t.ev.val.natAbs : Int)) := ⟨_, rfl⟩
  rw [← hq] at HA
  obtain ⟨v, hv2⟩ : ∃ v, v = t.ev.val := ⟨_, rfl⟩
  rw [← hv2] at HA ⊢
  obtain ⟨n, hn2⟩ : ∃ n, n = t.n := ⟨_, rfl⟩
  rw [← hn2] at hrr ⊢
  have hl1 : (l < 0 ∧ L = 0) ∨ (¬ l < 0 ∧ L = l) := by rw [hL]; unfold limOf; omega
  have hg1 : (40 < f ∧ G = 40) ∨ (¬ 40 < f ∧ G = f) := by rw [hG]; split <;> omega
  have hg2 : G ≤ (n : Int) ∧ r = true ∨ ¬ G ≤ (n : Int) ∧ r = !q := by
    rw [hrr, hq, ← hv2]
    by_cases h : G ≤ (n : Int)
    · simp [h]
    · by_cases h2 : L < (v.natAbs : Int)
      · simp [h, h2]
      · simp [h, h2]
  clear hL hG hr hrr hLi hq hv hl hv2 hn2
  rcases hl1 with ⟨a1, rfl⟩ | ⟨a1, rfl⟩ <;> rcases hg1 with ⟨b1, rfl⟩ | ⟨b1, rfl⟩ <;> rcases hg2 with ⟨d1, rfl⟩ | ⟨d1, rfl⟩
  all_goals (
    go_enter Try.func20, Try.ntmps20
    go_wp2_with (go_at_call 24; refine (HA.out _).mono ?_; rintro e w' ⟨rfl, rfl⟩)
    go_ret
    exact ⟨rfl, rfl⟩)
/-- The way out of the reference's Run. -/
theorem refrun_ret {t : Tr} {rb : Nat} {w0 w : World} {act : Act} (ht : act.tmps.getD 6 undef = .pointer (some ⟨rb, 0, none⟩)) (hs : act.tmps.getD 7 undef = .int .i64 (t.n : Int)) (hd : act.defers = []) (hl : Lies rb (evC t.ev) 23 w) (h : Below w0.heap.size w0 w) :
    bodyPost Try.prog Try.f10 (GivesR t w0) Exit.ret act w := by
  have c0 : w.cell? ⟨rb, 0, none⟩ = some (.string t.ev.key) := hl.cell (j := 0) rfl
  have c1 : w.cell? ⟨rb, 1, none⟩ = some (.int .i64 t.ev.at_) := hl.cell (j := 1) rfl
  have c2 : w.cell? ⟨rb, 2, none⟩ = some (.int .i64 t.ev.val) := hl.cell (j := 2) rfl
  have ht2 : act.tmps[6]?.getD undef = .pointer (some ⟨rb, 0, none⟩) := by simpa using ht
  have hs2 : act.tmps[7]?.getD undef = .int .i64 (t.n : Int) := by simpa using hs
  exact bodyPost_ret (v := .tuple #[evV t.ev, .int .i64 (t.n : Int)]) (by simp [results, Try.results10, go_sem, ht2, hs2, c0, c1, c2]) hd ⟨rfl, h⟩
/-- Where its loop stands. -/
structure RefTo (L : Int) (F : Nat) (e : Ev) (w0 : World) (t : Tr) (w : World) : Prop where
  lies : Lies w0.heap.size (evC t.ev) 23 w
  res : Lies (w0.heap.size + 1) (evC zEv) 23 w
  same : fin L F t = ran L F e
  val : inI t.ev.val
  few : t.n ≤ F
  below : Below w0.heap.size w0 w
set_option maxHeartbeats 2000000 in
theorem rfRun (e : Ev) (l f : Int) (hv : inI e.val) (hl : inI l) (w : World) : Calls Try.prog 10 #[evV e, .int .i64 l, .int .i64 f] w (GivesR (ran (limOf l) (fuelOf f) e) w) := by
  have HF : Hid (fuelOf f ≤ 40) := Lib.hid (fuelOf_le f)
  have HL := Lib.hid hl
  have R0 : Hid (RefTo (limOf l) (fuelOf f) e w ⟨e, 0⟩ ((w.alloc (.cells (evC e) 23)).alloc (.cells (evC zEv) 23))) := Lib.hid ⟨(Lies.new w (evC e) _).al, lies_new1 w _ (evC zEv) _, rfl, hv, Nat.zero_le _, below_al (below_al (Below.refl _ _))⟩
  clear hv hl
  go_enter Try.func10, Try.ntmps10
  go_wp2_with fail
  go_loopw [8] (fun s8 wr => ∃ t : Tr, s8 = .int .i64 (t.n : Int) ∧ RefTo (limOf l) (fuelOf f) e w t wr) (fun s8 _ => 41 - (intOf s8).toNat)
  case atStart => exact ⟨⟨e, 0⟩, rfl, R0.out⟩
  case round =>
    clear R0
    obtain ⟨t, rfl, hr⟩ := hrel
    have R1 := Lib.hid hr
    have c0 := hr.lies.cell (j := 0) rfl
    have c1 := hr.lies.cell (j := 1) rfl
    have c2 := hr.lies.cell (j := 2) rfl
    have d0 := hr.res.cell (j := 0) rfl
    have d1 := hr.res.cell (j := 1) rfl
    have d2 := hr.res.cell (j := 2) rfl
    have f0 := hr.res.free 0
    have f1 := hr.res.free 1
    have f2 := hr.res.free 2
    have f3 := hr.lies.free 2
    have HC := Lib.hid (rfLeaves t l f hr.val HL.out wr)
    have HH := Lib.hid (rfHalf t.ev.val hr.val wr)
    clear hr
    cases hq : leaves (limOf l) (fuelOf f) t
    · rw [hq] at HC
      have HN := Lib.hid (leaves_lt hq)
      have HS := Lib.hid (fin_go hq)
      have hw := wrap_i (v := (t.n : Int) + 1) (by have := HN.out; have := HF.out; unfold inI; omega)
      clear hq
      go_wp2_with fail
      refine HC.out.mono ?_
      rintro e2 w2 ⟨rfl, rfl⟩
      go_wp2_with fail
      refine HH.out.mono ?_
      rintro e2 w2 ⟨rfl, rfl⟩
      go_wp2_with fail
      go_roundw
      case rel => exact ⟨next t, by simp [next], R1.out.lies.set 2 (.int .i64 (half t.ev.val)), R1.out.res.other (by omega) 2 _, HS.out.trans R1.out.same, half_in R1.out.val, HN.out, R1.out.below.setCell (p := ⟨w.heap.size, 2, none⟩) (Nat.le_refl _) _⟩
      case measure => have := HN.out; have := HF.out; simp [intOf]; omega
    · rw [hq] at HC
      have HE : Hid (t = ran (limOf l) (fuelOf f) e) := Lib.hid (by rw [← R1.out.same, fin_stop hq])
      clear hq
      go_wp2_with fail
      refine HC.out.mono ?_
      rintro e2 w2 ⟨rfl, rfl⟩
      go_wp2_with fail
      rw [← HE.out]
      exact refrun_ret (rb := w.heap.size + 1) rfl rfl rfl (Lies.set3 R1.out.res _ _ _) (below_set3 R1.out.below (Nat.le_succ _) _ _ _)
end Lp
end Go.Proofs.Ytdfdfdhgggilbaa
