/- The reference's Has, Fenced, Like, Add. -/
import Derived.Test.YtgoapkbpcfbipaaLeaseR
namespace Go.Proofs.Ytgoapkbpcfbipaa
open Go.ChangeShapes Go.WideShapes Go.ChangeAt Go.RowKit
set_option linter.unusedVariables false
set_option maxRecDepth 8000
namespace Ls
open Gen (TellsB TellsI SaysB row_one)
open Tick (cl addT)
theorem rfAddS (a b : Int) (w : World) : Calls Try.prog 36 #[.int .i64 a, .int .i64 b] w fun e w' => e = .returned (.int .i64 (addT a b)) ∧ w' = w :=
  (refAdd a b w).mono fun e w' h => ⟨h.1, h.2.symm⟩
set_option maxRecDepth 100000 in
theorem rfHas (ls : List Le) (n : Nat) (last g : Int) (A : Option Addr) (c : Nat) (r : Bool) (hn : n = ls.length) (hr : r = hasT ⟨ls, last⟩ g) (w : World) (h : Row w A (lec ls)) (hl : n ≤ 4611686018427387904) :
    Calls Try.prog 34 #[.agg #[.slice A n c, .int .i64 last], .int .i64 g] w (TellsB r w) := by
  obtain ⟨q, hq⟩ : ∃ q, q = rightT ⟨ls, last⟩ := ⟨_, rfl⟩
  have HRR := Lib.hid (fun w' (h' : Row w' A (lec ls)) => rfRight ls n last A c q hn hq w' h' hl)
  have HY := Lib.hid (fun n lo hi (h : lo ≤ n ∧ n ≤ hi) w => inYes h w)
  have HX := Lib.hid (fun n lo hi (h : ¬ (lo ≤ n ∧ n ≤ hi)) w => inNo h w)
  have hb0 := below_al (o := .cells #[.slice A n c, .int .i64 last] 24) (Below.refl w.heap.size w)
  have HB := Lib.hid hb0
  have HR := Lib.hid (h.below hb0)
  have LS := Lib.hid (Lies.new w #[.slice A n c, .int .i64 last] 24)
  have HRQ : Hid (r = (q && decide (0 ≤ g ∧ g < (n : Int)))) := Lib.hid (by rw [hr, hq, hn]; rfl)
  have HQ1 : Hid (q = true → 1 ≤ n) := Lib.hid (fun e => by rw [hq] at e; have := ((ok_iff _).1 e).len; rw [hn]; exact this.1)
  clear h hb0 hr hq hn
  go_enter Try.func34, Try.ntmps34
  obtain ⟨tb, htb⟩ : ∃ b, b = w.heap.size := ⟨_, rfl⟩
  obtain ⟨W, hW⟩ : ∃ W, W = w.alloc (.cells #[.slice A n c, .int .i64 last] 24) := ⟨_, rfl⟩
  go_upto_region 1 with fail
  rw [← hW] at LS HR HB ⊢
  rw [← htb] at LS ⊢
  clear hW htb
  have x0 := LS.out.cell (j := 0) rfl; have x1 := LS.out.cell (j := 1) rfl
  go_wp2_with fail
  refine (HRR.out _ HR.out).mono ?_
  rintro e w1 ⟨rfl, hb1⟩
  have HB1 := Lib.hid (below_next HB.out hb1)
  have L1 := Lib.hid (LS.out.below hb1)
  clear hb1 x0 x1
  have x0 := L1.out.cell (j := 0) rfl
  cases q
  · have hr0 : r = false := by rw [HRQ.out]; rfl
    subst hr0
    clear HRQ HQ1
    go_wp2_with fail
    go_ret
    exact ⟨rfl, HB1.out⟩
  · have hn1 := HQ1.out rfl
    have hw : IntKind.i64.wrap ((n : Int) - 1) = (n : Int) - 1 := wrapS (by omega) (by omega)
    by_cases hg : 0 ≤ g ∧ g ≤ (n : Int) - 1
    · have hr1 : r = true := by rw [HRQ.out]; exact decide_eq_true (by omega)
      have HC := Lib.hid (HY.out g 0 ((n : Int) - 1) hg)
      subst hr1
      clear HRQ HQ1 hn1 hg
      go_wp2_with fail
      refine (HC.out _).mono ?_
      rintro e w2 ⟨rfl, rfl⟩
      go_wp2_with fail
      go_ret
      exact ⟨rfl, HB1.out⟩
    · have hr1 : r = false := by rw [HRQ.out]; exact decide_eq_false (by omega)
      have HC := Lib.hid (HX.out g 0 ((n : Int) - 1) hg)
      subst hr1
      clear HRQ HQ1 hn1 hg
      go_wp2_with fail
      refine (HC.out _).mono ?_
      rintro e w2 ⟨rfl, rfl⟩
      go_wp2_with fail
      go_ret
      exact ⟨rfl, HB1.out⟩
/-- The lease at a place. -/
theorem at_nat (ls : List Le) (last : Int) {j : Nat} {x : Le} (hx : ls[j]? = some x) : at_ ⟨ls, last⟩ (j : Int) = x := by
  unfold at_
  rw [List.getD_eq_getElem?_getD]
  show (ls[(j : Int).toNat]?).getD _ = x
  rw [Int.toNat_natCast, hx]
  rfl
set_option maxRecDepth 100000 in
theorem rfFenced (ls : List Le) (n : Nat) (last g k : Int) (A : Option Addr) (c : Nat) (r : Bool) (hn : n = ls.length) (hr : r = fencedO ⟨ls, last⟩ g k) (w : World) (h : Row w A (lec ls)) (hl : n ≤ 4611686018427387904) :
    Calls Try.prog 25 #[.agg #[.slice A n c, .int .i64 last], .int .i64 g, .int .i64 k] w (TellsB r w) := by
  obtain ⟨q, hq⟩ : ∃ q, q = hasT ⟨ls, last⟩ g := ⟨_, rfl⟩
  have HRR := Lib.hid (fun w' (h' : Row w' A (lec ls)) => rfHas ls n last g A c q hn hq w' h' hl)
  have hb0 := below_al (o := .cells #[.slice A n c, .int .i64 last] 24) (Below.refl w.heap.size w)
  have HB := Lib.hid hb0
  have HR := Lib.hid (h.below hb0)
  have LS := Lib.hid (Lies.new w #[.slice A n c, .int .i64 last] 24)
  have HN := Lib.hid hn
  have HRQ : Hid (r = if q = false then true else decide ((at_ ⟨ls, last⟩ g).own = 0 ∨ (at_ ⟨ls, last⟩ g).tok ≠ k)) := Lib.hid (by rw [hr, hq]; rfl)
  have HQ1 : Hid (q = true → 0 ≤ g ∧ g < (n : Int)) := Lib.hid (fun e => by rw [hq] at e; rw [hn]; exact ((has_iff _ _).1 e).2)
  clear h hb0 hr hq hn
  go_enter Try.func25, Try.ntmps25
  obtain ⟨tb, htb⟩ : ∃ b, b = w.heap.size := ⟨_, rfl⟩
  obtain ⟨W, hW⟩ : ∃ W, W = w.alloc (.cells #[.slice A n c, .int .i64 last] 24) := ⟨_, rfl⟩
  go_upto_region 1 with fail
  rw [← hW] at LS HR HB ⊢
  rw [← htb] at LS ⊢
  clear hW htb
  have x0 := LS.out.cell (j := 0) rfl; have x1 := LS.out.cell (j := 1) rfl
  go_wp2_with fail
  refine (HRR.out _ HR.out).mono ?_
  rintro e w1 ⟨rfl, hb1⟩
  have HB1 := Lib.hid (below_next HB.out hb1)
  have L1 := Lib.hid (LS.out.below hb1)
  have HR1 := Lib.hid (HR.out.below hb1)
  clear hb1 x0 x1
  have x0 := L1.out.cell (j := 0) rfl
  cases q
  · have hr0 : r = true := by rw [HRQ.out]; rfl
    subst hr0
    clear HRQ HQ1
    go_wp2_with fail
    go_ret
    exact ⟨rfl, HB1.out⟩
  · have hg := HQ1.out rfl
    obtain ⟨j, rfl⟩ : ∃ j : Nat, g = (j : Int) := ⟨g.toNat, by omega⟩
    obtain ⟨x, hx⟩ : ∃ x, ls[j]? = some x := ⟨_, List.getElem?_eq_getElem (by have := HN.out; omega)⟩
    have hrx : r = decide (x.own = 0 ∨ x.tok ≠ k) := by rw [HRQ.out, at_nat ls last hx]; rfl
    obtain ⟨q, off, rfl, d0, d1, d2⟩ := lease_row HR1.out hx
    have HBB := Lib.hid (below_al (o := .cells (leC x) 47) HB1.out)
    have hji : (j : Int) < (n : Int) := hg.2
    obtain ⟨o, t, u⟩ := x
    simp only at d0 d1 d2 hrx
    clear hg hx HRQ HQ1 HRR
    by_cases c1 : o = 0
    · have g1 : (o == 0) = true := eq_b c1
      have hr1 : r = true := hrx.trans (decide_eq_true (.inl c1))
      subst hr1
      clear c1 hrx
      go_wp2_with fail
      go_ret
      exact ⟨rfl, HBB.out⟩
    · have g1 : (o == 0) = false := ne_b c1
      by_cases c2 : t = k
      · have g2 : (t != k) = false := nb0 c2
        have hr1 : r = false := hrx.trans (decide_eq_false (fun h => h.elim c1 (fun h => h c2)))
        subst hr1
        clear c1 c2 hrx
        go_wp2_with fail
        go_ret
        exact ⟨rfl, HBB.out⟩
      · have g2 : (t != k) = true := nb c2
        have hr1 : r = true := hrx.trans (decide_eq_true (.inr c2))
        subst hr1
        clear c1 c2 hrx
        go_wp2_with fail
        go_ret
        exact ⟨rfl, HBB.out⟩
theorem lfields : Try.prog.underlying 47 = some (.struct (Try.prog.fieldsOf 47)) := by kernel_rfl
theorem lstood : Try.prog.stoodInHeld 47 = false := by kernel_rfl
theorem run_sameLe (x : Le) (w : World) : (binOp .neq 47 (.agg (leC x)) (.agg (leC x))).run Try.prog w = .ok (.bool false) w := by
  have h1 := Try.underlying3
  have h2 := Try.underlying2
  rw [run_neq_struct, show (10000 : Nat) = 9999 + 1 from rfl, run_equalIn_agg w _ _ _ _ lfields lstood]
  simp [Program.fieldsOf, Try.underlying47, Op.eqFields, part, isAgg, run_underlying h1, run_underlying h2, run_equalIn_int w 9998 _ .i64 .i64 _ _ h1, run_equalIn_int w 9998 _ .i64 .i64 _ _ h2]
set_option maxHeartbeats 1000000 in
/-- The same tables in two rows. -/
theorem rfLikeT (ls : List Le) (n : Nat) (last : Int) (hn : n = ls.length) (hl : n ≤ 100000) (A A' : Option Addr) (c c' : Nat) (w : World) (hA : Row w A (lec ls)) (hA' : Row w A' (lec ls)) :
    Calls Try.prog 11 #[.agg #[.slice A n c, .int .i64 last], .agg #[.slice A' n c', .int .i64 last]] w (TellsB true w) := by
  have hb0 := below_al (o := .cells #[.slice A' n c', .int .i64 last] 24) (below_al (o := .cells #[.slice A n c, .int .i64 last] 24) (Below.refl w.heap.size w))
  have HB := Lib.hid hb0
  have HR := Lib.hid (hA.below hb0)
  have HR' := Lib.hid (hA'.below hb0)
  have L1 := Lib.hid ((Lies.new w #[.slice A n c, .int .i64 last] 24).al (o := .cells #[.slice A' n c', .int .i64 last] 24))
  have L2 := Lib.hid (Gen.lies_new1 w (.cells #[.slice A n c, .int .i64 last] 24) #[.slice A' n c', .int .i64 last] 24)
  have HN := Lib.hid hn
  clear hA hA' hb0 hn
  go_enter Try.func11, Try.ntmps11
  go_upto_region 1 with fail
  obtain ⟨tb, htb⟩ : ∃ b, b = w.heap.size := ⟨_, rfl⟩
  obtain ⟨W, hW⟩ : ∃ W, W = (w.alloc (.cells #[.slice A n c, .int .i64 last] 24)).alloc (.cells #[.slice A' n c', .int .i64 last] 24) := ⟨_, rfl⟩
  rw [← hW] at L1 L2 HR HR' HB ⊢
  rw [← htb] at L1 L2 ⊢
  clear hW htb
  have x0 := L1.out.cell (j := 0) rfl; have x1 := L1.out.cell (j := 1) rfl
  have y0 := L2.out.cell (j := 0) rfl; have y1 := L2.out.cell (j := 1) rfl
  go_wp2_with fail
  go_loopw [23] (fun i wr => ∃ k : Nat, i = .int .i64 k ∧ k ≤ n ∧ ∃ m, wr = W.drewN m) (fun i _ => n - (intOf i).toNat)
  case atStart => exact ⟨0, rfl, Nat.zero_le _, 0, rfl⟩
  case round =>
    obtain ⟨k, rfl, hk, m, rfl⟩ := hrel
    by_cases hlt : k < n
    · obtain ⟨x, hx⟩ : ∃ x, ls[k]? = some x := ⟨_, List.getElem?_eq_getElem (by have := HN.out; omega)⟩
      obtain ⟨b, off, rfl, c0, c1, c2⟩ := lease_row HR.out hx
      obtain ⟨b', off', rfl, d0, d1, d2⟩ := lease_row HR'.out hx
      have he : ∀ w : World, (binOp .neq 47 (.agg (leC x)) (.agg (leC x))).run Try.prog w = .ok (.bool false) w := fun w => run_sameLe x w
      have hki : (k : Int) < (n : Int) := by omega
      have hw := wrapK (k := k) (by omega)
      clear hx
      go_wp2_with fail
      go_quiet (fail)
      go_wp2_with fail
      go_roundw
      case rel => exact ⟨k + 1, rfl, by omega, _, rfl⟩
      case measure => simp [intOf]; omega
    · have hki : ¬ (k : Int) < (n : Int) := by omega
      go_wp2_with fail
      go_ret
      exact ⟨rfl, below_next HB.out (below_drewN (Below.refl _ _))⟩
end Ls
end Go.Proofs.Ytgoapkbpcfbipaa
