/- The code's inForce, examine, isTime, isWorker, rightOwner, rightLease. -/
import Derived.Test.YtgoapkbpcfbipaaLeaseT
import Derived.Test.YtgoapkbpcfbipaaWide
namespace Go.Proofs.Ytgoapkbpcfbipaa
open Go.ChangeShapes Go.WideShapes Go.ChangeAt Go.RowKit
set_option linter.unusedVariables false
set_option maxRecDepth 8000
namespace Ls
open Gen (TellsB TellsI SaysB row_one)
open Tick (cl addT)
theorem ckCl (t : Int) (w : World) : Calls Try.prog 42 #[.int .i64 t] w fun e w' => e = .returned (.int .i64 (cl t)) ∧ w' = w :=
  (tickClamp t w).mono fun e w' h => ⟨h.1, h.2.symm⟩
theorem ckAddS (a b : Int) (w : World) : Calls Try.prog 33 #[.int .i64 a, .int .i64 b] w fun e w' => e = .returned (.int .i64 (addT a b)) ∧ w' = w :=
  (tickAdd a b w).mono fun e w' h => ⟨h.1, h.2.symm⟩
/-- As the code asks it. -/
def forceL (o u t : Int) : Bool := decide (¬ o = 0 ∧ t < u)
theorem force_in {x : Le} (h : 0 ≤ x.own) (t : Int) : forceL x.own x.unt t = inF x t := by
  unfold forceL inF
  exact decide_eq_decide.2 (by omega)
theorem ckForce (o k u now : Int) (r : Bool) (hr : r = forceL o u (cl now)) (w : World) : Calls Try.prog 40 #[.agg #[.int .i64 o, .int .i64 k, .int .i64 u], .int .i64 now] w (TellsB r w) := by
  have HB := Lib.hid (below_al (o := .cells #[.int .i64 o, .int .i64 k, .int .i64 u] 62) (Below.refl w.heap.size w))
  have HC := Lib.hid (fun w' => ckCl now w')
  obtain ⟨t, ht⟩ : ∃ t, t = cl now := ⟨_, rfl⟩
  rw [← ht] at HC hr
  clear ht
  by_cases h1 : o = 0
  · have e : r = false := hr.trans (decide_eq_false fun h => h.1 h1)
    have h4 : (o != 0) = false := nb0 h1
    clear hr h1
    go_enter Try.func40, Try.ntmps40
    go_wp2_with fail
    go_quiet (first | (go_at_call 42; refine Calls.quiet_of_same (HC.out _)))
    go_wp2_with fail
    go_ret
    exact ⟨by rw [e]; rfl, below_next HB.out (below_drewN (Below.refl _ _))⟩
  · have h4 : (o != 0) = true := nb h1
    by_cases h2 : t < u
    · have e : r = true := hr.trans (decide_eq_true ⟨h1, h2⟩)
      have h3 : decide (t < u) = true := decide_eq_true h2
      clear hr h1
      go_enter Try.func40, Try.ntmps40
      go_wp2_with fail
      go_quiet (first | (go_at_call 42; refine Calls.quiet_of_same (HC.out _)))
      go_wp2_with fail
      go_ret
      exact ⟨by rw [e]; rfl, below_next HB.out (below_drewN (Below.refl _ _))⟩
    · have e : r = false := hr.trans (decide_eq_false fun h => h2 h.2)
      have h3 : decide (t < u) = false := decide_eq_false h2
      clear hr h1
      go_enter Try.func40, Try.ntmps40
      go_wp2_with fail
      go_quiet (first | (go_at_call 42; refine Calls.quiet_of_same (HC.out _)))
      go_wp2_with fail
      go_ret
      exact ⟨by rw [e]; rfl, below_next HB.out (below_drewN (Below.refl _ _))⟩
/-- A method value over a lease. -/
def GivesFn (x : Le) (w : World) (e : Ending) (w' : World) : Prop := e = .returned (.func (.func 40) #[.agg (leC x)] #[]) ∧ Below w.heap.size w w'
theorem ckExamine (x : Le) (w : World) : Calls Try.prog 29 #[.agg (leC x)] w (GivesFn x w) := by
  have HB := Lib.hid (below_al (o := .cells (leC x) 47) (Below.refl w.heap.size w))
  have hmf : ∀ (fn : Fn) (first cap : Array Value) (w : World), (Instr.makeFunc fn first cap).run Try.prog w = .ok (.func fn first cap) w := fun _ _ _ _ => rfl
  go_enter Try.func29, Try.ntmps29
  go_wp2_with fail
  go_ret
  exact ⟨rfl, HB.out⟩
theorem ckTime (t : Int) (r : Bool) (hr : r = decide (0 ≤ t ∧ t ≤ fin)) (w : World) : Calls Try.prog 44 #[.int .i64 t] w (SaysB r w) := by
  have HC := Lib.hid (fun w' => ckCl t w')
  obtain ⟨c, hc⟩ : ∃ c, c = cl t := ⟨_, rfl⟩
  rw [← hc] at HC
  have hiff : t = c ↔ (0 ≤ t ∧ t ≤ fin) := by
    have := Tick.cl_lo t
    have := Tick.cl_hi t
    constructor
    · intro h; show 0 ≤ t ∧ t ≤ 1099511627776; omega
    · intro h; rw [hc, Tick.cl_mid h.1 h.2]
  clear hc
  rcases Classical.em (t = c) with h | h
  · have e : r = true := hr.trans (decide_eq_true (hiff.1 h))
    have h1 : (t == c) = true := eq_b h
    clear hr hiff h
    go_enter Try.func44, Try.ntmps44
    go_wp2_with fail
    refine (HC.out _).mono ?_
    rintro e w1 ⟨rfl, rfl⟩
    go_wp2_with fail
    go_ret
    exact ⟨by rw [e]; rfl, rfl⟩
  · have e : r = false := hr.trans (decide_eq_false (fun h2 => h (hiff.2 h2)))
    have h1 : (t == c) = false := ne_b h
    clear hr hiff h
    go_enter Try.func44, Try.ntmps44
    go_wp2_with fail
    refine (HC.out _).mono ?_
    rintro e w1 ⟨rfl, rfl⟩
    go_wp2_with fail
    go_ret
    exact ⟨by rw [e]; rfl, rfl⟩
theorem ckWorker (n : Int) (r : Bool) (hr : r = decide (1 ≤ n ∧ n ≤ 99)) (w : World) : Calls Try.prog 31 #[.int .i64 n] w (SaysB r w) := by
  by_cases h1 : 1 ≤ n
  · by_cases h2 : n ≤ 99
    · have e : r = true := hr.trans (decide_eq_true ⟨h1, h2⟩)
      have g1 : decide (1 ≤ n) = true := decide_eq_true h1
      have g2 : decide (n ≤ 99) = true := decide_eq_true h2
      clear hr h1 h2
      go_enter Try.func31, Try.ntmps31
      go_wp2_with fail
      go_ret
      exact ⟨by rw [e]; rfl, rfl⟩
    · have e : r = false := hr.trans (decide_eq_false fun h => h2 h.2)
      have g1 : decide (1 ≤ n) = true := decide_eq_true h1
      have g2 : decide (n ≤ 99) = false := decide_eq_false h2
      clear hr h1 h2
      go_enter Try.func31, Try.ntmps31
      go_wp2_with fail
      go_ret
      exact ⟨by rw [e]; rfl, rfl⟩
  · have e : r = false := hr.trans (decide_eq_false fun h => h1 h.1)
    have g1 : decide (1 ≤ n) = false := decide_eq_false h1
    clear hr h1
    go_enter Try.func31, Try.ntmps31
    go_wp2_with fail
    go_ret
    exact ⟨by rw [e]; rfl, rfl⟩
def ownR (x : Le) : Bool := if x.own = 0 then decide (x.unt = 0) else decide (1 ≤ x.own ∧ x.own ≤ 99) && decide (x.tok ≠ 0)
theorem ckOwner (x : Le) (r : Bool) (hr : r = ownR x) (w : World) : Calls Try.prog 43 #[.agg (leC x)] w (TellsB r w) := by
  obtain ⟨o, k, u⟩ := x
  have HB := Lib.hid (below_al (o := .cells (leC ⟨o, k, u⟩) 47) (Below.refl w.heap.size w))
  unfold ownR at hr
  simp only at hr
  by_cases h1 : o = 0
  · rw [if_pos h1] at hr
    have g1 : (o == 0) = true := eq_b h1
    clear h1
    by_cases h2 : u = 0
    · have g2 : (u == 0) = true := eq_b h2
      have e : r = true := hr.trans (decide_eq_true h2)
      clear hr h2
      go_enter Try.func43, Try.ntmps43
      go_wp2_with fail
      go_ret
      exact ⟨by rw [e]; rfl, HB.out⟩
    · have g2 : (u == 0) = false := ne_b h2
      have e : r = false := hr.trans (decide_eq_false h2)
      clear hr h2
      go_enter Try.func43, Try.ntmps43
      go_wp2_with fail
      go_ret
      exact ⟨by rw [e]; rfl, HB.out⟩
  · rw [if_neg h1] at hr
    have g1 : (o == 0) = false := ne_b h1
    clear h1
    obtain ⟨q, hq⟩ : ∃ q, q = decide (1 ≤ o ∧ o ≤ 99) := ⟨_, rfl⟩
    have HW := Lib.hid (fun w' => ckWorker o q hq w')
    rw [← hq] at hr
    clear hq
    cases q
    · have e : r = false := hr
      clear hr
      go_enter Try.func43, Try.ntmps43
      go_wp2_with fail
      refine (HW.out _).mono ?_
      rintro e1 w1 ⟨rfl, rfl⟩
      go_wp2_with fail
      go_ret
      exact ⟨by rw [e]; rfl, HB.out⟩
    · by_cases h2 : k = 0
      · have g2 : (k != 0) = false := nb0 h2
        have e : r = false := hr.trans (by rw [decide_eq_false (by simpa using h2)]; rfl)
        clear hr h2
        go_enter Try.func43, Try.ntmps43
        go_wp2_with fail
        refine (HW.out _).mono ?_
        rintro e1 w1 ⟨rfl, rfl⟩
        go_wp2_with fail
        go_ret
        exact ⟨by rw [e]; rfl, HB.out⟩
      · have g2 : (k != 0) = true := nb h2
        have e : r = true := hr.trans (by rw [decide_eq_true h2]; rfl)
        clear hr h2
        go_enter Try.func43, Try.ntmps43
        go_wp2_with fail
        refine (HW.out _).mono ?_
        rintro e1 w1 ⟨rfl, rfl⟩
        go_wp2_with fail
        go_ret
        exact ⟨by rw [e]; rfl, HB.out⟩
theorem okL_as (last : Int) (x : Le) : okL last x = (ownR x && (decide (0 ≤ x.tok) && (decide (x.tok ≤ last) && decide (0 ≤ x.unt ∧ x.unt ≤ fin)))) := by
  unfold okL ownR
  by_cases h1 : x.own = 0
  · rw [if_pos h1, ← Bool.decide_and, ← Bool.decide_and, ← Bool.decide_and]
    exact decide_eq_decide.2 (by constructor <;> intro h <;> simp only [fin] at * <;> omega)
  · rw [if_neg h1, ← Bool.decide_and, ← Bool.decide_and, ← Bool.decide_and, ← Bool.decide_and]
    exact decide_eq_decide.2 (by constructor <;> intro h <;> simp only [fin] at * <;> omega)
theorem ckLease (x : Le) (last : Int) (r : Bool) (hr : r = okL last x) (w : World) : Calls Try.prog 38 #[.agg (leC x), .int .i64 last] w (TellsB r w) := by
  obtain ⟨o, k, u⟩ := x
  rw [okL_as] at hr
  obtain ⟨q, hq⟩ : ∃ q, q = ownR ⟨o, k, u⟩ := ⟨_, rfl⟩
  obtain ⟨p, hp⟩ : ∃ p, p = decide (0 ≤ u ∧ u ≤ fin) := ⟨_, rfl⟩
  have HW := Lib.hid (fun w' => ckOwner ⟨o, k, u⟩ q hq w')
  have HT := Lib.hid (fun w' => ckTime u p hp w')
  have L0 := Lib.hid (Lies.new w (leC ⟨o, k, u⟩) 47)
  have HB := Lib.hid (below_al (o := .cells (leC ⟨o, k, u⟩) 47) (Below.refl w.heap.size w))
  have HRR : Hid (r = (q && (decide (0 ≤ k) && (decide (k ≤ last) && p)))) := Lib.hid (by rw [hr, ← hq, ← hp])
  clear hr hq hp
  simp only [leC] at L0 HB HW
  go_enter Try.func38, Try.ntmps38
  go_upto_region 1 with fail
  obtain ⟨b9, hb9⟩ : ∃ b, b = w.heap.size := ⟨_, rfl⟩
  obtain ⟨W, hW⟩ : ∃ W, W = w.alloc (.cells #[.int .i64 o, .int .i64 k, .int .i64 u] 47) := ⟨_, rfl⟩
  rw [← hW] at L0 HB ⊢
  rw [← hb9] at L0 ⊢
  clear hW hb9
  have x0 := L0.out.cell (j := 0) rfl; have x1 := L0.out.cell (j := 1) rfl; have x2 := L0.out.cell (j := 2) rfl
  go_wp2_with fail
  refine (HW.out _).mono ?_
  rintro e1 w1 ⟨rfl, hb1⟩
  have HB1 := Lib.hid (below_next HB.out hb1)
  have L1 := Lib.hid (L0.out.below hb1)
  clear hb1 x0 x1 x2
  have x1 := L1.out.cell (j := 1) rfl; have x2 := L1.out.cell (j := 2) rfl
  cases q
  · have e : r = false := HRR.out
    go_wp2_with fail
    go_ret
    exact ⟨by rw [e]; rfl, HB1.out⟩
  · by_cases h1 : 0 ≤ k
    · have g1 : decide (0 ≤ k) = true := decide_eq_true h1
      by_cases h2 : k ≤ last
      · have g2 : decide (k ≤ last) = true := decide_eq_true h2
        have e : r = p := HRR.out.trans (by rw [g1, g2]; rfl)
        clear h1 h2
        go_wp2_with fail
        refine (HT.out _).mono ?_
        rintro e2 w2 ⟨rfl, rfl⟩
        cases p
        · go_wp2_with fail
          go_ret
          exact ⟨by rw [e]; rfl, HB1.out⟩
        · go_wp2_with fail
          go_ret
          exact ⟨by rw [e]; rfl, HB1.out⟩
      · have g2 : decide (k ≤ last) = false := decide_eq_false h2
        have e : r = false := HRR.out.trans (by rw [g1, g2]; rfl)
        clear h1 h2
        go_wp2_with fail
        go_ret
        exact ⟨by rw [e]; rfl, HB1.out⟩
    · have g1 : decide (0 ≤ k) = false := decide_eq_false h1
      have e : r = false := HRR.out.trans (by rw [g1]; rfl)
      clear h1
      go_wp2_with fail
      go_ret
      exact ⟨by rw [e]; rfl, HB1.out⟩
end Ls
end Go.Proofs.Ytgoapkbpcfbipaa
