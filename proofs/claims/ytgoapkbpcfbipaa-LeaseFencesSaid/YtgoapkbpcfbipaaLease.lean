/- Rows of leases; the reference's in, Counts, Right. -/
import Derived.Test.YtgoapkbpcfbipaaLeaseMath
import Derived.Test.YtgoapkbpcfbipaaGen
import Derived.Test.YtgoapkbpcfbipaaTick
import Derived.Test.YtgoapkbpcfbipaaStill
import Derived.Laws.StructEq
import Derived.Deep.RegionHeld3
import Derived.BigQuiet
import Derived.LoopTactic
import Derived.Deep.Cut
import Derived.Deep.CutBlock
namespace Go.Proofs.Ytgoapkbpcfbipaa
open Go.ChangeShapes Go.WideShapes Go.ChangeAt Go.RowKit
set_option linter.unusedVariables false
set_option maxRecDepth 8000
namespace Ls
open Gen (TellsB TellsI SaysB row_one)
open Tick (cl addT)
abbrev leL (l : Le) : List Value := [.int .i64 l.own, .int .i64 l.tok, .int .i64 l.unt]
abbrev leC (l : Le) : Array Value := #[.int .i64 l.own, .int .i64 l.tok, .int .i64 l.unt]
abbrev lec (ls : List Le) : List Value := ls.flatMap leL
theorem leL_len (l : Le) : (leL l).length = 3 := rfl
theorem wrapS {n : Int} (h1 : -9223372036854775808 ≤ n) (h2 : n ≤ 9223372036854775807) : IntKind.i64.wrap n = n := by
  simp [IntKind.wrap, IntKind.bits, IntKind.signed]; omega
theorem wrapK {k : Nat} (h : k < 9223372036854775807) : IntKind.i64.wrap ((k : Int) + 1) = ((k + 1 : Nat) : Int) := by rw [wrapS (by omega) (by omega)]; rfl
theorem lease_row {w : World} {A : Option Addr} {l : List Le} (h : Row w A (lec l)) {k : Nat} {x : Le} (hk : l[k]? = some x) :
    ∃ q off, A = some ⟨q, off, none⟩ ∧ w.cell? ⟨q, off + k * 3, none⟩ = some (.int .i64 x.own) ∧ w.cell? ⟨q, off + k * 3 + 1, none⟩ = some (.int .i64 x.tok) ∧ w.cell? ⟨q, off + k * 3 + 2, none⟩ = some (.int .i64 x.unt) := by
  obtain ⟨q, off, rfl, g⟩ := row_one leL_len (by omega) h hk
  exact ⟨q, off, rfl, by simpa using g 0 _ rfl, g 1 _ rfl, g 2 _ rfl⟩
theorem rfCl (t : Int) (w : World) : Calls Try.prog 37 #[.int .i64 t] w fun e w' => e = .returned (.int .i64 (cl t)) ∧ w' = w :=
  (refClamp t w).mono fun e w' h => ⟨h.1, h.2.symm⟩
theorem rfIn (n lo hi : Int) (w : World) : Calls Try.prog 28 #[.int .i64 n, .int .i64 lo, .int .i64 hi] w (SaysB (decide (lo ≤ n ∧ n ≤ hi)) w) := by
  by_cases h1 : lo ≤ n
  · by_cases h2 : n ≤ hi
    · have e : decide (lo ≤ n ∧ n ≤ hi) = true := decide_eq_true ⟨h1, h2⟩
      rw [e]
      clear e
      go_enter Try.func28, Try.ntmps28
      go_wp2_with fail
      go_ret
      exact ⟨rfl, rfl⟩
    · have e : decide (lo ≤ n ∧ n ≤ hi) = false := decide_eq_false (fun h => h2 h.2)
      rw [e]
      clear e
      go_enter Try.func28, Try.ntmps28
      go_wp2_with fail
      go_ret
      exact ⟨rfl, rfl⟩
  · have e : decide (lo ≤ n ∧ n ≤ hi) = false := decide_eq_false (fun h => h1 h.1)
    rw [e]
    clear e
    go_enter Try.func28, Try.ntmps28
    go_wp2_with fail
    go_ret
    exact ⟨rfl, rfl⟩
theorem inYes {n lo hi : Int} (h : lo ≤ n ∧ n ≤ hi) (w : World) : Calls Try.prog 28 #[.int .i64 n, .int .i64 lo, .int .i64 hi] w (SaysB true w) := by
  have := rfIn n lo hi w
  rwa [decide_eq_true h] at this
theorem inNo {n lo hi : Int} (h : ¬ (lo ≤ n ∧ n ≤ hi)) (w : World) : Calls Try.prog 28 #[.int .i64 n, .int .i64 lo, .int .i64 hi] w (SaysB false w) := by
  have := rfIn n lo hi w
  rwa [decide_eq_false h] at this
theorem rfCounts (o k u now : Int) (r : Bool) (hr : r = inF ⟨o, k, u⟩ (cl now)) (w : World) : Calls Try.prog 26 #[.agg #[.int .i64 o, .int .i64 k, .int .i64 u], .int .i64 now] w (TellsB r w) := by
  have HB := Lib.hid (below_al (o := .cells #[.int .i64 o, .int .i64 k, .int .i64 u] 47) (Below.refl w.heap.size w))
  have HC := Lib.hid (fun w' => rfCl now w')
  obtain ⟨t, ht⟩ : ∃ t, t = cl now := ⟨_, rfl⟩
  rw [← ht] at HC hr
  clear ht
  by_cases h1 : 0 < o
  · by_cases h2 : t < u
    · have e : r = true := hr.trans (decide_eq_true ⟨h1, h2⟩)
      subst e
      have h3 : decide (t < u) = true := decide_eq_true h2
      have h4 : decide (0 < o) = true := decide_eq_true h1
      clear hr
      go_enter Try.func26, Try.ntmps26
      go_wp2_with fail
      go_quiet (first | (go_at_call 37; refine Calls.quiet_of_same (HC.out _)))
      go_wp2_with fail
      go_ret
      exact ⟨rfl, below_next HB.out (below_drewN (Below.refl _ _))⟩
    · have e : r = false := hr.trans (decide_eq_false fun h => h2 h.2)
      subst e
      have h3 : decide (t < u) = false := decide_eq_false h2
      have h4 : decide (0 < o) = true := decide_eq_true h1
      clear hr
      go_enter Try.func26, Try.ntmps26
      go_wp2_with fail
      go_quiet (first | (go_at_call 37; refine Calls.quiet_of_same (HC.out _)))
      go_wp2_with fail
      go_ret
      exact ⟨rfl, below_next HB.out (below_drewN (Below.refl _ _))⟩
  · have e : r = false := hr.trans (decide_eq_false fun h => h1 h.1)
    subst e
    have h4 : decide (0 < o) = false := decide_eq_false h1
    clear hr
    go_enter Try.func26, Try.ntmps26
    go_wp2_with fail
    go_quiet (first | (go_at_call 37; refine Calls.quiet_of_same (HC.out _)))
    go_wp2_with fail
    go_ret
    exact ⟨rfl, below_next HB.out (below_drewN (Below.refl _ _))⟩
end Ls
end Go.Proofs.Ytgoapkbpcfbipaa
