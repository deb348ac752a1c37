/- Events in memory; the small functions of the code: amount, Half, ruleOf, leaves, pass. -/
import Derived.Test.YtdfdfdhgggilbaaLoopMath
import Derived.Test.YtdfdfdhgggilbaaGen
import Derived.Test.YtdfdfdhgggilbaaStill
import Derived.BigQuiet
import Derived.RegionTactic
import Derived.BigRegion
import Derived.LoopTactic
import Derived.Lib.MinMax
namespace Go.Proofs.Ytdfdfdhgggilbaa
open Go.RowKit
set_option linter.unusedVariables false
namespace Lp
open Gen
/-- An event's cells, a trip's; as values. -/
abbrev evL (e : Ev) : List Value := [.string e.key, .int .i64 e.at_, .int .i64 e.val]
abbrev evC (e : Ev) : Array Value := #[.string e.key, .int .i64 e.at_, .int .i64 e.val]
abbrev evV (e : Ev) : Value := .agg (evC e)
def trL (t : Tr) : List Value := [.string t.ev.key, .int .i64 t.ev.at_, .int .i64 t.ev.val, .int .i64 (t.n : Int)]
abbrev trC (t : Tr) : Array Value := #[.string t.ev.key, .int .i64 t.ev.at_, .int .i64 t.ev.val, .int .i64 (t.n : Int)]
abbrev trV (t : Tr) : Value := .agg (trC t)
abbrev ruC (L : Int) (F : Nat) : Array Value := #[.int .u64 L, .int .i64 (F : Int)]
abbrev ruV (L : Int) (F : Nat) : Value := .agg (ruC L F)
def SaysU (n : Int) (w : World) (e : Ending) (w' : World) : Prop := e = .returned (.int .u64 n) ∧ w = w'
theorem wrap_i {v : Int} (h : inI v) : IntKind.i64.wrap v = v := by
  unfold inI at h
  simp [IntKind.wrap, IntKind.bits, IntKind.signed]
  omega
theorem lpHalf (v : Int) (hv : inI v) (w : World) : Calls Try.prog 11 #[.int .i64 v] w (SaysI (half v) w) := by
  have h1 := wrap_i (half_in hv)
  unfold half at h1
  clear hv
  go_enter Try.func11, Try.ntmps11
  go_wp2_with fail
  go_ret
  exact ⟨rfl, rfl⟩
theorem lpAmount (v : Int) (hv : inI v) (w : World) : Calls Try.prog 26 #[.int .i64 v] w (SaysU (v.natAbs : Int) w) := by
  have HV := Lib.hid hv
  clear hv
  by_cases h : v < 0
  · have h1 : IntKind.u64.wrap v = v + 18446744073709551616 := by
      have := HV.out; unfold inI at this; simp [IntKind.wrap, IntKind.bits, IntKind.signed]; omega
    have h2 : IntKind.u64.wrap (-(v + 18446744073709551616)) = (v.natAbs : Int) := by
      have := HV.out; unfold inI at this; simp [IntKind.wrap, IntKind.bits, IntKind.signed]; omega
    go_enter Try.func26, Try.ntmps26
    go_wp2_with fail
    go_ret
    exact ⟨rfl, rfl⟩
  · have h1 : IntKind.u64.wrap v = (v.natAbs : Int) := by
      have := HV.out; unfold inI at this; simp [IntKind.wrap, IntKind.bits, IntKind.signed]; omega
    go_enter Try.func26, Try.ntmps26
    go_wp2_with fail
    go_ret
    exact ⟨rfl, rfl⟩
theorem ru_ret {L : Int} {F : Nat} {Post : Ending → World → Prop} {rb : Nat} {w : World} {act : Act} (ht : act.tmps.getD 4 undef = .pointer (some ⟨rb, 0, none⟩)) (hd : act.defers = []) (hl : Lies rb (ruC L F) 49 w) (h : Post (.returned (ruV L F)) w) :
    bodyPost Try.prog Try.f18 Post Exit.ret act w := by
  have c0 : w.cell? ⟨rb, 0, none⟩ = some (.int .u64 L) := hl.cell (j := 0) rfl
  have c1 : w.cell? ⟨rb, 1, none⟩ = some (.int .i64 (F : Int)) := hl.cell (j := 1) rfl
  have ht2 : act.tmps[4]?.getD undef = .pointer (some ⟨rb, 0, none⟩) := by simpa using ht
  exact bodyPost_ret (v := ruV L F) (by simp [results, Try.results18, go_sem, ht2, c0, c1]) hd h
theorem lpRule (l f : Int) (hl : inI l) (w : World) : Calls Try.prog 18 #[.int .i64 l, .int .i64 f] w fun e w' => e = .returned (ruV (limOf l) (fuelOf f)) ∧ Below w.heap.size w w' := by
  have h1 : IntKind.u64.wrap (max l 0) = limOf l := by
    unfold inI at hl; unfold limOf; simp [IntKind.wrap, IntKind.bits, IntKind.signed]; omega
  have h2 : min (max f 0) 40 = (fuelOf f : Int) := by unfold fuelOf; omega
  clear hl
  go_enter Try.func18, Try.ntmps18
  go_wp2_with fail
  exact ru_ret (rb := w.heap.size) rfl rfl (Lies.new w _ _) ⟨rfl, below_al (Below.refl _ _)⟩
theorem lpLeaves (L : Int) (F : Nat) (t : Tr) (hv : inI t.ev.val) (hL : 0 ≤ L ∧ L ≤ 9223372036854775807) (w : World) : Calls Try.prog 23 #[ruV L F, trV t] w (TellsB (leaves L F t) w) := by
  have HA := Lib.hid (fun w => lpAmount t.ev.val hv w)
  obtain ⟨r, hr⟩ : ∃ r, r = leaves L F t := ⟨_, rfl⟩
  have hrr : leaves L F t = decide ((t.ev.val.natAbs : Int) ≤ L ∨ F ≤ t.n) := rfl
  rw [hrr] at hr
  rw [hrr, ← hr]
  clear hrr
  by_cases h : (t.ev.val.natAbs : Int) ≤ L
  · have hrt : r = true := by rw [hr]; simp [h]
    subst hrt
    clear hr hL hv
    have hd : decide ((t.ev.val.natAbs : Int) ≤ L) = true := by simpa using h
    go_enter Try.func23, Try.ntmps23
    go_wp2_with fail
    go_quiet (first | (go_at_call 26; refine Calls.quiet_of_same (still_of (HA.out _))))
    go_wp2_with fail
    go_ret
    exact ⟨rfl, below_drewN (below_al (below_al (Below.refl _ _)))⟩
  · have hrt : r = decide (F ≤ t.n) := by rw [hr]; simp [h]
    have hd : decide ((t.ev.val.natAbs : Int) ≤ L) = false := by simpa using h
    clear hr hL hv h
    go_enter Try.func23, Try.ntmps23
    go_wp2_with fail
    go_quiet (first | (go_at_call 26; refine Calls.quiet_of_same (still_of (HA.out _))))
    go_wp2_with fail
    go_ret
    exact ⟨by rw [hrt]; simp, below_drewN (below_al (below_al (Below.refl _ _)))⟩
end Lp
end Go.Proofs.Ytdfdfdhgggilbaa
