/- Contracts of package tick and of its reference: what each call answers, for every input. -/
import Derived.Test.YtgoapkbpcfbipaaRows
import Derived.WalkKit
import Derived.ProofKit
import Derived.OpenShut
import Derived.Lib.Hide
namespace Go.Proofs.Ytgoapkbpcfbipaa
open Go.RowKit
set_option linter.unusedVariables false
namespace Tick
def F : Int := 1099511627776
def cl (t : Int) : Int := if t < 0 then 0 else if 1099511627776 < t then 1099511627776 else t
theorem cl_lo (t : Int) : 0 ≤ cl t := by unfold cl; repeat (split <;> try omega)
theorem cl_hi (t : Int) : cl t ≤ 1099511627776 := by unfold cl; repeat (split <;> try omega)
theorem cl_neg {t : Int} (h : t < 0) : cl t = 0 := by unfold cl; rw [if_pos h]
theorem cl_big {t : Int} (h : 1099511627776 < t) : cl t = 1099511627776 := by unfold cl; rw [if_neg (by omega), if_pos h]
theorem cl_mid {t : Int} (h : 0 ≤ t) (h' : t ≤ 1099511627776) : cl t = t := by unfold cl; rw [if_neg (by omega), if_neg (by omega)]
def addT (a b : Int) : Int := cl (cl a + cl b)
def subT (a b : Int) : Int := cl (cl a - cl b)
def floorT (t s : Int) : Int := if s < 1 ∨ 1099511627776 < s then 0 else cl t - cl t % s
theorem ret_int {k : IntKind} {a b : Int} (h : a = b) : Ending.returned (.int k a) = .returned (.int k b) := by rw [h]
end Tick
open Tick

theorem tickBefore (a b : Int) (w : World) : Calls Try.prog 50 #[.int .i64 a, .int .i64 b] w fun e w' => e = .returned (.bool (decide (a < b))) ∧ w = w' := by
  go_enter Try.func50, Try.ntmps50
  go_wp2
  go_ret
  exact ⟨rfl, rfl⟩

theorem tickAfter (a b : Int) (w : World) : Calls Try.prog 51 #[.int .i64 a, .int .i64 b] w fun e w' => e = .returned (.bool (decide (b < a))) ∧ w = w' := by
  go_enter Try.func51, Try.ntmps51
  go_wp2
  go_ret
  exact ⟨rfl, rfl⟩

def fnBefore : Value := .func (.func 50) #[] #[]
def fnAfter : Value := .func (.func 51) #[] #[]

theorem tickClampInner (t : Int) (w : World) : Calls Try.prog 47 #[.int .i64 t] w fun e w' => e = .returned (.int .i64 (cl t)) ∧ w = w' := by
  rcases Int.lt_or_le t 0 with h | h
  · have hc := Lib.hid (cl_neg h)
    go_enter Try.func47, Try.ntmps47
    go_wp2
    go_ret
    exact ⟨by rw [hc.out]; rfl, rfl⟩
  · rcases Int.lt_or_le 1099511627776 t with h' | h'
    · have hc := Lib.hid (cl_big h')
      go_enter Try.func47, Try.ntmps47
      go_wp2
      go_ret
      exact ⟨by rw [hc.out]; rfl, rfl⟩
    · have hc := Lib.hid (cl_mid h h')
      go_enter Try.func47, Try.ntmps47
      go_wp2
      go_ret
      exact ⟨by rw [hc.out]; rfl, rfl⟩

theorem tickClamp (t : Int) (w : World) : Calls Try.prog 42 #[.int .i64 t] w fun e w' => e = .returned (.int .i64 (cl t)) ∧ w = w' := by
  go_enter Try.func42, Try.ntmps42
  go_wp2_with (go_at_call 47; refine (tickClampInner _ _).mono ?_; rintro e w' ⟨rfl, rfl⟩)
  go_ret
  exact ⟨rfl, rfl⟩

theorem refClamp (t : Int) (w : World) : Calls Try.prog 37 #[.int .i64 t] w fun e w' => e = .returned (.int .i64 (cl t)) ∧ w = w' := by
  rcases Int.lt_or_le t 0 with h | h
  · have hc := Lib.hid (cl_neg h)
    go_enter Try.func37, Try.ntmps37
    go_wp2
    go_ret
    exact ⟨by rw [hc.out]; rfl, rfl⟩
  · rcases Int.lt_or_le 1099511627776 t with h' | h'
    · have hc := Lib.hid (cl_big h')
      go_enter Try.func37, Try.ntmps37
      go_wp2
      go_ret
      exact ⟨by rw [hc.out]; rfl, rfl⟩
    · have hc := Lib.hid (cl_mid h h')
      go_enter Try.func37, Try.ntmps37
      go_wp2
      go_ret
      exact ⟨by rw [hc.out]; rfl, rfl⟩

theorem tickAdd (a b : Int) (w : World) : Calls Try.prog 33 #[.int .i64 a, .int .i64 b] w fun e w' => e = .returned (.int .i64 (addT a b)) ∧ w = w' := by
  have h1 := cl_lo a
  have h2 := cl_hi a
  have h3 := cl_lo b
  have h4 := cl_hi b
  go_enter Try.func33, Try.ntmps33
  go_wp2_with (go_at_call 42; refine (tickClamp _ _).mono ?_; rintro e w' ⟨rfl, rfl⟩)
  go_ret
  exact ⟨rfl, rfl⟩

theorem refAdd (a b : Int) (w : World) : Calls Try.prog 36 #[.int .i64 a, .int .i64 b] w fun e w' => e = .returned (.int .i64 (addT a b)) ∧ w = w' := by
  have h1 := cl_lo a
  have h2 := cl_hi a
  have h3 := cl_lo b
  have h4 := cl_hi b
  by_cases h : 1099511627776 - cl b < cl a
  · have hc : Hid (addT a b = 1099511627776) := Lib.hid (cl_big (by omega))
    go_enter Try.func36, Try.ntmps36
    go_wp2_with (go_at_call 37; refine (refClamp _ _).mono ?_; rintro e w' ⟨rfl, rfl⟩)
    go_ret
    exact ⟨by rw [hc.out]; rfl, rfl⟩
  · have hc : Hid (addT a b = cl a + cl b) := Lib.hid (cl_mid (by omega) (by omega))
    go_enter Try.func36, Try.ntmps36
    go_wp2_with (go_at_call 37; refine (refClamp _ _).mono ?_; rintro e w' ⟨rfl, rfl⟩)
    go_ret
    exact ⟨by rw [hc.out]; rfl, rfl⟩

theorem floor_lo {x s : Int} (hx : 0 ≤ x) (hs : 1 ≤ s) : 0 ≤ x % s ∧ x % s ≤ x ∧ x % s < s := by
  refine ⟨Int.emod_nonneg _ (by omega), ?_, Int.emod_lt_of_pos _ (by omega)⟩
  have h := Int.mul_ediv_add_emod x s
  have h2 : 0 ≤ x / s := Int.ediv_nonneg hx (by omega)
  have h3 : 0 ≤ s * (x / s) := Int.mul_nonneg (by omega) h2
  omega
theorem div_mul {x s : Int} (hx : 0 ≤ x) (hs : 1 ≤ s) : x / s * s = x - x % s ∧ 0 ≤ x / s ∧ x / s ≤ x := by
  have h := Int.mul_ediv_add_emod x s
  have h1 : s * (x / s) = x / s * s := Int.mul_comm _ _
  refine ⟨by omega, Int.ediv_nonneg hx (by omega), Int.ediv_le_self _ hx⟩

end Go.Proofs.Ytgoapkbpcfbipaa
