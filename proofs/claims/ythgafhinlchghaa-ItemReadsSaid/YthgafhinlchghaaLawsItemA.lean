/- Words for the item laws. -/
import Derived.Test.YthgafhinlchghaaItemOpen
import Derived.Test.YthgafhinlchghaaLift
namespace Go.Proofs.Ythgafhinlchghaa
open Go.ChangeShapes Go.WideShapes Go.ChangeAt Go.RowKit
open Itm Vlq
set_option linter.unusedVariables false
def Yes (w : World) (e : Ending) (w' : World) : Prop := e = .returned (.bool true) ∧ Below w.heap.size w w'
theorem right_idle : right (bare 3) = true := by simp [right, eqI, eqE, eqR, eqS]
theorem itAlive (w : World) : Calls Try.prog 9 #[] w (Tells true w) := by
  have HR := Lib.hid (fun w => itRight (bare 3) w)
  have hc := Lib.hid right_idle
  go_enter Try.func9, Try.ntmps9
  go_wp2_with fail
  refine (HR.out _).mono ?_
  rw [hc.out]
  rintro e w2 ⟨rfl, hb⟩
  go_wp2_with fail
  go_ret
  exact ⟨rfl, hb⟩
end Go.Proofs.Ythgafhinlchghaa
