/- The law SinkOnce, from its walk. -/
import Derived.Test.YtmkbdlailffjeaaSinkP
import Derived.Test.YtmkbdlailffjeaaSinkOb
import Derived.Test.YtmkbdlailffjeaaLift
namespace Go.Proofs.Ytmkbdlailffjeaa
open Go.ChangeShapes Go.WideShapes Go.ChangeAt Go.RowKit
set_option linter.unusedVariables false
theorem lawSinkOnce : Lift.Owes 5 [40] := by
  intro H enc W base args ds ps hval hA _ _
  obtain ⟨v0, d0, rfl, rfl, h0⟩ := trodAll_one hA
  obtain ⟨l, A, c, rfl, hl, hR⟩ := Sk.openActsK (hval 0 _ v0 rfl rfl) h0
  exact Sk.walkOnce l l.length rfl A c W hR hl
end Go.Proofs.Ytmkbdlailffjeaa
