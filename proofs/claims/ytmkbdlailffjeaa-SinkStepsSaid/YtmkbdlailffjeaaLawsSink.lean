/- The laws of package sink, from their walks. -/
import Derived.Test.YtmkbdlailffjeaaSinkP
import Derived.Test.YtmkbdlailffjeaaSinkB
import Derived.Test.YtmkbdlailffjeaaSinkF
import Derived.Test.YtmkbdlailffjeaaSinkG
import Derived.Test.YtmkbdlailffjeaaLift
namespace Go.Proofs.Ytmkbdlailffjeaa
open Go.ChangeShapes Go.WideShapes Go.ChangeAt Go.RowKit
set_option linter.unusedVariables false
theorem lawSinkAdds : Lift.Owes 3 [25, 29, 3] := by
  intro H enc W base args ds ps hval hA _ hsz
  obtain ⟨v0, v1, v2, d0, d1, d2, p0, p1, p2, rfl, rfl, rfl, h0, h1, h2⟩ := trodAll_three hA
  obtain ⟨s, no, ns, nu, O, cO, S, cS, U, cU, rfl, hs, hl⟩ := Sk.openSink (hval 0 _ v0 rfl rfl) h0 (Sk.light_arg hsz (j := 0) rfl rfl)
  obtain ⟨r, rfl⟩ := Sk.openResult (hval 1 _ v1 rfl rfl) h1
  obtain ⟨n, rfl, _, _, _⟩ := open_int Try.underlying3 (hval 2 _ v2 rfl rfl) h2
  exact Sk.walkAdds hs hl r n
theorem lawSinkCommits : Lift.Owes 4 [25, 3] := by
  intro H enc W base args ds ps hval hA _ hsz
  obtain ⟨v0, v1, d0, d1, p0, p1, rfl, rfl, rfl, h0, h1⟩ := trodAll_two hA
  obtain ⟨s, no, ns, nu, O, cO, S, cS, U, cU, rfl, hs, hl⟩ := Sk.openSink (hval 0 _ v0 rfl rfl) h0 (Sk.light_arg hsz (j := 0) rfl rfl)
  obtain ⟨n, rfl, _, _, _⟩ := open_int Try.underlying3 (hval 1 _ v1 rfl rfl) h1
  exact Sk.walkCommits hs hl n
theorem lawSinkAgain : Lift.Owes 6 [25, 3, 3] := by
  intro H enc W base args ds ps hval hA _ hsz
  obtain ⟨v0, v1, v2, d0, d1, d2, p0, p1, p2, rfl, rfl, rfl, h0, h1, h2⟩ := trodAll_three hA
  obtain ⟨s, no, ns, nu, O, cO, S, cS, U, cU, rfl, hs, hl⟩ := Sk.openSink (hval 0 _ v0 rfl rfl) h0 (Sk.light_arg hsz (j := 0) rfl rfl)
  obtain ⟨n, rfl, _, _, _⟩ := open_int Try.underlying3 (hval 1 _ v1 rfl rfl) h1
  obtain ⟨m, rfl, _, _, _⟩ := open_int Try.underlying3 (hval 2 _ v2 rfl rfl) h2
  exact Sk.walkAgain hs hl n m
theorem lawSinkSteps : Lift.Owes 7 [25, 3] := by
  intro H enc W base args ds ps hval hA _ hsz
  obtain ⟨v0, v1, d0, d1, p0, p1, rfl, rfl, rfl, h0, h1⟩ := trodAll_two hA
  obtain ⟨s, no, ns, nu, O, cO, S, cS, U, cU, rfl, hs, hl⟩ := Sk.openSink (hval 0 _ v0 rfl rfl) h0 (Sk.light_arg hsz (j := 0) rfl rfl)
  obtain ⟨n, rfl, _, _, _⟩ := open_int Try.underlying3 (hval 1 _ v1 rfl rfl) h1
  exact Sk.walkSteps hs hl n
end Go.Proofs.Ytmkbdlailffjeaa
