/- The laws of package store, from their walks. -/
import Derived.Test.YtpjgdpdgfchhkaaStoreG
import Derived.Test.YtpjgdpdgfchhkaaLift
namespace Go.Proofs.Ytpjgdpdgfchhkaa
open Go.ChangeShapes Go.WideShapes Go.ChangeAt Go.RowKit
set_option linter.unusedVariables false
theorem lawStoreAgain : Lift.Owes 8 [24] := by
  intro H enc W base args ds ps hval hA _ _
  obtain ⟨v0, d0, rfl, rfl, h0⟩ := trodAll_one hA
  obtain ⟨cs, fs, dn, A, c, B, d, rfl, hc, hd, _, _, hR, hB⟩ := So.openStore (hval 0 _ v0 rfl rfl) h0
  exact So.walkAgain cs fs dn A c B d W hR hB hc hd
theorem lawStoreReads : Lift.Owes 7 [24, 9, 9] := by
  intro H enc W base args ds ps hval hA _ _
  obtain ⟨v0, v1, v2, d0, d1, d2, p0, p1, p2, rfl, rfl, rfl, h0, h1, h2⟩ := trodAll_three hA
  obtain ⟨cs, fs, dn, A, c, B, d, rfl, hc, hd, _, _, hR, hB⟩ := So.openStore (hval 0 _ v0 rfl rfl) h0
  obtain ⟨s1, rfl⟩ := So.openStr (hval 1 _ v1 rfl rfl) h1
  obtain ⟨s2, rfl⟩ := So.openStr (hval 2 _ v2 rfl rfl) h2
  exact So.walkReads cs fs dn s1 s2 A c B d W hR hB hc hd
theorem lawStoreDoes : Lift.Owes 3 [24, 9, 9] := by
  intro H enc W base args ds ps hval hA _ _
  obtain ⟨v0, v1, v2, d0, d1, d2, p0, p1, p2, rfl, rfl, rfl, h0, h1, h2⟩ := trodAll_three hA
  obtain ⟨cs, fs, dn, A, c, B, d, rfl, hc, hd, _, _, hR, hB⟩ := So.openStore (hval 0 _ v0 rfl rfl) h0
  obtain ⟨s1, rfl⟩ := So.openStr (hval 1 _ v1 rfl rfl) h1
  obtain ⟨s2, rfl⟩ := So.openStr (hval 2 _ v2 rfl rfl) h2
  exact So.walkDoes cs fs dn s1 s2 A c B d W hR hB hc hd
theorem lawStoreBatches : Lift.Owes 4 [24, 22, 3] := by
  intro H enc W base args ds ps hval hA _ _
  obtain ⟨v0, v1, v2, d0, d1, d2, p0, p1, p2, rfl, rfl, rfl, h0, h1, h2⟩ := trodAll_three hA
  obtain ⟨cs, fs, dn, A, c, B, d, rfl, hc, hd, _, _, hR, hB⟩ := So.openStore (hval 0 _ v0 rfl rfl) h0
  obtain ⟨xs, C, e, rfl, hce, hC⟩ := So.openCells (hval 1 _ v1 rfl rfl) h1
  obtain ⟨left, rfl, _, _, _⟩ := open_int Try.underlying3 (hval 2 _ v2 rfl rfl) h2
  exact So.walkBatches cs fs xs dn left A c B d C e W hR hB hC hc hd hce
theorem lawStoreWhole : Lift.Owes 5 [24, 22, 3] := by
  intro H enc W base args ds ps hval hA _ _
  obtain ⟨v0, v1, v2, d0, d1, d2, p0, p1, p2, rfl, rfl, rfl, h0, h1, h2⟩ := trodAll_three hA
  obtain ⟨cs, fs, dn, A, c, B, d, rfl, hc, hd, _, _, hR, hB⟩ := So.openStore (hval 0 _ v0 rfl rfl) h0
  obtain ⟨xs, C, e, rfl, hce, hC⟩ := So.openCells (hval 1 _ v1 rfl rfl) h1
  obtain ⟨left, rfl, _, _, _⟩ := open_int Try.underlying3 (hval 2 _ v2 rfl rfl) h2
  exact So.walkWhole cs fs xs dn left A c B d C e W hR hB hC hc hd hce
theorem lawStorePlays : Lift.Owes 6 [39] := by
  intro H enc W base args ds ps hval hA _ _
  obtain ⟨v0, d0, rfl, rfl, h0⟩ := trodAll_one hA
  obtain ⟨l, T, e, rfl, hl, hT⟩ := So.openTurns (hval 0 _ v0 rfl rfl) h0
  exact So.walkPlays W l T e hT hl
end Go.Proofs.Ytpjgdpdgfchhkaa
