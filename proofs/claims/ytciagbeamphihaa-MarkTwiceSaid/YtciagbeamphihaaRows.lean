/-
  No cell of these rows narrows 'for every input' (looked for: loops, veiled, ifaces, maps, wideKeys, modest, calm, conditions, laid).
  DERIVED. THE GIVEN ROWS OF THIS SEAT. 6 by the template 'for every input the law returns true; each argument reads behind the call as it read before'; 0 by the template 'total and deterministic' (their statements: YtciagbeamphihaaTotals.lean).
  GIVEN WITH THE SEED: the statements are not yours to turn. If you find one false, say at which input.
  Laid BY PROGRAM, IN A SANDBOX (cutbox-rows.mjs): the forced cells as the released guide's own fill.sh prints them over the translation 35a54abc20f22e10… (all of the seat's roots in one cut). By AI agents, Wed Nov 11 2026. No macro, syntax, notation, axiom, sorry.
-/
import Derived.Test.YtciagbeamphihaaChecked
import GoSem.Claim
import GoSem.ClaimJoined
import GoSem.ClaimMapViews
import Derived.JoinedTies
import Derived.KernelRfl
namespace Go.Proofs.Ytciagbeamphihaa
/- THE CELL 'sum', in the pinned program and in every row, IS THE sha256 OF THE DUMP (.gsa) THAT YtciagbeamphihaaProg.lean LOADS. Nothing in Lean hashes anything: it is a label: what it is worth is what the hold of that sum in a sandbox is worth. -/
noncomputable def Try.pinned : Pinned := { name := "ytciagbeamphihaa", sum := "35a54abc20f22e102a8ad99a75646474145bf03ea2bec5f843f45d3a2ecd8a7e", checked := Try.checked }
namespace Rows
def none {H : Type} : Left H := { results := [], args := [] }

/-- 'clepsydralaw10.MarkMakes': WHATEVER THE INPUT: true; the input reads as it did. -/
def markMakesSpec : ChangeSpec := { name := "markMakes", fn := fun _ => fun
  | [d1, d2] => { results := [.lit (.bool true)], args := [d1, d2] }
  | _ => none }
def markMakesRow : OpenClaim := { program := "ytciagbeamphihaa", sum := "35a54abc20f22e102a8ad99a75646474145bf03ea2bec5f843f45d3a2ecd8a7e", func := "clepsydra/clepsydralaw10.MarkMakes", spec := "markMakes", unfollowed := true, recurses := true, apart := false }
def MarkMakesSaid : Prop := markMakesRow.holds Try.pinned (OpenSpec.ofChange markMakesSpec)

/-- ITS FALSE NEIGHBOUR: 'it returns false'. Refute it at one input. -/
def markMakesWrong : ChangeSpec := { name := "markMakes", fn := fun _ => fun
  | [d1, d2] => { results := [.lit (.bool false)], args := [d1, d2] }
  | _ => none }
def MarkMakesWrongFalsely : Prop := markMakesRow.holds Try.pinned (OpenSpec.ofChange markMakesWrong)

/-- 'clepsydralaw10.MarkDoes': WHATEVER THE INPUT: true; the input reads as it did. -/
def markDoesSpec : ChangeSpec := { name := "markDoes", fn := fun _ => fun
  | [d1, d2] => { results := [.lit (.bool true)], args := [d1, d2] }
  | _ => none }
def markDoesRow : OpenClaim := { program := "ytciagbeamphihaa", sum := "35a54abc20f22e102a8ad99a75646474145bf03ea2bec5f843f45d3a2ecd8a7e", func := "clepsydra/clepsydralaw10.MarkDoes", spec := "markDoes", inPlace := ["slices.overlaps[clepsydra/api.Hold]"], unfollowed := true, recurses := true, apart := false }
def MarkDoesSaid : Prop := markDoesRow.holds Try.pinned (OpenSpec.ofChange markDoesSpec)

/-- ITS FALSE NEIGHBOUR: 'it returns false'. Refute it at one input. -/
def markDoesWrong : ChangeSpec := { name := "markDoes", fn := fun _ => fun
  | [d1, d2] => { results := [.lit (.bool false)], args := [d1, d2] }
  | _ => none }
def MarkDoesWrongFalsely : Prop := markDoesRow.holds Try.pinned (OpenSpec.ofChange markDoesWrong)

/-- 'clepsydralaw10.MarkTells': WHATEVER THE INPUT: true; the input reads as it did. -/
def markTellsSpec : ChangeSpec := { name := "markTells", fn := fun _ => fun
  | [d] => { results := [.lit (.bool true)], args := [d] }
  | _ => none }
def markTellsRow : OpenClaim := { program := "ytciagbeamphihaa", sum := "35a54abc20f22e102a8ad99a75646474145bf03ea2bec5f843f45d3a2ecd8a7e", func := "clepsydra/clepsydralaw10.MarkTells", spec := "markTells", unfollowed := true, recurses := true, apart := false }
def MarkTellsSaid : Prop := markTellsRow.holds Try.pinned (OpenSpec.ofChange markTellsSpec)

/-- ITS FALSE NEIGHBOUR: 'it returns false'. Refute it at one input. -/
def markTellsWrong : ChangeSpec := { name := "markTells", fn := fun _ => fun
  | [d] => { results := [.lit (.bool false)], args := [d] }
  | _ => none }
def MarkTellsWrongFalsely : Prop := markTellsRow.holds Try.pinned (OpenSpec.ofChange markTellsWrong)

/-- 'clepsydralaw10.MarkRises': WHATEVER THE INPUT: true; the input reads as it did. -/
def markRisesSpec : ChangeSpec := { name := "markRises", fn := fun _ => fun
  | [d1, d2] => { results := [.lit (.bool true)], args := [d1, d2] }
  | _ => none }
def markRisesRow : OpenClaim := { program := "ytciagbeamphihaa", sum := "35a54abc20f22e102a8ad99a75646474145bf03ea2bec5f843f45d3a2ecd8a7e", func := "clepsydra/clepsydralaw10.MarkRises", spec := "markRises", inPlace := ["slices.overlaps[clepsydra/api.Hold]"], unfollowed := true, recurses := true, apart := false }
def MarkRisesSaid : Prop := markRisesRow.holds Try.pinned (OpenSpec.ofChange markRisesSpec)

/-- ITS FALSE NEIGHBOUR: 'it returns false'. Refute it at one input. -/
def markRisesWrong : ChangeSpec := { name := "markRises", fn := fun _ => fun
  | [d1, d2] => { results := [.lit (.bool false)], args := [d1, d2] }
  | _ => none }
def MarkRisesWrongFalsely : Prop := markRisesRow.holds Try.pinned (OpenSpec.ofChange markRisesWrong)

/-- 'clepsydralaw10.MarkFree': WHATEVER THE INPUT: true; the input reads as it did. -/
def markFreeSpec : ChangeSpec := { name := "markFree", fn := fun _ => fun
  | [d1, d2, d3, d4, d5] => { results := [.lit (.bool true)], args := [d1, d2, d3, d4, d5] }
  | _ => none }
def markFreeRow : OpenClaim := { program := "ytciagbeamphihaa", sum := "35a54abc20f22e102a8ad99a75646474145bf03ea2bec5f843f45d3a2ecd8a7e", func := "clepsydra/clepsydralaw10.MarkFree", spec := "markFree", inPlace := ["slices.overlaps[clepsydra/api.Hold]"], unfollowed := true, recurses := true, apart := false }
def MarkFreeSaid : Prop := markFreeRow.holds Try.pinned (OpenSpec.ofChange markFreeSpec)

/-- ITS FALSE NEIGHBOUR: 'it returns false'. Refute it at one input. -/
def markFreeWrong : ChangeSpec := { name := "markFree", fn := fun _ => fun
  | [d1, d2, d3, d4, d5] => { results := [.lit (.bool false)], args := [d1, d2, d3, d4, d5] }
  | _ => none }
def MarkFreeWrongFalsely : Prop := markFreeRow.holds Try.pinned (OpenSpec.ofChange markFreeWrong)

/-- 'clepsydralaw10.MarkTwice': WHATEVER THE INPUT: true; the input reads as it did. -/
def markTwiceSpec : ChangeSpec := { name := "markTwice", fn := fun _ => fun
  | [d1, d2, d3, d4, d5] => { results := [.lit (.bool true)], args := [d1, d2, d3, d4, d5] }
  | _ => none }
def markTwiceRow : OpenClaim := { program := "ytciagbeamphihaa", sum := "35a54abc20f22e102a8ad99a75646474145bf03ea2bec5f843f45d3a2ecd8a7e", func := "clepsydra/clepsydralaw10.MarkTwice", spec := "markTwice", inPlace := ["slices.overlaps[clepsydra/api.Hold]"], unfollowed := true, recurses := true, apart := false }
def MarkTwiceSaid : Prop := markTwiceRow.holds Try.pinned (OpenSpec.ofChange markTwiceSpec)

/-- ITS FALSE NEIGHBOUR: 'it returns false'. Refute it at one input. -/
def markTwiceWrong : ChangeSpec := { name := "markTwice", fn := fun _ => fun
  | [d1, d2, d3, d4, d5] => { results := [.lit (.bool false)], args := [d1, d2, d3, d4, d5] }
  | _ => none }
def MarkTwiceWrongFalsely : Prop := markTwiceRow.holds Try.pinned (OpenSpec.ofChange markTwiceWrong)

/- THE SECOND FORM. 'bulk': how many values and letters a reading holds, each counted each time it is reached (what is shared counts as often as it is met; a slice's spare places count too). A statement '..UptoSaid' is the law's where the arguments, and the package variables that the reading takes, are together of bulk at most 1048576: NARROWER than '..Said'. Prove '..Said' where nothing that the law and all that it calls make is longer than what came in: it says more and counts as full. Else prove '..UptoSaid'. A law counts once. -/
mutual
def uptoBulk {H : Type} : DataW H → Nat
  | .lit (.string bytes) => bytes.length + 1
  | .lit _ => 1
  | .nil => 1
  | .ptr d => uptoBulk d + 1
  | .slice elems spare => uptoBulkAll elems + uptoBulkAll spare + 1
  | .agg parts => uptoBulkAll parts + 1
  | .iface _ d => uptoBulk d + 1
  | .map entries => uptoBulkEntries entries + 1
  | .held _ => 1
def uptoBulkAll {H : Type} : List (DataW H) → Nat
  | [] => 0
  | d :: r => uptoBulk d + uptoBulkAll r
def uptoBulkEntries {H : Type} : List (Lit × DataW H) → Nat
  | [] => 0
  | x :: r => uptoBulkEntry x + uptoBulkEntries r
def uptoBulkEntry {H : Type} : Lit × DataW H → Nat
  | (.string bytes, d) => bytes.length + uptoBulk d + 1
  | (_, d) => uptoBulk d + 1
 end
def uptoSmall : (H : Type) → List (DataW H) → Bool := fun _ ds => decide (uptoBulkAll ds ≤ 1048576)
def OpenSpec.upto (s : _root_.Go.ChangeSpec) : _root_.Go.OpenSpec := { _root_.Go.OpenSpec.ofChange s with cond := some uptoSmall }

/-- 'clepsydralaw10.MarkMakes', WHERE WHAT IT READS IS OF BULK AT MOST 1048576: true; the input reads as it did. -/
def markMakesUptoRow : OpenClaim := { program := "ytciagbeamphihaa", sum := "35a54abc20f22e102a8ad99a75646474145bf03ea2bec5f843f45d3a2ecd8a7e", func := "clepsydra/clepsydralaw10.MarkMakes", spec := "markMakes", unfollowed := true, recurses := true, apart := false, narrowed := true }
def MarkMakesUptoSaid : Prop := markMakesUptoRow.holds Try.pinned (OpenSpec.upto markMakesSpec)

/-- 'clepsydralaw10.MarkDoes', WHERE WHAT IT READS IS OF BULK AT MOST 1048576: true; the input reads as it did. -/
def markDoesUptoRow : OpenClaim := { program := "ytciagbeamphihaa", sum := "35a54abc20f22e102a8ad99a75646474145bf03ea2bec5f843f45d3a2ecd8a7e", func := "clepsydra/clepsydralaw10.MarkDoes", spec := "markDoes", inPlace := ["slices.overlaps[clepsydra/api.Hold]"], unfollowed := true, recurses := true, apart := false, narrowed := true }
def MarkDoesUptoSaid : Prop := markDoesUptoRow.holds Try.pinned (OpenSpec.upto markDoesSpec)

/-- 'clepsydralaw10.MarkTells', WHERE WHAT IT READS IS OF BULK AT MOST 1048576: true; the input reads as it did. -/
def markTellsUptoRow : OpenClaim := { program := "ytciagbeamphihaa", sum := "35a54abc20f22e102a8ad99a75646474145bf03ea2bec5f843f45d3a2ecd8a7e", func := "clepsydra/clepsydralaw10.MarkTells", spec := "markTells", unfollowed := true, recurses := true, apart := false, narrowed := true }
def MarkTellsUptoSaid : Prop := markTellsUptoRow.holds Try.pinned (OpenSpec.upto markTellsSpec)

/-- 'clepsydralaw10.MarkRises', WHERE WHAT IT READS IS OF BULK AT MOST 1048576: true; the input reads as it did. -/
def markRisesUptoRow : OpenClaim := { program := "ytciagbeamphihaa", sum := "35a54abc20f22e102a8ad99a75646474145bf03ea2bec5f843f45d3a2ecd8a7e", func := "clepsydra/clepsydralaw10.MarkRises", spec := "markRises", inPlace := ["slices.overlaps[clepsydra/api.Hold]"], unfollowed := true, recurses := true, apart := false, narrowed := true }
def MarkRisesUptoSaid : Prop := markRisesUptoRow.holds Try.pinned (OpenSpec.upto markRisesSpec)

/-- 'clepsydralaw10.MarkFree', WHERE WHAT IT READS IS OF BULK AT MOST 1048576: true; the input reads as it did. -/
def markFreeUptoRow : OpenClaim := { program := "ytciagbeamphihaa", sum := "35a54abc20f22e102a8ad99a75646474145bf03ea2bec5f843f45d3a2ecd8a7e", func := "clepsydra/clepsydralaw10.MarkFree", spec := "markFree", inPlace := ["slices.overlaps[clepsydra/api.Hold]"], unfollowed := true, recurses := true, apart := false, narrowed := true }
def MarkFreeUptoSaid : Prop := markFreeUptoRow.holds Try.pinned (OpenSpec.upto markFreeSpec)

/-- 'clepsydralaw10.MarkTwice', WHERE WHAT IT READS IS OF BULK AT MOST 1048576: true; the input reads as it did. -/
def markTwiceUptoRow : OpenClaim := { program := "ytciagbeamphihaa", sum := "35a54abc20f22e102a8ad99a75646474145bf03ea2bec5f843f45d3a2ecd8a7e", func := "clepsydra/clepsydralaw10.MarkTwice", spec := "markTwice", inPlace := ["slices.overlaps[clepsydra/api.Hold]"], unfollowed := true, recurses := true, apart := false, narrowed := true }
def MarkTwiceUptoSaid : Prop := markTwiceUptoRow.holds Try.pinned (OpenSpec.upto markTwiceSpec)

end Rows
end Go.Proofs.Ytciagbeamphihaa
