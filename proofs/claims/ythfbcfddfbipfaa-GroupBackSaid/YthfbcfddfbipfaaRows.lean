/-
  No cell of these rows narrows 'for every input' (looked for: loops, veiled, ifaces, maps, wideKeys, modest, calm, conditions, laid).
  DERIVED. THE GIVEN ROWS OF THIS SEAT. 7 by the template 'for every input the law returns true; each argument reads behind the call as it read before'; 0 by the template 'total and deterministic' (their statements: YthfbcfddfbipfaaTotals.lean).
  GIVEN WITH THE SEED: the statements are not yours to turn. If you find one false, say at which input.
  Laid BY PROGRAM, IN A SANDBOX (cutbox-rows.mjs): the forced cells as the released guide's own fill.sh prints them over the translation 63c9e30a7c7866b1… (all of the seat's roots in one cut). By AI agents, Wed Nov 11 2026. No macro, syntax, notation, axiom, sorry.
-/
import Derived.Test.YthfbcfddfbipfaaChecked
import GoSem.Claim
import GoSem.ClaimJoined
import GoSem.ClaimMapViews
import Derived.JoinedTies
import Derived.KernelRfl
namespace Go.Proofs.Ythfbcfddfbipfaa
/- THE CELL 'sum', in the pinned program and in every row, IS THE sha256 OF THE DUMP (.gsa) THAT YthfbcfddfbipfaaProg.lean LOADS. Nothing in Lean hashes anything: it is a label: what it is worth is what the hold of that sum in a sandbox is worth. -/
noncomputable def Try.pinned : Pinned := { name := "ythfbcfddfbipfaa", sum := "63c9e30a7c7866b1c924d601ade8a613636a65762330aca86551adceacdcb14a", checked := Try.checked }
namespace Rows
def none {H : Type} : Left H := { results := [], args := [] }

/-- 'clepsydralaw09.GroupTakes': WHATEVER THE INPUT: true; the input reads as it did. -/
def groupTakesSpec : ChangeSpec := { name := "groupTakes", fn := fun _ => fun
  | [d1, d2, d3] => { results := [.lit (.bool true)], args := [d1, d2, d3] }
  | _ => none }
def groupTakesRow : OpenClaim := { program := "ythfbcfddfbipfaa", sum := "63c9e30a7c7866b1c924d601ade8a613636a65762330aca86551adceacdcb14a", func := "clepsydra/clepsydralaw09.GroupTakes", spec := "groupTakes", unfollowed := true, recurses := true, apart := false }
def GroupTakesSaid : Prop := groupTakesRow.holds Try.pinned (OpenSpec.ofChange groupTakesSpec)

/-- ITS FALSE NEIGHBOUR: 'it returns false'. Refute it at one input. -/
def groupTakesWrong : ChangeSpec := { name := "groupTakes", fn := fun _ => fun
  | [d1, d2, d3] => { results := [.lit (.bool false)], args := [d1, d2, d3] }
  | _ => none }
def GroupTakesWrongFalsely : Prop := groupTakesRow.holds Try.pinned (OpenSpec.ofChange groupTakesWrong)

/-- 'clepsydralaw09.GroupAdvances': WHATEVER THE INPUT: true; the input reads as it did. -/
def groupAdvancesSpec : ChangeSpec := { name := "groupAdvances", fn := fun _ => fun
  | [d1, d2, d3] => { results := [.lit (.bool true)], args := [d1, d2, d3] }
  | _ => none }
def groupAdvancesRow : OpenClaim := { program := "ythfbcfddfbipfaa", sum := "63c9e30a7c7866b1c924d601ade8a613636a65762330aca86551adceacdcb14a", func := "clepsydra/clepsydralaw09.GroupAdvances", spec := "groupAdvances", unfollowed := true, recurses := true, apart := false }
def GroupAdvancesSaid : Prop := groupAdvancesRow.holds Try.pinned (OpenSpec.ofChange groupAdvancesSpec)

/-- ITS FALSE NEIGHBOUR: 'it returns false'. Refute it at one input. -/
def groupAdvancesWrong : ChangeSpec := { name := "groupAdvances", fn := fun _ => fun
  | [d1, d2, d3] => { results := [.lit (.bool false)], args := [d1, d2, d3] }
  | _ => none }
def GroupAdvancesWrongFalsely : Prop := groupAdvancesRow.holds Try.pinned (OpenSpec.ofChange groupAdvancesWrong)

/-- 'clepsydralaw09.GroupBytes': WHATEVER THE INPUT: true; the input reads as it did. -/
def groupBytesSpec : ChangeSpec := { name := "groupBytes", fn := fun _ => fun
  | [d1, d2] => { results := [.lit (.bool true)], args := [d1, d2] }
  | _ => none }
def groupBytesRow : OpenClaim := { program := "ythfbcfddfbipfaa", sum := "63c9e30a7c7866b1c924d601ade8a613636a65762330aca86551adceacdcb14a", func := "clepsydra/clepsydralaw09.GroupBytes", spec := "groupBytes", inPlace := ["internal/abi.NoEscape"], unfollowed := true, recurses := true, apart := false }
def GroupBytesSaid : Prop := groupBytesRow.holds Try.pinned (OpenSpec.ofChange groupBytesSpec)

/-- ITS FALSE NEIGHBOUR: 'it returns false'. Refute it at one input. -/
def groupBytesWrong : ChangeSpec := { name := "groupBytes", fn := fun _ => fun
  | [d1, d2] => { results := [.lit (.bool false)], args := [d1, d2] }
  | _ => none }
def GroupBytesWrongFalsely : Prop := groupBytesRow.holds Try.pinned (OpenSpec.ofChange groupBytesWrong)

/-- 'clepsydralaw09.GroupBack': WHATEVER THE INPUT: true; the input reads as it did. -/
def groupBackSpec : ChangeSpec := { name := "groupBack", fn := fun _ => fun
  | [d1, d2] => { results := [.lit (.bool true)], args := [d1, d2] }
  | _ => none }
def groupBackRow : OpenClaim := { program := "ythfbcfddfbipfaa", sum := "63c9e30a7c7866b1c924d601ade8a613636a65762330aca86551adceacdcb14a", func := "clepsydra/clepsydralaw09.GroupBack", spec := "groupBack", inPlace := ["internal/abi.NoEscape"], unfollowed := true, recurses := true, apart := false }
def GroupBackSaid : Prop := groupBackRow.holds Try.pinned (OpenSpec.ofChange groupBackSpec)

/-- ITS FALSE NEIGHBOUR: 'it returns false'. Refute it at one input. -/
def groupBackWrong : ChangeSpec := { name := "groupBack", fn := fun _ => fun
  | [d1, d2] => { results := [.lit (.bool false)], args := [d1, d2] }
  | _ => none }
def GroupBackWrongFalsely : Prop := groupBackRow.holds Try.pinned (OpenSpec.ofChange groupBackWrong)

/-- 'clepsydralaw09.GroupOrder': WHATEVER THE INPUT: true; the input reads as it did. -/
def groupOrderSpec : ChangeSpec := { name := "groupOrder", fn := fun _ => fun
  | [d1, d2, d3, d4, d5] => { results := [.lit (.bool true)], args := [d1, d2, d3, d4, d5] }
  | _ => none }
def groupOrderRow : OpenClaim := { program := "ythfbcfddfbipfaa", sum := "63c9e30a7c7866b1c924d601ade8a613636a65762330aca86551adceacdcb14a", func := "clepsydra/clepsydralaw09.GroupOrder", spec := "groupOrder", unfollowed := true, recurses := true, apart := false }
def GroupOrderSaid : Prop := groupOrderRow.holds Try.pinned (OpenSpec.ofChange groupOrderSpec)

/-- ITS FALSE NEIGHBOUR: 'it returns false'. Refute it at one input. -/
def groupOrderWrong : ChangeSpec := { name := "groupOrder", fn := fun _ => fun
  | [d1, d2, d3, d4, d5] => { results := [.lit (.bool false)], args := [d1, d2, d3, d4, d5] }
  | _ => none }
def GroupOrderWrongFalsely : Prop := groupOrderRow.holds Try.pinned (OpenSpec.ofChange groupOrderWrong)

/-- 'clepsydralaw09.GroupSteps': WHATEVER THE INPUT: true; the input reads as it did. -/
def groupStepsSpec : ChangeSpec := { name := "groupSteps", fn := fun _ => fun
  | [d1, d2, d3, d4] => { results := [.lit (.bool true)], args := [d1, d2, d3, d4] }
  | _ => none }
def groupStepsRow : OpenClaim := { program := "ythfbcfddfbipfaa", sum := "63c9e30a7c7866b1c924d601ade8a613636a65762330aca86551adceacdcb14a", func := "clepsydra/clepsydralaw09.GroupSteps", spec := "groupSteps", unfollowed := true, recurses := true, apart := false }
def GroupStepsSaid : Prop := groupStepsRow.holds Try.pinned (OpenSpec.ofChange groupStepsSpec)

/-- ITS FALSE NEIGHBOUR: 'it returns false'. Refute it at one input. -/
def groupStepsWrong : ChangeSpec := { name := "groupSteps", fn := fun _ => fun
  | [d1, d2, d3, d4] => { results := [.lit (.bool false)], args := [d1, d2, d3, d4] }
  | _ => none }
def GroupStepsWrongFalsely : Prop := groupStepsRow.holds Try.pinned (OpenSpec.ofChange groupStepsWrong)

/-- 'clepsydralaw09.GroupWhole': WHATEVER THE INPUT: true; the input reads as it did. -/
def groupWholeSpec : ChangeSpec := { name := "groupWhole", fn := fun _ => fun
  | [d1, d2, d3] => { results := [.lit (.bool true)], args := [d1, d2, d3] }
  | _ => none }
def groupWholeRow : OpenClaim := { program := "ythfbcfddfbipfaa", sum := "63c9e30a7c7866b1c924d601ade8a613636a65762330aca86551adceacdcb14a", func := "clepsydra/clepsydralaw09.GroupWhole", spec := "groupWhole", unfollowed := true, recurses := true, apart := false }
def GroupWholeSaid : Prop := groupWholeRow.holds Try.pinned (OpenSpec.ofChange groupWholeSpec)

/-- ITS FALSE NEIGHBOUR: 'it returns false'. Refute it at one input. -/
def groupWholeWrong : ChangeSpec := { name := "groupWhole", fn := fun _ => fun
  | [d1, d2, d3] => { results := [.lit (.bool false)], args := [d1, d2, d3] }
  | _ => none }
def GroupWholeWrongFalsely : Prop := groupWholeRow.holds Try.pinned (OpenSpec.ofChange groupWholeWrong)

/- THE SECOND FORM. 'bulk': how many values and letters a reading holds, each counted each time it is reached (what is shared counts as often as it is met; a slice's spare places count too). A statement '..UptoSaid' is the law's where the arguments, and the package variables that the reading takes, are together of bulk at most 1048576: NARROWER than '..Said'. Prove '..Said' where nothing that the law and all that it calls make is longer than what came in: it says more and counts as full. Else prove '..UptoSaid'. A law counts once. -/
mutual
def uptoBulk {H : Type} : DataW H → Nat
  | .lit (.string bytes) => bytes.length + 1
  | .lit _ => 1
  | .nil => 1
  | .ptr d => uptoBulk d + 1
  | .slice elems spare => uptoBulkAll elems + uptoBulkAll spare + 1
  | .agg parts => uptoBulkAll parts + 1
  | .iface _ d => uptoBulk d + 1
  | .map entries => uptoBulkEntries entries + 1
  | .held _ => 1
def uptoBulkAll {H : Type} : List (DataW H) → Nat
  | [] => 0
  | d :: r => uptoBulk d + uptoBulkAll r
def uptoBulkEntries {H : Type} : List (Lit × DataW H) → Nat
  | [] => 0
  | x :: r => uptoBulkEntry x + uptoBulkEntries r
def uptoBulkEntry {H : Type} : Lit × DataW H → Nat
  | (.string bytes, d) => bytes.length + uptoBulk d + 1
  | (_, d) => uptoBulk d + 1
 end
def uptoSmall : (H : Type) → List (DataW H) → Bool := fun _ ds => decide (uptoBulkAll ds ≤ 1048576)
def OpenSpec.upto (s : _root_.Go.ChangeSpec) : _root_.Go.OpenSpec := { _root_.Go.OpenSpec.ofChange s with cond := some uptoSmall }

/-- 'clepsydralaw09.GroupTakes', WHERE WHAT IT READS IS OF BULK AT MOST 1048576: true; the input reads as it did. -/
def groupTakesUptoRow : OpenClaim := { program := "ythfbcfddfbipfaa", sum := "63c9e30a7c7866b1c924d601ade8a613636a65762330aca86551adceacdcb14a", func := "clepsydra/clepsydralaw09.GroupTakes", spec := "groupTakes", unfollowed := true, recurses := true, apart := false, narrowed := true }
def GroupTakesUptoSaid : Prop := groupTakesUptoRow.holds Try.pinned (OpenSpec.upto groupTakesSpec)

/-- 'clepsydralaw09.GroupAdvances', WHERE WHAT IT READS IS OF BULK AT MOST 1048576: true; the input reads as it did. -/
def groupAdvancesUptoRow : OpenClaim := { program := "ythfbcfddfbipfaa", sum := "63c9e30a7c7866b1c924d601ade8a613636a65762330aca86551adceacdcb14a", func := "clepsydra/clepsydralaw09.GroupAdvances", spec := "groupAdvances", unfollowed := true, recurses := true, apart := false, narrowed := true }
def GroupAdvancesUptoSaid : Prop := groupAdvancesUptoRow.holds Try.pinned (OpenSpec.upto groupAdvancesSpec)

/-- 'clepsydralaw09.GroupBytes', WHERE WHAT IT READS IS OF BULK AT MOST 1048576: true; the input reads as it did. -/
def groupBytesUptoRow : OpenClaim := { program := "ythfbcfddfbipfaa", sum := "63c9e30a7c7866b1c924d601ade8a613636a65762330aca86551adceacdcb14a", func := "clepsydra/clepsydralaw09.GroupBytes", spec := "groupBytes", inPlace := ["internal/abi.NoEscape"], unfollowed := true, recurses := true, apart := false, narrowed := true }
def GroupBytesUptoSaid : Prop := groupBytesUptoRow.holds Try.pinned (OpenSpec.upto groupBytesSpec)

/-- 'clepsydralaw09.GroupBack', WHERE WHAT IT READS IS OF BULK AT MOST 1048576: true; the input reads as it did. -/
def groupBackUptoRow : OpenClaim := { program := "ythfbcfddfbipfaa", sum := "63c9e30a7c7866b1c924d601ade8a613636a65762330aca86551adceacdcb14a", func := "clepsydra/clepsydralaw09.GroupBack", spec := "groupBack", inPlace := ["internal/abi.NoEscape"], unfollowed := true, recurses := true, apart := false, narrowed := true }
def GroupBackUptoSaid : Prop := groupBackUptoRow.holds Try.pinned (OpenSpec.upto groupBackSpec)

/-- 'clepsydralaw09.GroupOrder', WHERE WHAT IT READS IS OF BULK AT MOST 1048576: true; the input reads as it did. -/
def groupOrderUptoRow : OpenClaim := { program := "ythfbcfddfbipfaa", sum := "63c9e30a7c7866b1c924d601ade8a613636a65762330aca86551adceacdcb14a", func := "clepsydra/clepsydralaw09.GroupOrder", spec := "groupOrder", unfollowed := true, recurses := true, apart := false, narrowed := true }
def GroupOrderUptoSaid : Prop := groupOrderUptoRow.holds Try.pinned (OpenSpec.upto groupOrderSpec)

/-- 'clepsydralaw09.GroupSteps', WHERE WHAT IT READS IS OF BULK AT MOST 1048576: true; the input reads as it did. -/
def groupStepsUptoRow : OpenClaim := { program := "ythfbcfddfbipfaa", sum := "63c9e30a7c7866b1c924d601ade8a613636a65762330aca86551adceacdcb14a", func := "clepsydra/clepsydralaw09.GroupSteps", spec := "groupSteps", unfollowed := true, recurses := true, apart := false, narrowed := true }
def GroupStepsUptoSaid : Prop := groupStepsUptoRow.holds Try.pinned (OpenSpec.upto groupStepsSpec)

/-- 'clepsydralaw09.GroupWhole', WHERE WHAT IT READS IS OF BULK AT MOST 1048576: true; the input reads as it did. -/
def groupWholeUptoRow : OpenClaim := { program := "ythfbcfddfbipfaa", sum := "63c9e30a7c7866b1c924d601ade8a613636a65762330aca86551adceacdcb14a", func := "clepsydra/clepsydralaw09.GroupWhole", spec := "groupWhole", unfollowed := true, recurses := true, apart := false, narrowed := true }
def GroupWholeUptoSaid : Prop := groupWholeUptoRow.holds Try.pinned (OpenSpec.upto groupWholeSpec)

end Rows
end Go.Proofs.Ythfbcfddfbipfaa
