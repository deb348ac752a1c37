/-
  No cell of these rows narrows 'for every input' (looked for: loops, veiled, ifaces, maps, wideKeys, modest, calm, conditions, laid).
  DERIVED. THE GIVEN ROWS OF THIS SEAT. 6 by the template 'for every input the law returns true; each argument reads behind the call as it read before'; 0 by the template 'total and deterministic' (their statements: YthgafhinlchghaaTotals.lean).
  GIVEN WITH THE SEED: the statements are not yours to turn. If you find one false, say at which input.
  Laid BY PROGRAM, IN A SANDBOX (cutbox-rows.mjs): the forced cells as the released guide's own fill.sh prints them over the translation a7ab7d5dd6e9e096… (all of the seat's roots in one cut). By AI agents, Wed Nov 11 2026. No macro, syntax, notation, axiom, sorry.
-/
import Derived.Test.YthgafhinlchghaaChecked
import GoSem.Claim
import GoSem.ClaimJoined
import GoSem.ClaimMapViews
import Derived.JoinedTies
import Derived.KernelRfl
namespace Go.Proofs.Ythgafhinlchghaa
/- THE CELL 'sum', in the pinned program and in every row, IS THE sha256 OF THE DUMP (.gsa) THAT YthgafhinlchghaaProg.lean LOADS. Nothing in Lean hashes anything: it is a label: what it is worth is what the hold of that sum in a sandbox is worth. -/
noncomputable def Try.pinned : Pinned := { name := "ythgafhinlchghaa", sum := "a7ab7d5dd6e9e0968f5f40e32012d292d9182ba6d88c1266db41348d911130aa", checked := Try.checked }
namespace Rows
def none {H : Type} : Left H := { results := [], args := [] }

/-- 'clepsydralaw04.ItemRights': WHATEVER THE INPUT: true; the input reads as it did. -/
def itemRightsSpec : ChangeSpec := { name := "itemRights", fn := fun _ => fun
  | [d1, d2] => { results := [.lit (.bool true)], args := [d1, d2] }
  | _ => none }
def itemRightsRow : OpenClaim := { program := "ythgafhinlchghaa", sum := "a7ab7d5dd6e9e0968f5f40e32012d292d9182ba6d88c1266db41348d911130aa", func := "clepsydra/clepsydralaw04.ItemRights", spec := "itemRights", apart := false }
def ItemRightsSaid : Prop := itemRightsRow.holds Try.pinned (OpenSpec.ofChange itemRightsSpec)

/-- ITS FALSE NEIGHBOUR: 'it returns false'. Refute it at one input. -/
def itemRightsWrong : ChangeSpec := { name := "itemRights", fn := fun _ => fun
  | [d1, d2] => { results := [.lit (.bool false)], args := [d1, d2] }
  | _ => none }
def ItemRightsWrongFalsely : Prop := itemRightsRow.holds Try.pinned (OpenSpec.ofChange itemRightsWrong)

/-- 'clepsydralaw04.ItemWrites': WHATEVER THE INPUT: true; the input reads as it did. -/
def itemWritesSpec : ChangeSpec := { name := "itemWrites", fn := fun _ => fun
  | [d] => { results := [.lit (.bool true)], args := [d] }
  | _ => none }
def itemWritesRow : OpenClaim := { program := "ythgafhinlchghaa", sum := "a7ab7d5dd6e9e0968f5f40e32012d292d9182ba6d88c1266db41348d911130aa", func := "clepsydra/clepsydralaw04.ItemWrites", spec := "itemWrites", unfollowed := true, recurses := true, apart := false }
def ItemWritesSaid : Prop := itemWritesRow.holds Try.pinned (OpenSpec.ofChange itemWritesSpec)

/-- ITS FALSE NEIGHBOUR: 'it returns false'. Refute it at one input. -/
def itemWritesWrong : ChangeSpec := { name := "itemWrites", fn := fun _ => fun
  | [d] => { results := [.lit (.bool false)], args := [d] }
  | _ => none }
def ItemWritesWrongFalsely : Prop := itemWritesRow.holds Try.pinned (OpenSpec.ofChange itemWritesWrong)

/-- 'clepsydralaw04.ItemReads': WHATEVER THE INPUT: true; the input reads as it did. -/
def itemReadsSpec : ChangeSpec := { name := "itemReads", fn := fun _ => fun
  | [d] => { results := [.lit (.bool true)], args := [d] }
  | _ => none }
def itemReadsRow : OpenClaim := { program := "ythgafhinlchghaa", sum := "a7ab7d5dd6e9e0968f5f40e32012d292d9182ba6d88c1266db41348d911130aa", func := "clepsydra/clepsydralaw04.ItemReads", spec := "itemReads", unfollowed := true, recurses := true, apart := false }
def ItemReadsSaid : Prop := itemReadsRow.holds Try.pinned (OpenSpec.ofChange itemReadsSpec)

/-- ITS FALSE NEIGHBOUR: 'it returns false'. Refute it at one input. -/
def itemReadsWrong : ChangeSpec := { name := "itemReads", fn := fun _ => fun
  | [d] => { results := [.lit (.bool false)], args := [d] }
  | _ => none }
def ItemReadsWrongFalsely : Prop := itemReadsRow.holds Try.pinned (OpenSpec.ofChange itemReadsWrong)

/-- 'clepsydralaw04.ItemBack': WHATEVER THE INPUT: true; the input reads as it did. -/
def itemBackSpec : ChangeSpec := { name := "itemBack", fn := fun _ => fun
  | [d] => { results := [.lit (.bool true)], args := [d] }
  | _ => none }
def itemBackRow : OpenClaim := { program := "ythgafhinlchghaa", sum := "a7ab7d5dd6e9e0968f5f40e32012d292d9182ba6d88c1266db41348d911130aa", func := "clepsydra/clepsydralaw04.ItemBack", spec := "itemBack", unfollowed := true, recurses := true, apart := false }
def ItemBackSaid : Prop := itemBackRow.holds Try.pinned (OpenSpec.ofChange itemBackSpec)

/-- ITS FALSE NEIGHBOUR: 'it returns false'. Refute it at one input. -/
def itemBackWrong : ChangeSpec := { name := "itemBack", fn := fun _ => fun
  | [d] => { results := [.lit (.bool false)], args := [d] }
  | _ => none }
def ItemBackWrongFalsely : Prop := itemBackRow.holds Try.pinned (OpenSpec.ofChange itemBackWrong)

/-- 'clepsydralaw04.ItemOnce': WHATEVER THE INPUT: true; the input reads as it did. -/
def itemOnceSpec : ChangeSpec := { name := "itemOnce", fn := fun _ => fun
  | [d] => { results := [.lit (.bool true)], args := [d] }
  | _ => none }
def itemOnceRow : OpenClaim := { program := "ythgafhinlchghaa", sum := "a7ab7d5dd6e9e0968f5f40e32012d292d9182ba6d88c1266db41348d911130aa", func := "clepsydra/clepsydralaw04.ItemOnce", spec := "itemOnce", unfollowed := true, recurses := true, apart := false }
def ItemOnceSaid : Prop := itemOnceRow.holds Try.pinned (OpenSpec.ofChange itemOnceSpec)

/-- ITS FALSE NEIGHBOUR: 'it returns false'. Refute it at one input. -/
def itemOnceWrong : ChangeSpec := { name := "itemOnce", fn := fun _ => fun
  | [d] => { results := [.lit (.bool false)], args := [d] }
  | _ => none }
def ItemOnceWrongFalsely : Prop := itemOnceRow.holds Try.pinned (OpenSpec.ofChange itemOnceWrong)

/-- 'clepsydralaw04.ItemMore': WHATEVER THE INPUT: true; the input reads as it did. -/
def itemMoreSpec : ChangeSpec := { name := "itemMore", fn := fun _ => fun
  | [d1, d2] => { results := [.lit (.bool true)], args := [d1, d2] }
  | _ => none }
def itemMoreRow : OpenClaim := { program := "ythgafhinlchghaa", sum := "a7ab7d5dd6e9e0968f5f40e32012d292d9182ba6d88c1266db41348d911130aa", func := "clepsydra/clepsydralaw04.ItemMore", spec := "itemMore", unfollowed := true, recurses := true, apart := false }
def ItemMoreSaid : Prop := itemMoreRow.holds Try.pinned (OpenSpec.ofChange itemMoreSpec)

/-- ITS FALSE NEIGHBOUR: 'it returns false'. Refute it at one input. -/
def itemMoreWrong : ChangeSpec := { name := "itemMore", fn := fun _ => fun
  | [d1, d2] => { results := [.lit (.bool false)], args := [d1, d2] }
  | _ => none }
def ItemMoreWrongFalsely : Prop := itemMoreRow.holds Try.pinned (OpenSpec.ofChange itemMoreWrong)

/- THE SECOND FORM. 'bulk': how many values and letters a reading holds, each counted each time it is reached (what is shared counts as often as it is met; a slice's spare places count too). A statement '..UptoSaid' is the law's where the arguments, and the package variables that the reading takes, are together of bulk at most 1048576: NARROWER than '..Said'. Prove '..Said' where nothing that the law and all that it calls make is longer than what came in: it says more and counts as full. Else prove '..UptoSaid'. A law counts once. -/
mutual
def uptoBulk {H : Type} : DataW H → Nat
  | .lit (.string bytes) => bytes.length + 1
  | .lit _ => 1
  | .nil => 1
  | .ptr d => uptoBulk d + 1
  | .slice elems spare => uptoBulkAll elems + uptoBulkAll spare + 1
  | .agg parts => uptoBulkAll parts + 1
  | .iface _ d => uptoBulk d + 1
  | .map entries => uptoBulkEntries entries + 1
  | .held _ => 1
def uptoBulkAll {H : Type} : List (DataW H) → Nat
  | [] => 0
  | d :: r => uptoBulk d + uptoBulkAll r
def uptoBulkEntries {H : Type} : List (Lit × DataW H) → Nat
  | [] => 0
  | x :: r => uptoBulkEntry x + uptoBulkEntries r
def uptoBulkEntry {H : Type} : Lit × DataW H → Nat
  | (.string bytes, d) => bytes.length + uptoBulk d + 1
  | (_, d) => uptoBulk d + 1
 end
def uptoSmall : (H : Type) → List (DataW H) → Bool := fun _ ds => decide (uptoBulkAll ds ≤ 1048576)
def OpenSpec.upto (s : _root_.Go.ChangeSpec) : _root_.Go.OpenSpec := { _root_.Go.OpenSpec.ofChange s with cond := some uptoSmall }

/-- 'clepsydralaw04.ItemRights', WHERE WHAT IT READS IS OF BULK AT MOST 1048576: true; the input reads as it did. -/
def itemRightsUptoRow : OpenClaim := { program := "ythgafhinlchghaa", sum := "a7ab7d5dd6e9e0968f5f40e32012d292d9182ba6d88c1266db41348d911130aa", func := "clepsydra/clepsydralaw04.ItemRights", spec := "itemRights", apart := false, narrowed := true }
def ItemRightsUptoSaid : Prop := itemRightsUptoRow.holds Try.pinned (OpenSpec.upto itemRightsSpec)

/-- 'clepsydralaw04.ItemWrites', WHERE WHAT IT READS IS OF BULK AT MOST 1048576: true; the input reads as it did. -/
def itemWritesUptoRow : OpenClaim := { program := "ythgafhinlchghaa", sum := "a7ab7d5dd6e9e0968f5f40e32012d292d9182ba6d88c1266db41348d911130aa", func := "clepsydra/clepsydralaw04.ItemWrites", spec := "itemWrites", unfollowed := true, recurses := true, apart := false, narrowed := true }
def ItemWritesUptoSaid : Prop := itemWritesUptoRow.holds Try.pinned (OpenSpec.upto itemWritesSpec)

/-- 'clepsydralaw04.ItemReads', WHERE WHAT IT READS IS OF BULK AT MOST 1048576: true; the input reads as it did. -/
def itemReadsUptoRow : OpenClaim := { program := "ythgafhinlchghaa", sum := "a7ab7d5dd6e9e0968f5f40e32012d292d9182ba6d88c1266db41348d911130aa", func := "clepsydra/clepsydralaw04.ItemReads", spec := "itemReads", unfollowed := true, recurses := true, apart := false, narrowed := true }
def ItemReadsUptoSaid : Prop := itemReadsUptoRow.holds Try.pinned (OpenSpec.upto itemReadsSpec)

/-- 'clepsydralaw04.ItemBack', WHERE WHAT IT READS IS OF BULK AT MOST 1048576: true; the input reads as it did. -/
def itemBackUptoRow : OpenClaim := { program := "ythgafhinlchghaa", sum := "a7ab7d5dd6e9e0968f5f40e32012d292d9182ba6d88c1266db41348d911130aa", func := "clepsydra/clepsydralaw04.ItemBack", spec := "itemBack", unfollowed := true, recurses := true, apart := false, narrowed := true }
def ItemBackUptoSaid : Prop := itemBackUptoRow.holds Try.pinned (OpenSpec.upto itemBackSpec)

/-- 'clepsydralaw04.ItemOnce', WHERE WHAT IT READS IS OF BULK AT MOST 1048576: true; the input reads as it did. -/
def itemOnceUptoRow : OpenClaim := { program := "ythgafhinlchghaa", sum := "a7ab7d5dd6e9e0968f5f40e32012d292d9182ba6d88c1266db41348d911130aa", func := "clepsydra/clepsydralaw04.ItemOnce", spec := "itemOnce", unfollowed := true, recurses := true, apart := false, narrowed := true }
def ItemOnceUptoSaid : Prop := itemOnceUptoRow.holds Try.pinned (OpenSpec.upto itemOnceSpec)

/-- 'clepsydralaw04.ItemMore', WHERE WHAT IT READS IS OF BULK AT MOST 1048576: true; the input reads as it did. -/
def itemMoreUptoRow : OpenClaim := { program := "ythgafhinlchghaa", sum := "a7ab7d5dd6e9e0968f5f40e32012d292d9182ba6d88c1266db41348d911130aa", func := "clepsydra/clepsydralaw04.ItemMore", spec := "itemMore", unfollowed := true, recurses := true, apart := false, narrowed := true }
def ItemMoreUptoSaid : Prop := itemMoreUptoRow.holds Try.pinned (OpenSpec.upto itemMoreSpec)

end Rows
end Go.Proofs.Ythgafhinlchghaa
