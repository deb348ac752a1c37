/-
  No cell of these rows narrows 'for every input' (looked for: loops, veiled, ifaces, maps, wideKeys, modest, calm, conditions, laid).
  DERIVED. THE GIVEN ROWS OF THIS SEAT. 6 by the template 'for every input the law returns true; each argument reads behind the call as it read before'; 0 by the template 'total and deterministic' (their statements: YtopcjkjedlkpcaaTotals.lean).
  GIVEN WITH THE SEED: the statements are not yours to turn. If you find one false, say at which input.
  Laid BY PROGRAM, IN A SANDBOX (cutbox-rows.mjs): the forced cells as the released guide's own fill.sh prints them over the translation 477f99374fef1a8c… (all of the seat's roots in one cut). By AI agents, Wed Nov 11 2026. No macro, syntax, notation, axiom, sorry.
-/
import Derived.Test.YtopcjkjedlkpcaaChecked
import GoSem.Claim
import GoSem.ClaimJoined
import GoSem.ClaimMapViews
import Derived.JoinedTies
import Derived.KernelRfl
namespace Go.Proofs.Ytopcjkjedlkpcaa
/- THE CELL 'sum', in the pinned program and in every row, IS THE sha256 OF THE DUMP (.gsa) THAT YtopcjkjedlkpcaaProg.lean LOADS. Nothing in Lean hashes anything: it is a label: what it is worth is what the hold of that sum in a sandbox is worth. -/
noncomputable def Try.pinned : Pinned := { name := "ytopcjkjedlkpcaa", sum := "477f99374fef1a8c7c59b6b5263ae4cbab08968a0e23c33274a42735d06ac051", checked := Try.checked }
namespace Rows
def none {H : Type} : Left H := { results := [], args := [] }

/-- 'clepsydralaw02.VlqWrites': WHATEVER THE INPUT: true; the input reads as it did. -/
def vlqWritesSpec : ChangeSpec := { name := "vlqWrites", fn := fun _ => fun
  | [d1, d2] => { results := [.lit (.bool true)], args := [d1, d2] }
  | _ => none }
def vlqWritesRow : OpenClaim := { program := "ytopcjkjedlkpcaa", sum := "477f99374fef1a8c7c59b6b5263ae4cbab08968a0e23c33274a42735d06ac051", func := "clepsydra/clepsydralaw02.VlqWrites", spec := "vlqWrites", unfollowed := true, recurses := true, apart := false }
def VlqWritesSaid : Prop := vlqWritesRow.holds Try.pinned (OpenSpec.ofChange vlqWritesSpec)

/-- ITS FALSE NEIGHBOUR: 'it returns false'. Refute it at one input. -/
def vlqWritesWrong : ChangeSpec := { name := "vlqWrites", fn := fun _ => fun
  | [d1, d2] => { results := [.lit (.bool false)], args := [d1, d2] }
  | _ => none }
def VlqWritesWrongFalsely : Prop := vlqWritesRow.holds Try.pinned (OpenSpec.ofChange vlqWritesWrong)

/-- 'clepsydralaw02.VlqReads': WHATEVER THE INPUT: true; the input reads as it did. -/
def vlqReadsSpec : ChangeSpec := { name := "vlqReads", fn := fun _ => fun
  | [d1, d2] => { results := [.lit (.bool true)], args := [d1, d2] }
  | _ => none }
def vlqReadsRow : OpenClaim := { program := "ytopcjkjedlkpcaa", sum := "477f99374fef1a8c7c59b6b5263ae4cbab08968a0e23c33274a42735d06ac051", func := "clepsydra/clepsydralaw02.VlqReads", spec := "vlqReads", unfollowed := true, recurses := true, apart := false }
def VlqReadsSaid : Prop := vlqReadsRow.holds Try.pinned (OpenSpec.ofChange vlqReadsSpec)

/-- ITS FALSE NEIGHBOUR: 'it returns false'. Refute it at one input. -/
def vlqReadsWrong : ChangeSpec := { name := "vlqReads", fn := fun _ => fun
  | [d1, d2] => { results := [.lit (.bool false)], args := [d1, d2] }
  | _ => none }
def VlqReadsWrongFalsely : Prop := vlqReadsRow.holds Try.pinned (OpenSpec.ofChange vlqReadsWrong)

/-- 'clepsydralaw02.VlqBack': WHATEVER THE INPUT: true; the input reads as it did. -/
def vlqBackSpec : ChangeSpec := { name := "vlqBack", fn := fun _ => fun
  | [d1, d2, d3, d4] => { results := [.lit (.bool true)], args := [d1, d2, d3, d4] }
  | _ => none }
def vlqBackRow : OpenClaim := { program := "ytopcjkjedlkpcaa", sum := "477f99374fef1a8c7c59b6b5263ae4cbab08968a0e23c33274a42735d06ac051", func := "clepsydra/clepsydralaw02.VlqBack", spec := "vlqBack", unfollowed := true, recurses := true, apart := false }
def VlqBackSaid : Prop := vlqBackRow.holds Try.pinned (OpenSpec.ofChange vlqBackSpec)

/-- ITS FALSE NEIGHBOUR: 'it returns false'. Refute it at one input. -/
def vlqBackWrong : ChangeSpec := { name := "vlqBack", fn := fun _ => fun
  | [d1, d2, d3, d4] => { results := [.lit (.bool false)], args := [d1, d2, d3, d4] }
  | _ => none }
def VlqBackWrongFalsely : Prop := vlqBackRow.holds Try.pinned (OpenSpec.ofChange vlqBackWrong)

/-- 'clepsydralaw02.VlqOnce': WHATEVER THE INPUT: true; the input reads as it did. -/
def vlqOnceSpec : ChangeSpec := { name := "vlqOnce", fn := fun _ => fun
  | [d1, d2] => { results := [.lit (.bool true)], args := [d1, d2] }
  | _ => none }
def vlqOnceRow : OpenClaim := { program := "ytopcjkjedlkpcaa", sum := "477f99374fef1a8c7c59b6b5263ae4cbab08968a0e23c33274a42735d06ac051", func := "clepsydra/clepsydralaw02.VlqOnce", spec := "vlqOnce", unfollowed := true, recurses := true, apart := false }
def VlqOnceSaid : Prop := vlqOnceRow.holds Try.pinned (OpenSpec.ofChange vlqOnceSpec)

/-- ITS FALSE NEIGHBOUR: 'it returns false'. Refute it at one input. -/
def vlqOnceWrong : ChangeSpec := { name := "vlqOnce", fn := fun _ => fun
  | [d1, d2] => { results := [.lit (.bool false)], args := [d1, d2] }
  | _ => none }
def VlqOnceWrongFalsely : Prop := vlqOnceRow.holds Try.pinned (OpenSpec.ofChange vlqOnceWrong)

/-- 'clepsydralaw02.VlqOrder': WHATEVER THE INPUT: true; the input reads as it did. -/
def vlqOrderSpec : ChangeSpec := { name := "vlqOrder", fn := fun _ => fun
  | [d1, d2] => { results := [.lit (.bool true)], args := [d1, d2] }
  | _ => none }
def vlqOrderRow : OpenClaim := { program := "ytopcjkjedlkpcaa", sum := "477f99374fef1a8c7c59b6b5263ae4cbab08968a0e23c33274a42735d06ac051", func := "clepsydra/clepsydralaw02.VlqOrder", spec := "vlqOrder", unfollowed := true, recurses := true, apart := false }
def VlqOrderSaid : Prop := vlqOrderRow.holds Try.pinned (OpenSpec.ofChange vlqOrderSpec)

/-- ITS FALSE NEIGHBOUR: 'it returns false'. Refute it at one input. -/
def vlqOrderWrong : ChangeSpec := { name := "vlqOrder", fn := fun _ => fun
  | [d1, d2] => { results := [.lit (.bool false)], args := [d1, d2] }
  | _ => none }
def VlqOrderWrongFalsely : Prop := vlqOrderRow.holds Try.pinned (OpenSpec.ofChange vlqOrderWrong)

/-- 'clepsydralaw02.VlqCuts': WHATEVER THE INPUT: true; the input reads as it did. -/
def vlqCutsSpec : ChangeSpec := { name := "vlqCuts", fn := fun _ => fun
  | [d1, d2] => { results := [.lit (.bool true)], args := [d1, d2] }
  | _ => none }
def vlqCutsRow : OpenClaim := { program := "ytopcjkjedlkpcaa", sum := "477f99374fef1a8c7c59b6b5263ae4cbab08968a0e23c33274a42735d06ac051", func := "clepsydra/clepsydralaw02.VlqCuts", spec := "vlqCuts", unfollowed := true, recurses := true, apart := false }
def VlqCutsSaid : Prop := vlqCutsRow.holds Try.pinned (OpenSpec.ofChange vlqCutsSpec)

/-- ITS FALSE NEIGHBOUR: 'it returns false'. Refute it at one input. -/
def vlqCutsWrong : ChangeSpec := { name := "vlqCuts", fn := fun _ => fun
  | [d1, d2] => { results := [.lit (.bool false)], args := [d1, d2] }
  | _ => none }
def VlqCutsWrongFalsely : Prop := vlqCutsRow.holds Try.pinned (OpenSpec.ofChange vlqCutsWrong)

/- THE SECOND FORM. 'bulk': how many values and letters a reading holds, each counted each time it is reached (what is shared counts as often as it is met; a slice's spare places count too). A statement '..UptoSaid' is the law's where the arguments, and the package variables that the reading takes, are together of bulk at most 1048576: NARROWER than '..Said'. Prove '..Said' where nothing that the law and all that it calls make is longer than what came in: it says more and counts as full. Else prove '..UptoSaid'. A law counts once. -/
mutual
def uptoBulk {H : Type} : DataW H → Nat
  | .lit (.string bytes) => bytes.length + 1
  | .lit _ => 1
  | .nil => 1
  | .ptr d => uptoBulk d + 1
  | .slice elems spare => uptoBulkAll elems + uptoBulkAll spare + 1
  | .agg parts => uptoBulkAll parts + 1
  | .iface _ d => uptoBulk d + 1
  | .map entries => uptoBulkEntries entries + 1
  | .held _ => 1
def uptoBulkAll {H : Type} : List (DataW H) → Nat
  | [] => 0
  | d :: r => uptoBulk d + uptoBulkAll r
def uptoBulkEntries {H : Type} : List (Lit × DataW H) → Nat
  | [] => 0
  | x :: r => uptoBulkEntry x + uptoBulkEntries r
def uptoBulkEntry {H : Type} : Lit × DataW H → Nat
  | (.string bytes, d) => bytes.length + uptoBulk d + 1
  | (_, d) => uptoBulk d + 1
 end
def uptoSmall : (H : Type) → List (DataW H) → Bool := fun _ ds => decide (uptoBulkAll ds ≤ 1048576)
def OpenSpec.upto (s : _root_.Go.ChangeSpec) : _root_.Go.OpenSpec := { _root_.Go.OpenSpec.ofChange s with cond := some uptoSmall }

/-- 'clepsydralaw02.VlqWrites', WHERE WHAT IT READS IS OF BULK AT MOST 1048576: true; the input reads as it did. -/
def vlqWritesUptoRow : OpenClaim := { program := "ytopcjkjedlkpcaa", sum := "477f99374fef1a8c7c59b6b5263ae4cbab08968a0e23c33274a42735d06ac051", func := "clepsydra/clepsydralaw02.VlqWrites", spec := "vlqWrites", unfollowed := true, recurses := true, apart := false, narrowed := true }
def VlqWritesUptoSaid : Prop := vlqWritesUptoRow.holds Try.pinned (OpenSpec.upto vlqWritesSpec)

/-- 'clepsydralaw02.VlqReads', WHERE WHAT IT READS IS OF BULK AT MOST 1048576: true; the input reads as it did. -/
def vlqReadsUptoRow : OpenClaim := { program := "ytopcjkjedlkpcaa", sum := "477f99374fef1a8c7c59b6b5263ae4cbab08968a0e23c33274a42735d06ac051", func := "clepsydra/clepsydralaw02.VlqReads", spec := "vlqReads", unfollowed := true, recurses := true, apart := false, narrowed := true }
def VlqReadsUptoSaid : Prop := vlqReadsUptoRow.holds Try.pinned (OpenSpec.upto vlqReadsSpec)

/-- 'clepsydralaw02.VlqBack', WHERE WHAT IT READS IS OF BULK AT MOST 1048576: true; the input reads as it did. -/
def vlqBackUptoRow : OpenClaim := { program := "ytopcjkjedlkpcaa", sum := "477f99374fef1a8c7c59b6b5263ae4cbab08968a0e23c33274a42735d06ac051", func := "clepsydra/clepsydralaw02.VlqBack", spec := "vlqBack", unfollowed := true, recurses := true, apart := false, narrowed := true }
def VlqBackUptoSaid : Prop := vlqBackUptoRow.holds Try.pinned (OpenSpec.upto vlqBackSpec)

/-- 'clepsydralaw02.VlqOnce', WHERE WHAT IT READS IS OF BULK AT MOST 1048576: true; the input reads as it did. -/
def vlqOnceUptoRow : OpenClaim := { program := "ytopcjkjedlkpcaa", sum := "477f99374fef1a8c7c59b6b5263ae4cbab08968a0e23c33274a42735d06ac051", func := "clepsydra/clepsydralaw02.VlqOnce", spec := "vlqOnce", unfollowed := true, recurses := true, apart := false, narrowed := true }
def VlqOnceUptoSaid : Prop := vlqOnceUptoRow.holds Try.pinned (OpenSpec.upto vlqOnceSpec)

/-- 'clepsydralaw02.VlqOrder', WHERE WHAT IT READS IS OF BULK AT MOST 1048576: true; the input reads as it did. -/
def vlqOrderUptoRow : OpenClaim := { program := "ytopcjkjedlkpcaa", sum := "477f99374fef1a8c7c59b6b5263ae4cbab08968a0e23c33274a42735d06ac051", func := "clepsydra/clepsydralaw02.VlqOrder", spec := "vlqOrder", unfollowed := true, recurses := true, apart := false, narrowed := true }
def VlqOrderUptoSaid : Prop := vlqOrderUptoRow.holds Try.pinned (OpenSpec.upto vlqOrderSpec)

/-- 'clepsydralaw02.VlqCuts', WHERE WHAT IT READS IS OF BULK AT MOST 1048576: true; the input reads as it did. -/
def vlqCutsUptoRow : OpenClaim := { program := "ytopcjkjedlkpcaa", sum := "477f99374fef1a8c7c59b6b5263ae4cbab08968a0e23c33274a42735d06ac051", func := "clepsydra/clepsydralaw02.VlqCuts", spec := "vlqCuts", unfollowed := true, recurses := true, apart := false, narrowed := true }
def VlqCutsUptoSaid : Prop := vlqCutsUptoRow.holds Try.pinned (OpenSpec.upto vlqCutsSpec)

end Rows
end Go.Proofs.Ytopcjkjedlkpcaa
