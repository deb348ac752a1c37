/-
  No cell of these rows narrows 'for every input' (looked for: loops, veiled, ifaces, maps, wideKeys, modest, calm, conditions, laid).
  DERIVED. THE GIVEN ROWS OF THIS SEAT. 7 by the template 'for every input the law returns true; each argument reads behind the call as it read before'; 0 by the template 'total and deterministic' (their statements: YtklpfifellghlaaTotals.lean).
  GIVEN WITH THE SEED: the statements are not yours to turn. If you find one false, say at which input.
  Laid BY PROGRAM, IN A SANDBOX (cutbox-rows.mjs): the forced cells as the released guide's own fill.sh prints them over the translation caf249446bd10c96… (all of the seat's roots in one cut). By AI agents, Wed Nov 11 2026. No macro, syntax, notation, axiom, sorry.
-/
import Derived.Test.YtklpfifellghlaaChecked
import GoSem.Claim
import GoSem.ClaimJoined
import GoSem.ClaimMapViews
import Derived.JoinedTies
import Derived.KernelRfl
namespace Go.Proofs.Ytklpfifellghlaa
/- THE CELL 'sum', in the pinned program and in every row, IS THE sha256 OF THE DUMP (.gsa) THAT YtklpfifellghlaaProg.lean LOADS. Nothing in Lean hashes anything: it is a label: what it is worth is what the hold of that sum in a sandbox is worth. -/
noncomputable def Try.pinned : Pinned := { name := "ytklpfifellghlaa", sum := "caf249446bd10c96cee4a8dcdf3ba3fb0c341a176c2a7ed54fd0ca0ffe1b58d0", checked := Try.checked }
namespace Rows
def none {H : Type} : Left H := { results := [], args := [] }

/-- 'clepsydralaw07.PaneAdds': WHATEVER THE INPUT: true; the input reads as it did. -/
def paneAddsSpec : ChangeSpec := { name := "paneAdds", fn := fun _ => fun
  | [d1, d2, d3, d4, d5] => { results := [.lit (.bool true)], args := [d1, d2, d3, d4, d5] }
  | _ => none }
def paneAddsRow : OpenClaim := { program := "ytklpfifellghlaa", sum := "caf249446bd10c96cee4a8dcdf3ba3fb0c341a176c2a7ed54fd0ca0ffe1b58d0", func := "clepsydra/clepsydralaw07.PaneAdds", spec := "paneAdds", unfollowed := true, recurses := true, plainKeys := false, apart := false }
def PaneAddsSaid : Prop := paneAddsRow.holds Try.pinned (OpenSpec.ofChange paneAddsSpec)

/-- ITS FALSE NEIGHBOUR: 'it returns false'. Refute it at one input. -/
def paneAddsWrong : ChangeSpec := { name := "paneAdds", fn := fun _ => fun
  | [d1, d2, d3, d4, d5] => { results := [.lit (.bool false)], args := [d1, d2, d3, d4, d5] }
  | _ => none }
def PaneAddsWrongFalsely : Prop := paneAddsRow.holds Try.pinned (OpenSpec.ofChange paneAddsWrong)

/-- 'clepsydralaw07.PaneParts': WHATEVER THE INPUT: true; the input reads as it did. -/
def panePartsSpec : ChangeSpec := { name := "paneParts", fn := fun _ => fun
  | [d1, d2, d3] => { results := [.lit (.bool true)], args := [d1, d2, d3] }
  | _ => none }
def panePartsRow : OpenClaim := { program := "ytklpfifellghlaa", sum := "caf249446bd10c96cee4a8dcdf3ba3fb0c341a176c2a7ed54fd0ca0ffe1b58d0", func := "clepsydra/clepsydralaw07.PaneParts", spec := "paneParts", unfollowed := true, recurses := true, plainKeys := false, apart := false }
def PanePartsSaid : Prop := panePartsRow.holds Try.pinned (OpenSpec.ofChange panePartsSpec)

/-- ITS FALSE NEIGHBOUR: 'it returns false'. Refute it at one input. -/
def panePartsWrong : ChangeSpec := { name := "paneParts", fn := fun _ => fun
  | [d1, d2, d3] => { results := [.lit (.bool false)], args := [d1, d2, d3] }
  | _ => none }
def PanePartsWrongFalsely : Prop := panePartsRow.holds Try.pinned (OpenSpec.ofChange panePartsWrong)

/-- 'clepsydralaw07.PaneMerges': WHATEVER THE INPUT: true; the input reads as it did. -/
def paneMergesSpec : ChangeSpec := { name := "paneMerges", fn := fun _ => fun
  | [d1, d2, d3] => { results := [.lit (.bool true)], args := [d1, d2, d3] }
  | _ => none }
def paneMergesRow : OpenClaim := { program := "ytklpfifellghlaa", sum := "caf249446bd10c96cee4a8dcdf3ba3fb0c341a176c2a7ed54fd0ca0ffe1b58d0", func := "clepsydra/clepsydralaw07.PaneMerges", spec := "paneMerges", unfollowed := true, recurses := true, plainKeys := false, apart := false }
def PaneMergesSaid : Prop := paneMergesRow.holds Try.pinned (OpenSpec.ofChange paneMergesSpec)

/-- ITS FALSE NEIGHBOUR: 'it returns false'. Refute it at one input. -/
def paneMergesWrong : ChangeSpec := { name := "paneMerges", fn := fun _ => fun
  | [d1, d2, d3] => { results := [.lit (.bool false)], args := [d1, d2, d3] }
  | _ => none }
def PaneMergesWrongFalsely : Prop := paneMergesRow.holds Try.pinned (OpenSpec.ofChange paneMergesWrong)

/-- 'clepsydralaw07.PaneOrder': WHATEVER THE INPUT: true; the input reads as it did. -/
def paneOrderSpec : ChangeSpec := { name := "paneOrder", fn := fun _ => fun
  | [d1, d2, d3] => { results := [.lit (.bool true)], args := [d1, d2, d3] }
  | _ => none }
def paneOrderRow : OpenClaim := { program := "ytklpfifellghlaa", sum := "caf249446bd10c96cee4a8dcdf3ba3fb0c341a176c2a7ed54fd0ca0ffe1b58d0", func := "clepsydra/clepsydralaw07.PaneOrder", spec := "paneOrder", unfollowed := true, recurses := true, plainKeys := false, apart := false }
def PaneOrderSaid : Prop := paneOrderRow.holds Try.pinned (OpenSpec.ofChange paneOrderSpec)

/-- ITS FALSE NEIGHBOUR: 'it returns false'. Refute it at one input. -/
def paneOrderWrong : ChangeSpec := { name := "paneOrder", fn := fun _ => fun
  | [d1, d2, d3] => { results := [.lit (.bool false)], args := [d1, d2, d3] }
  | _ => none }
def PaneOrderWrongFalsely : Prop := paneOrderRow.holds Try.pinned (OpenSpec.ofChange paneOrderWrong)

/-- 'clepsydralaw07.PaneSplits': WHATEVER THE INPUT: true; the input reads as it did. -/
def paneSplitsSpec : ChangeSpec := { name := "paneSplits", fn := fun _ => fun
  | [d1, d2, d3] => { results := [.lit (.bool true)], args := [d1, d2, d3] }
  | _ => none }
def paneSplitsRow : OpenClaim := { program := "ytklpfifellghlaa", sum := "caf249446bd10c96cee4a8dcdf3ba3fb0c341a176c2a7ed54fd0ca0ffe1b58d0", func := "clepsydra/clepsydralaw07.PaneSplits", spec := "paneSplits", unfollowed := true, recurses := true, plainKeys := false, apart := false }
def PaneSplitsSaid : Prop := paneSplitsRow.holds Try.pinned (OpenSpec.ofChange paneSplitsSpec)

/-- ITS FALSE NEIGHBOUR: 'it returns false'. Refute it at one input. -/
def paneSplitsWrong : ChangeSpec := { name := "paneSplits", fn := fun _ => fun
  | [d1, d2, d3] => { results := [.lit (.bool false)], args := [d1, d2, d3] }
  | _ => none }
def PaneSplitsWrongFalsely : Prop := paneSplitsRow.holds Try.pinned (OpenSpec.ofChange paneSplitsWrong)

/-- 'clepsydralaw07.PaneDue': WHATEVER THE INPUT: true; the input reads as it did. -/
def paneDueSpec : ChangeSpec := { name := "paneDue", fn := fun _ => fun
  | [d1, d2, d3] => { results := [.lit (.bool true)], args := [d1, d2, d3] }
  | _ => none }
def paneDueRow : OpenClaim := { program := "ytklpfifellghlaa", sum := "caf249446bd10c96cee4a8dcdf3ba3fb0c341a176c2a7ed54fd0ca0ffe1b58d0", func := "clepsydra/clepsydralaw07.PaneDue", spec := "paneDue", unfollowed := true, recurses := true, plainKeys := false, apart := false }
def PaneDueSaid : Prop := paneDueRow.holds Try.pinned (OpenSpec.ofChange paneDueSpec)

/-- ITS FALSE NEIGHBOUR: 'it returns false'. Refute it at one input. -/
def paneDueWrong : ChangeSpec := { name := "paneDue", fn := fun _ => fun
  | [d1, d2, d3] => { results := [.lit (.bool false)], args := [d1, d2, d3] }
  | _ => none }
def PaneDueWrongFalsely : Prop := paneDueRow.holds Try.pinned (OpenSpec.ofChange paneDueWrong)

/-- 'clepsydralaw07.PaneCounts': WHATEVER THE INPUT: true; the input reads as it did. -/
def paneCountsSpec : ChangeSpec := { name := "paneCounts", fn := fun _ => fun
  | [d1, d2] => { results := [.lit (.bool true)], args := [d1, d2] }
  | _ => none }
def paneCountsRow : OpenClaim := { program := "ytklpfifellghlaa", sum := "caf249446bd10c96cee4a8dcdf3ba3fb0c341a176c2a7ed54fd0ca0ffe1b58d0", func := "clepsydra/clepsydralaw07.PaneCounts", spec := "paneCounts", unfollowed := true, recurses := true, plainKeys := false, apart := false }
def PaneCountsSaid : Prop := paneCountsRow.holds Try.pinned (OpenSpec.ofChange paneCountsSpec)

/-- ITS FALSE NEIGHBOUR: 'it returns false'. Refute it at one input. -/
def paneCountsWrong : ChangeSpec := { name := "paneCounts", fn := fun _ => fun
  | [d1, d2] => { results := [.lit (.bool false)], args := [d1, d2] }
  | _ => none }
def PaneCountsWrongFalsely : Prop := paneCountsRow.holds Try.pinned (OpenSpec.ofChange paneCountsWrong)

/- THE SECOND FORM. 'bulk': how many values and letters a reading holds, each counted each time it is reached (what is shared counts as often as it is met; a slice's spare places count too). A statement '..UptoSaid' is the law's where the arguments, and the package variables that the reading takes, are together of bulk at most 1048576: NARROWER than '..Said'. Prove '..Said' where nothing that the law and all that it calls make is longer than what came in: it says more and counts as full. Else prove '..UptoSaid'. A law counts once. -/
mutual
def uptoBulk {H : Type} : DataW H → Nat
  | .lit (.string bytes) => bytes.length + 1
  | .lit _ => 1
  | .nil => 1
  | .ptr d => uptoBulk d + 1
  | .slice elems spare => uptoBulkAll elems + uptoBulkAll spare + 1
  | .agg parts => uptoBulkAll parts + 1
  | .iface _ d => uptoBulk d + 1
  | .map entries => uptoBulkEntries entries + 1
  | .held _ => 1
def uptoBulkAll {H : Type} : List (DataW H) → Nat
  | [] => 0
  | d :: r => uptoBulk d + uptoBulkAll r
def uptoBulkEntries {H : Type} : List (Lit × DataW H) → Nat
  | [] => 0
  | x :: r => uptoBulkEntry x + uptoBulkEntries r
def uptoBulkEntry {H : Type} : Lit × DataW H → Nat
  | (.string bytes, d) => bytes.length + uptoBulk d + 1
  | (_, d) => uptoBulk d + 1
 end
def uptoSmall : (H : Type) → List (DataW H) → Bool := fun _ ds => decide (uptoBulkAll ds ≤ 1048576)
def OpenSpec.upto (s : _root_.Go.ChangeSpec) : _root_.Go.OpenSpec := { _root_.Go.OpenSpec.ofChange s with cond := some uptoSmall }

/-- 'clepsydralaw07.PaneAdds', WHERE WHAT IT READS IS OF BULK AT MOST 1048576: true; the input reads as it did. -/
def paneAddsUptoRow : OpenClaim := { program := "ytklpfifellghlaa", sum := "caf249446bd10c96cee4a8dcdf3ba3fb0c341a176c2a7ed54fd0ca0ffe1b58d0", func := "clepsydra/clepsydralaw07.PaneAdds", spec := "paneAdds", unfollowed := true, recurses := true, plainKeys := false, apart := false, narrowed := true }
def PaneAddsUptoSaid : Prop := paneAddsUptoRow.holds Try.pinned (OpenSpec.upto paneAddsSpec)

/-- 'clepsydralaw07.PaneParts', WHERE WHAT IT READS IS OF BULK AT MOST 1048576: true; the input reads as it did. -/
def panePartsUptoRow : OpenClaim := { program := "ytklpfifellghlaa", sum := "caf249446bd10c96cee4a8dcdf3ba3fb0c341a176c2a7ed54fd0ca0ffe1b58d0", func := "clepsydra/clepsydralaw07.PaneParts", spec := "paneParts", unfollowed := true, recurses := true, plainKeys := false, apart := false, narrowed := true }
def PanePartsUptoSaid : Prop := panePartsUptoRow.holds Try.pinned (OpenSpec.upto panePartsSpec)

/-- 'clepsydralaw07.PaneMerges', WHERE WHAT IT READS IS OF BULK AT MOST 1048576: true; the input reads as it did. -/
def paneMergesUptoRow : OpenClaim := { program := "ytklpfifellghlaa", sum := "caf249446bd10c96cee4a8dcdf3ba3fb0c341a176c2a7ed54fd0ca0ffe1b58d0", func := "clepsydra/clepsydralaw07.PaneMerges", spec := "paneMerges", unfollowed := true, recurses := true, plainKeys := false, apart := false, narrowed := true }
def PaneMergesUptoSaid : Prop := paneMergesUptoRow.holds Try.pinned (OpenSpec.upto paneMergesSpec)

/-- 'clepsydralaw07.PaneOrder', WHERE WHAT IT READS IS OF BULK AT MOST 1048576: true; the input reads as it did. -/
def paneOrderUptoRow : OpenClaim := { program := "ytklpfifellghlaa", sum := "caf249446bd10c96cee4a8dcdf3ba3fb0c341a176c2a7ed54fd0ca0ffe1b58d0", func := "clepsydra/clepsydralaw07.PaneOrder", spec := "paneOrder", unfollowed := true, recurses := true, plainKeys := false, apart := false, narrowed := true }
def PaneOrderUptoSaid : Prop := paneOrderUptoRow.holds Try.pinned (OpenSpec.upto paneOrderSpec)

/-- 'clepsydralaw07.PaneSplits', WHERE WHAT IT READS IS OF BULK AT MOST 1048576: true; the input reads as it did. -/
def paneSplitsUptoRow : OpenClaim := { program := "ytklpfifellghlaa", sum := "caf249446bd10c96cee4a8dcdf3ba3fb0c341a176c2a7ed54fd0ca0ffe1b58d0", func := "clepsydra/clepsydralaw07.PaneSplits", spec := "paneSplits", unfollowed := true, recurses := true, plainKeys := false, apart := false, narrowed := true }
def PaneSplitsUptoSaid : Prop := paneSplitsUptoRow.holds Try.pinned (OpenSpec.upto paneSplitsSpec)

/-- 'clepsydralaw07.PaneDue', WHERE WHAT IT READS IS OF BULK AT MOST 1048576: true; the input reads as it did. -/
def paneDueUptoRow : OpenClaim := { program := "ytklpfifellghlaa", sum := "caf249446bd10c96cee4a8dcdf3ba3fb0c341a176c2a7ed54fd0ca0ffe1b58d0", func := "clepsydra/clepsydralaw07.PaneDue", spec := "paneDue", unfollowed := true, recurses := true, plainKeys := false, apart := false, narrowed := true }
def PaneDueUptoSaid : Prop := paneDueUptoRow.holds Try.pinned (OpenSpec.upto paneDueSpec)

/-- 'clepsydralaw07.PaneCounts', WHERE WHAT IT READS IS OF BULK AT MOST 1048576: true; the input reads as it did. -/
def paneCountsUptoRow : OpenClaim := { program := "ytklpfifellghlaa", sum := "caf249446bd10c96cee4a8dcdf3ba3fb0c341a176c2a7ed54fd0ca0ffe1b58d0", func := "clepsydra/clepsydralaw07.PaneCounts", spec := "paneCounts", unfollowed := true, recurses := true, plainKeys := false, apart := false, narrowed := true }
def PaneCountsUptoSaid : Prop := paneCountsUptoRow.holds Try.pinned (OpenSpec.upto paneCountsSpec)

end Rows
end Go.Proofs.Ytklpfifellghlaa
