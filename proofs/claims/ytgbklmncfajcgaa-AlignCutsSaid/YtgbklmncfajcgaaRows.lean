/-
  No cell of these rows narrows 'for every input' (looked for: loops, veiled, ifaces, maps, wideKeys, modest, calm, conditions, laid).
  DERIVED. THE GIVEN ROWS OF THIS SEAT. 6 by the template 'for every input the law returns true; each argument reads behind the call as it read before'; 0 by the template 'total and deterministic' (their statements: YtgbklmncfajcgaaTotals.lean).
  GIVEN WITH THE SEED: the statements are not yours to turn. If you find one false, say at which input.
  Laid BY PROGRAM, IN A SANDBOX (cutbox-rows.mjs): the forced cells as the released guide's own fill.sh prints them over the translation 14c128393046f724… (all of the seat's roots in one cut). By AI agents, Wed Nov 11 2026. No macro, syntax, notation, axiom, sorry.
-/
import Derived.Test.YtgbklmncfajcgaaChecked
import GoSem.Claim
import GoSem.ClaimJoined
import GoSem.ClaimMapViews
import Derived.JoinedTies
import Derived.KernelRfl
namespace Go.Proofs.Ytgbklmncfajcgaa
/- THE CELL 'sum', in the pinned program and in every row, IS THE sha256 OF THE DUMP (.gsa) THAT YtgbklmncfajcgaaProg.lean LOADS. Nothing in Lean hashes anything: it is a label: what it is worth is what the hold of that sum in a sandbox is worth. -/
noncomputable def Try.pinned : Pinned := { name := "ytgbklmncfajcgaa", sum := "14c128393046f72447a13175b7ae3081c609050eb404ae7542c85dcbb715c96b", checked := Try.checked }
namespace Rows
def none {H : Type} : Left H := { results := [], args := [] }

/-- 'clepsydralaw18.AlignMakes': WHATEVER THE INPUT: true; the input reads as it did. -/
def alignMakesSpec : ChangeSpec := { name := "alignMakes", fn := fun _ => fun
  | [d1, d2, d3] => { results := [.lit (.bool true)], args := [d1, d2, d3] }
  | _ => none }
def alignMakesRow : OpenClaim := { program := "ytgbklmncfajcgaa", sum := "14c128393046f72447a13175b7ae3081c609050eb404ae7542c85dcbb715c96b", func := "clepsydra/clepsydralaw18.AlignMakes", spec := "alignMakes", unfollowed := true, recurses := true, apart := false }
def AlignMakesSaid : Prop := alignMakesRow.holds Try.pinned (OpenSpec.ofChange alignMakesSpec)

/-- ITS FALSE NEIGHBOUR: 'it returns false'. Refute it at one input. -/
def alignMakesWrong : ChangeSpec := { name := "alignMakes", fn := fun _ => fun
  | [d1, d2, d3] => { results := [.lit (.bool false)], args := [d1, d2, d3] }
  | _ => none }
def AlignMakesWrongFalsely : Prop := alignMakesRow.holds Try.pinned (OpenSpec.ofChange alignMakesWrong)

/-- 'clepsydralaw18.AlignOffers': WHATEVER THE INPUT: true; the input reads as it did. -/
def alignOffersSpec : ChangeSpec := { name := "alignOffers", fn := fun _ => fun
  | [d1, d2, d3] => { results := [.lit (.bool true)], args := [d1, d2, d3] }
  | _ => none }
def alignOffersRow : OpenClaim := { program := "ytgbklmncfajcgaa", sum := "14c128393046f72447a13175b7ae3081c609050eb404ae7542c85dcbb715c96b", func := "clepsydra/clepsydralaw18.AlignOffers", spec := "alignOffers", unfollowed := true, recurses := true, apart := false }
def AlignOffersSaid : Prop := alignOffersRow.holds Try.pinned (OpenSpec.ofChange alignOffersSpec)

/-- ITS FALSE NEIGHBOUR: 'it returns false'. Refute it at one input. -/
def alignOffersWrong : ChangeSpec := { name := "alignOffers", fn := fun _ => fun
  | [d1, d2, d3] => { results := [.lit (.bool false)], args := [d1, d2, d3] }
  | _ => none }
def AlignOffersWrongFalsely : Prop := alignOffersRow.holds Try.pinned (OpenSpec.ofChange alignOffersWrong)

/-- 'clepsydralaw18.AlignCuts': WHATEVER THE INPUT: true; the input reads as it did. -/
def alignCutsSpec : ChangeSpec := { name := "alignCuts", fn := fun _ => fun
  | [d1, d2, d3] => { results := [.lit (.bool true)], args := [d1, d2, d3] }
  | _ => none }
def alignCutsRow : OpenClaim := { program := "ytgbklmncfajcgaa", sum := "14c128393046f72447a13175b7ae3081c609050eb404ae7542c85dcbb715c96b", func := "clepsydra/clepsydralaw18.AlignCuts", spec := "alignCuts", unfollowed := true, recurses := true, apart := false }
def AlignCutsSaid : Prop := alignCutsRow.holds Try.pinned (OpenSpec.ofChange alignCutsSpec)

/-- ITS FALSE NEIGHBOUR: 'it returns false'. Refute it at one input. -/
def alignCutsWrong : ChangeSpec := { name := "alignCuts", fn := fun _ => fun
  | [d1, d2, d3] => { results := [.lit (.bool false)], args := [d1, d2, d3] }
  | _ => none }
def AlignCutsWrongFalsely : Prop := alignCutsRow.holds Try.pinned (OpenSpec.ofChange alignCutsWrong)

/-- 'clepsydralaw18.AlignHolds': WHATEVER THE INPUT: true; the input reads as it did. -/
def alignHoldsSpec : ChangeSpec := { name := "alignHolds", fn := fun _ => fun
  | [d1, d2, d3] => { results := [.lit (.bool true)], args := [d1, d2, d3] }
  | _ => none }
def alignHoldsRow : OpenClaim := { program := "ytgbklmncfajcgaa", sum := "14c128393046f72447a13175b7ae3081c609050eb404ae7542c85dcbb715c96b", func := "clepsydra/clepsydralaw18.AlignHolds", spec := "alignHolds", unfollowed := true, recurses := true, apart := false }
def AlignHoldsSaid : Prop := alignHoldsRow.holds Try.pinned (OpenSpec.ofChange alignHoldsSpec)

/-- ITS FALSE NEIGHBOUR: 'it returns false'. Refute it at one input. -/
def alignHoldsWrong : ChangeSpec := { name := "alignHolds", fn := fun _ => fun
  | [d1, d2, d3] => { results := [.lit (.bool false)], args := [d1, d2, d3] }
  | _ => none }
def AlignHoldsWrongFalsely : Prop := alignHoldsRow.holds Try.pinned (OpenSpec.ofChange alignHoldsWrong)

/-- 'clepsydralaw18.AlignOne': WHATEVER THE INPUT: true; the input reads as it did. -/
def alignOneSpec : ChangeSpec := { name := "alignOne", fn := fun _ => fun
  | [d] => { results := [.lit (.bool true)], args := [d] }
  | _ => none }
def alignOneRow : OpenClaim := { program := "ytgbklmncfajcgaa", sum := "14c128393046f72447a13175b7ae3081c609050eb404ae7542c85dcbb715c96b", func := "clepsydra/clepsydralaw18.AlignOne", spec := "alignOne", unfollowed := true, recurses := true, apart := false }
def AlignOneSaid : Prop := alignOneRow.holds Try.pinned (OpenSpec.ofChange alignOneSpec)

/-- ITS FALSE NEIGHBOUR: 'it returns false'. Refute it at one input. -/
def alignOneWrong : ChangeSpec := { name := "alignOne", fn := fun _ => fun
  | [d] => { results := [.lit (.bool false)], args := [d] }
  | _ => none }
def AlignOneWrongFalsely : Prop := alignOneRow.holds Try.pinned (OpenSpec.ofChange alignOneWrong)

/-- 'clepsydralaw18.AlignFresh': WHATEVER THE INPUT: true; the input reads as it did. -/
def alignFreshSpec : ChangeSpec := { name := "alignFresh", fn := fun _ => fun
  | [d1, d2, d3] => { results := [.lit (.bool true)], args := [d1, d2, d3] }
  | _ => none }
def alignFreshRow : OpenClaim := { program := "ytgbklmncfajcgaa", sum := "14c128393046f72447a13175b7ae3081c609050eb404ae7542c85dcbb715c96b", func := "clepsydra/clepsydralaw18.AlignFresh", spec := "alignFresh", unfollowed := true, recurses := true, apart := false }
def AlignFreshSaid : Prop := alignFreshRow.holds Try.pinned (OpenSpec.ofChange alignFreshSpec)

/-- ITS FALSE NEIGHBOUR: 'it returns false'. Refute it at one input. -/
def alignFreshWrong : ChangeSpec := { name := "alignFresh", fn := fun _ => fun
  | [d1, d2, d3] => { results := [.lit (.bool false)], args := [d1, d2, d3] }
  | _ => none }
def AlignFreshWrongFalsely : Prop := alignFreshRow.holds Try.pinned (OpenSpec.ofChange alignFreshWrong)

/- THE SECOND FORM. 'bulk': how many values and letters a reading holds, each counted each time it is reached (what is shared counts as often as it is met; a slice's spare places count too). A statement '..UptoSaid' is the law's where the arguments, and the package variables that the reading takes, are together of bulk at most 1048576: NARROWER than '..Said'. Prove '..Said' where nothing that the law and all that it calls make is longer than what came in: it says more and counts as full. Else prove '..UptoSaid'. A law counts once. -/
mutual
def uptoBulk {H : Type} : DataW H → Nat
  | .lit (.string bytes) => bytes.length + 1
  | .lit _ => 1
  | .nil => 1
  | .ptr d => uptoBulk d + 1
  | .slice elems spare => uptoBulkAll elems + uptoBulkAll spare + 1
  | .agg parts => uptoBulkAll parts + 1
  | .iface _ d => uptoBulk d + 1
  | .map entries => uptoBulkEntries entries + 1
  | .held _ => 1
def uptoBulkAll {H : Type} : List (DataW H) → Nat
  | [] => 0
  | d :: r => uptoBulk d + uptoBulkAll r
def uptoBulkEntries {H : Type} : List (Lit × DataW H) → Nat
  | [] => 0
  | x :: r => uptoBulkEntry x + uptoBulkEntries r
def uptoBulkEntry {H : Type} : Lit × DataW H → Nat
  | (.string bytes, d) => bytes.length + uptoBulk d + 1
  | (_, d) => uptoBulk d + 1
 end
def uptoSmall : (H : Type) → List (DataW H) → Bool := fun _ ds => decide (uptoBulkAll ds ≤ 1048576)
def OpenSpec.upto (s : _root_.Go.ChangeSpec) : _root_.Go.OpenSpec := { _root_.Go.OpenSpec.ofChange s with cond := some uptoSmall }

/-- 'clepsydralaw18.AlignMakes', WHERE WHAT IT READS IS OF BULK AT MOST 1048576: true; the input reads as it did. -/
def alignMakesUptoRow : OpenClaim := { program := "ytgbklmncfajcgaa", sum := "14c128393046f72447a13175b7ae3081c609050eb404ae7542c85dcbb715c96b", func := "clepsydra/clepsydralaw18.AlignMakes", spec := "alignMakes", unfollowed := true, recurses := true, apart := false, narrowed := true }
def AlignMakesUptoSaid : Prop := alignMakesUptoRow.holds Try.pinned (OpenSpec.upto alignMakesSpec)

/-- 'clepsydralaw18.AlignOffers', WHERE WHAT IT READS IS OF BULK AT MOST 1048576: true; the input reads as it did. -/
def alignOffersUptoRow : OpenClaim := { program := "ytgbklmncfajcgaa", sum := "14c128393046f72447a13175b7ae3081c609050eb404ae7542c85dcbb715c96b", func := "clepsydra/clepsydralaw18.AlignOffers", spec := "alignOffers", unfollowed := true, recurses := true, apart := false, narrowed := true }
def AlignOffersUptoSaid : Prop := alignOffersUptoRow.holds Try.pinned (OpenSpec.upto alignOffersSpec)

/-- 'clepsydralaw18.AlignCuts', WHERE WHAT IT READS IS OF BULK AT MOST 1048576: true; the input reads as it did. -/
def alignCutsUptoRow : OpenClaim := { program := "ytgbklmncfajcgaa", sum := "14c128393046f72447a13175b7ae3081c609050eb404ae7542c85dcbb715c96b", func := "clepsydra/clepsydralaw18.AlignCuts", spec := "alignCuts", unfollowed := true, recurses := true, apart := false, narrowed := true }
def AlignCutsUptoSaid : Prop := alignCutsUptoRow.holds Try.pinned (OpenSpec.upto alignCutsSpec)

/-- 'clepsydralaw18.AlignHolds', WHERE WHAT IT READS IS OF BULK AT MOST 1048576: true; the input reads as it did. -/
def alignHoldsUptoRow : OpenClaim := { program := "ytgbklmncfajcgaa", sum := "14c128393046f72447a13175b7ae3081c609050eb404ae7542c85dcbb715c96b", func := "clepsydra/clepsydralaw18.AlignHolds", spec := "alignHolds", unfollowed := true, recurses := true, apart := false, narrowed := true }
def AlignHoldsUptoSaid : Prop := alignHoldsUptoRow.holds Try.pinned (OpenSpec.upto alignHoldsSpec)

/-- 'clepsydralaw18.AlignOne', WHERE WHAT IT READS IS OF BULK AT MOST 1048576: true; the input reads as it did. -/
def alignOneUptoRow : OpenClaim := { program := "ytgbklmncfajcgaa", sum := "14c128393046f72447a13175b7ae3081c609050eb404ae7542c85dcbb715c96b", func := "clepsydra/clepsydralaw18.AlignOne", spec := "alignOne", unfollowed := true, recurses := true, apart := false, narrowed := true }
def AlignOneUptoSaid : Prop := alignOneUptoRow.holds Try.pinned (OpenSpec.upto alignOneSpec)

/-- 'clepsydralaw18.AlignFresh', WHERE WHAT IT READS IS OF BULK AT MOST 1048576: true; the input reads as it did. -/
def alignFreshUptoRow : OpenClaim := { program := "ytgbklmncfajcgaa", sum := "14c128393046f72447a13175b7ae3081c609050eb404ae7542c85dcbb715c96b", func := "clepsydra/clepsydralaw18.AlignFresh", spec := "alignFresh", unfollowed := true, recurses := true, apart := false, narrowed := true }
def AlignFreshUptoSaid : Prop := alignFreshUptoRow.holds Try.pinned (OpenSpec.upto alignFreshSpec)

end Rows
end Go.Proofs.Ytgbklmncfajcgaa
