/- Contract of All. -/
import Derived.Test.YtklpfifellghlaaFoldJoin
import Derived.Deep.RegionWith
namespace Go.Proofs.Ytklpfifellghlaa
open Go.RowKit
open Acm
set_option linter.unusedVariables false
abbrev AT : TypeId := 50
/-- Behind j values. -/
structure AllAt (w : World) (k : Int) (zs : List Int) (i : Value) (wr : World) : Prop where
  at_ : ∃ j : Nat, i = .int .i64 j ∧ j ≤ zs.length ∧ Lies (w.heap.size + 1) (acC (all k (zs.take j))) 50 wr
  out : Lies w.heap.size (acC zero) 50 wr
  below : Below w.heap.size w wr
end Go.Proofs.Ytklpfifellghlaa
