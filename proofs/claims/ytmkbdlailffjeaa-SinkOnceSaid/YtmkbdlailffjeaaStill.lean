/- A region that draws its order, whose operations but the last ones only read and call quietly: the world under one name. -/
import Derived.Test.YtmkbdlailffjeaaMem
import Derived.StillTailTactics
namespace Go.Proofs.Ytmkbdlailffjeaa
open Go.RowKit
theorem still_of {P : Program} {f : FuncId} {args : Array Value} {w : World} {v : Value} (h : Calls P f args w fun e w' => e = .returned v ∧ w = w') : Calls P f args w fun e w'' => e = .returned v ∧ w'' = w :=
  h.mono fun _ _ ⟨h1, h2⟩ => ⟨h1, h2.symm⟩
theorem still_tail {P : Program} {id : Nat} {Q : Exit → Act → World → Prop} {a : Act} {w : World} {l : List Oper} (n : Nat) (hm : P.follows .mixedOrders = true) (hB : Region.lexTailB .any l.toArray n = true)
    (h : ∀ w1, w.drew = w1 → wpStill P l.toArray w1 (fun a' => wpList P l.toArray Q (l.drop n) a' w1) (l.take n) a) : (Code.region id l.toArray true).wp P Q a w :=
  wp_region_still_tail n hm hB (h _ rfl)
theorem Lies.drew {b : Nat} {C : Array Value} {T : TypeId} {w : World} (h : Lies b C T w) : Lies b C T w.drew := h
theorem Lies.below {b : Nat} {C : Array Value} {T : TypeId} {w w' : World} (h : Lies b C T w) (hb : Below w.heap.size w w') : Lies b C T w' := (hb.block b (lt_of_block h)).trans h
theorem Lies.set3 {b : Nat} {T : TypeId} {w : World} {u0 u1 u2 : Value} (h : Lies b #[u0, u1, u2] T w) (v0 v1 v2 : Value) : Lies b #[v0, v1, v2] T (((w.setCell ⟨b, 0, none⟩ v0).setCell ⟨b, 1, none⟩ v1).setCell ⟨b, 2, none⟩ v2) := by
  have h2 := ((h.set 0 v0).set 1 v1).set 2 v2
  simpa using h2
theorem below_set3 {B b : Nat} {u w : World} (h : Below B u w) (hb : B ≤ b) (v0 v1 v2 : Value) : Below B u (((w.setCell ⟨b, 0, none⟩ v0).setCell ⟨b, 1, none⟩ v1).setCell ⟨b, 2, none⟩ v2) :=
  ((h.setCell (p := ⟨b, 0, none⟩) hb v0).setCell (p := ⟨b, 1, none⟩) hb v1).setCell (p := ⟨b, 2, none⟩) hb v2
end Go.Proofs.Ytmkbdlailffjeaa
