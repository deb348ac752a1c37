/- A region that draws its order and has too many orders to go through one by one: one invariant for all of them. -/
import Derived.Test.YtileonenphmkkaaDoorMem
import Derived.Deep.RegionHeld3
namespace Go.Proofs.YtileonenphmkkaaDoor
open Go.RowKit
set_option linter.unusedVariables false
section
variable {P : Program} {ops : Array Oper} {Q : Exit → Act → World → Prop} {md : Region.Mode} {S : World → Prop}
/-- Each of the operations rs that comes up next leads to what G says. -/
def Steps (P : Program) (ops : Array Oper) (Q : Exit → Act → World → Prop) (G : Array Bool → Act → World → Prop) (listed : Array Bool) (a : Act) (w : World) (rs : List Nat) : Prop :=
  ∀ i ∈ rs, wpOp P ops Q i (fun a' w' => G (listed.setIfInBounds i true) a' w') a w
theorem Steps.nil {G : Array Bool → Act → World → Prop} {listed : Array Bool} {a : Act} {w : World} : Steps P ops Q G listed a w [] := fun _ h => by cases h
theorem Steps.cons {G : Array Bool → Act → World → Prop} {listed : Array Bool} {a : Act} {w : World} {i : Nat} {o : Oper} {rs : List Nat} (ho : ops[i]? = some o)
    (h : ∀ K' : Act → World → Prop, Shut (∀ a w, G (listed.setIfInBounds i true) a w → K' a w) → if Region.wanted o (yielded ops a.tmps) = true then Oper.wp P o a w K' Q else K' (a.put o.dst undef) w)
    (hs : Steps P ops Q G listed a w rs) : Steps P ops Q G listed a w (i :: rs) := fun j hj => by
  rcases List.mem_cons.1 hj with rfl | hj
  · exact wpOp_step ho (fun K' hK => h K' hK)
  · exact hs j hj
/-- n steps of which each keeps the invariant, then m steps more. -/
theorem any_ways {Inv : Nat → Array Bool → Act → World → Prop} {m : Nat} (hS : ∀ n listed a w, Inv n listed a w → S w)
    (hend : ∀ listed a w, Inv 0 listed a w → wpAnyH P md ops Q S m listed a w)
    (hstep : ∀ n listed a w, Inv (n + 1) listed a w → ∃ rs, Region.ready md ops listed = rs ∧ rs ≠ [] ∧ Steps P ops Q (Inv n) listed a w rs) :
    ∀ n listed a w, Inv n listed a w → wpAnyH P md ops Q S (n + m) listed a w := by
  intro n
  induction n with
  | zero => intro listed a w h; rw [Nat.zero_add]; exact hend _ _ _ h
  | succ n ih =>
    intro listed a w h
    obtain ⟨rs, hr, hne, hs⟩ := hstep n listed a w h
    rw [show n + 1 + m = n + m + 1 from by omega]
    exact wpAnyH_all hr hne fun i hi => wpOp_mono (fun a' w' h' => ⟨hS _ _ _ _ h', ih _ _ _ h'⟩) (hs i hi)
end
end Go.Proofs.YtileonenphmkkaaDoor
