/- A law's statement from its walk, where the row lists package-level variables: the walk does not ask what they hold. -/
import Derived.Test.YtileonenphmkkaaDoorLift
import Derived.LaidLaws
import Derived.Lay
namespace Go.Proofs.YtileonenphmkkaaDoor
open Go.ChangeShapes Go.WideShapes Go.ChangeAt Go.RowKit
set_option linter.unusedVariables false
namespace Lift
set_option maxRecDepth 100000 in
theorem liftedLaid {f : FuncId} {fn : Func} {s : ChangeSpec} {tb : TypeId} {conds : List PathCond} {X : World → Array Value → Prop} (hX : ∀ (w w' : World) (args : Array Value), w.heap = w'.heap → X w args → X w' args)
    (hf : Tryd.prog.funcs[f]? = some fn) (noInit : Tryd.prog.inits.idxOf? f = none)
    (hvars : s.vars = []) (hres : fn.resultTypes = #[tb]) (htb : Tryd.prog.underlying tb = some .bool) (hpar : ∀ t ∈ fn.params.toList, Tryd.prog.readableRec t = true ∧ t < Tryd.prog.types.size)
    (hs : ∀ (H : Type) (ds : List (DataW H)), ds.length = fn.params.toList.length → s.fn H ds = { results := [.lit (.bool true)], args := ds })
    (walk : Owes f fn.params.toList) (os : Os) (started : os.Started) (H : Type) (enc : TypeId × Value → H)
    (witness : ∃ (w : World) (tape : Tape) (i : Input), w.os = os ∧ (w.forCall tape i).Shaped Tryd.prog ∧ i.vars = [] ∧ Input.okWide Tryd.prog (w.forCall tape i) .any w.heap.size f i ∧
      ((s.pre enc Tryd.prog fn conds false (w.forCall tape i).memory i.args ∧ X (w.forCall tape i).memory i.args) ∧ sizedMet enc Tryd.prog fn (OpenSpec.ofChange s) false (w.forCall tape i).memory i.args) ∧ Assume.holds {} Tryd.checked.prog (lone (Frame.enter Tryd.prog f i.args .normal) [] (w.forCall tape i))) :
    ReturnsInHanded {} Tryd.checked os f .any (fun w args => (s.pre enc Tryd.prog fn conds false w args ∧ X w args) ∧ sizedMet enc Tryd.prog fn (OpenSpec.ofChange s) false w args) (s.post enc Tryd.prog fn false true false false) := by
  refine returnsInHanded_of_change_and (C := Tryd.checked) (X := X) hX own started noInit hf witness ?_
  intro W base args ds gs before hval hW _ hsz _ _
  obtain ⟨rfl, hA⟩ := whole_parts hvars hW
  have hwt : (DataW.weightsEach Tryd.prog fn.params.toList ds).all (· ≤ reachBytes) = true := by
    have h := hsz
    have e : s.plain.varTypes Tryd.checked.prog = [] := by simp [ChangeSpec.plain, DataSpec.varTypes, hvars]
    rw [e, List.append_nil, List.append_nil] at h
    exact h
  refine (walk H enc W base args ds before (fun j t v ht hv => hval j t v (by simpa using ht) hv) hA (fun x hx => hW.lt x hx) hwt).mono fun e W' ⟨he, hb⟩ => ?_
  subst he
  exact ⟨_, rfl, law_post laidOut hvars hres htb hpar hA hW (by rw [List.append_nil]; exact hs H ds (trodAll_len _ _ _ _ hA)) hb⟩
theorem laidMetH_of {P : Program} {l : List (String × DataW Unit)} {w : World} (h0 : (l.filter fun x => x.2.handleName?.isSome) = []) (h : laidMet P l w) : laidMetH P l w := by
  unfold laidMetH
  rw [h0]
  exact h
theorem laidMetH_heap {P : Program} {l : List (String × DataW Unit)} {w w' : World} (h0 : (l.filter fun x => x.2.handleName?.isSome) = []) (hh : w.heap = w'.heap) (h : laidMetH P l w) : laidMetH P l w' := by
  unfold laidMetH at h ⊢
  rw [h0] at h ⊢
  exact h.of_heap hh
end Lift
end Go.Proofs.YtileonenphmkkaaDoor
