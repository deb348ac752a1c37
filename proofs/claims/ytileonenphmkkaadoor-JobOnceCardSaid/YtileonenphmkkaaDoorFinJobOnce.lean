/- JobOnce: what is parsed of any text, printed, is the text No condition: every input that can be read. -/
import Derived.Test.YtileonenphmkkaaDoorLawsJobB
import Derived.Test.YtileonenphmkkaaDoorCards
import Derived.Test.YtileonenphmkkaaDoorTie
import Derived.Test.YtileonenphmkkaaDoorLiftLaid
import Derived.SevenTiedAt
namespace Go.Proofs.YtileonenphmkkaaDoor.jobOnce
open Go.ChangeShapes Go.WideShapes Go.ChangeAt Go.RowKit
theorem specIs (H : Type) (ds : List (DataW H)) (h : ds.length = 1) : Rows.jobOnceSpec.fn H ds = { results := [.lit (.bool true)], args := ds } := by
  match ds, h with
  | [d0], _ => rfl
theorem noHandles : (((Rows.jobOnceRow.laid) : List (String × DataW Unit)).filter fun x => x.2.handleName?.isSome) = [] := by kernel_rfl
set_option maxRecDepth 100000 in
theorem lifted (os : Os) (started : os.Started) (H : Type) (enc : TypeId × Value → H) :
    ReturnsInHanded {} Tryd.checked os 6 .any (fun w args => (Rows.jobOnceSpec.pre enc Tryd.prog Tryd.f6 Rows.jobOnceRow.domain false w args ∧ laidMetH Tryd.prog (Rows.jobOnceRow.laid) w) ∧ sizedMet enc Tryd.prog Tryd.f6 (OpenSpec.ofChange Rows.jobOnceSpec) false w args) (Rows.jobOnceSpec.post enc Tryd.prog Tryd.f6 false true false false) :=
  Lift.liftedVars (X := (fun w _ => laidMetH Tryd.prog (Rows.jobOnceRow.laid) w)) (Y := Jo.Vr) (fun _ _ _ hh h => Lift.laidMetH_heap noHandles hh h) (fun w _ h => laidToJobOnce w h) Tryd.func6 (by kernel_rfl) rfl rfl Tryd.underlying4 (by rw [Tryd.params6]; intro t ht; simp only [List.mem_cons, List.not_mem_nil, or_false] at ht; rcases ht with rfl <;> exact ⟨by kernel_rfl, of_decide_eq_true (by kernel_rfl)⟩)
    (fun H ds h => specIs H ds (by rw [Tryd.params6] at h; exact h)) (by rw [Tryd.params6]; exact lawJobOnce) os started H enc
    (ChangeSpec.witness_shaped (enc := enc) (C := Tryd.checked) (os := os) (X := (fun w _ => laidMetH Tryd.prog (Rows.jobOnceRow.laid) w)) false (World.laidAll Tryd.prog os (Rows.jobOnceRow.laid)) #[.string ByteArray.empty] 8 (World.laidAll_os _ _ _) (World.shaped_of_ZipB (by kernel_rfl) (by kernel_rfl)) (by kernel_rfl) (by kernel_rfl) (by kernel_rfl)
      (Lift.laidMetH_of noHandles (laidMet_laidAll _ (by kernel_rfl) (by kernel_rfl))))
theorem over : Rows.jobOnceRow.holds Tryd.pinned (OpenSpec.ofChange Rows.jobOnceSpec) :=
  OpenClaim.holds_of_wide 6 Tryd.f6 rfl rfl rfl rfl rfl rfl rfl ⟨rfl, rfl, rfl, rfl, rfl⟩ rfl rfl rfl rfl rfl (by kernel_rfl) Tryd.func6 (by kernel_rfl)
    (of_decide_eq_true (by kernel_rfl)) (by unfold Func.isWrapper; first | (rw [if_pos (by decide +kernel)]; kernel_rfl) | (rw [if_neg (by decide +kernel)]; exact ⟨rfl, rfl⟩))
    (fun os started H enc _ => lifted os started H enc)
theorem proved : Rows.JobOnceCardSaid :=
  Claim7.holds_tied_plain_at .later [] [.data, .data, .data, .data, .sentinel, .sentinel, .pinned] true (true, "ddd13077d50192742705e4343c8ef4cf39592110503bc8340c32e1d1e3e9a4a1") true
    over (fun _ h => by cases h) (by kernel_rfl) (fun _ h => by cases h) jobOnce_row_tie rfl ⟨rfl, rfl⟩ (by kernel_rfl) rfl
    (fun f fn hf hfn => by
      obtain rfl : f = 6 := Option.some.inj ((show Tryd.prog.funcNamed "clepsydra/clepsydralaw13.JobOnce" = some 6 by kernel_rfl).symm.trans hf) |>.symm
      obtain rfl : fn = Tryd.f6 := (Option.some.inj (Tryd.func6.symm.trans hfn)).symm
      exact ⟨by kernel_rfl, fun j t ht => by
        rw [Tryd.params6] at ht
        have hm : t ∈ [9] := by simpa using Array.mem_of_getElem? ht
        have hall : ([9].all fun u => !Tryd.prog.wantsStandIn u) = true := by kernel_rfl
        exact (show Tryd.prog.wantsStandIn t = false by simpa using List.all_eq_true.1 hall t hm)⟩)
    (by kernel_rfl)
#print axioms proved
end Go.Proofs.YtileonenphmkkaaDoor.jobOnce
