/- JobPrints: any job is written as just those lines, or refused, as the document says No condition: every input that can be read. -/
import Derived.Test.YtileonenphmkkaaDoorLawsJobC
import Derived.Test.YtileonenphmkkaaDoorCards
import Derived.Test.YtileonenphmkkaaDoorTie
import Derived.Test.YtileonenphmkkaaDoorLiftLaid
import Derived.SevenTiedAt
namespace Go.Proofs.YtileonenphmkkaaDoor.jobPrints
open Go.ChangeShapes Go.WideShapes Go.ChangeAt Go.RowKit
theorem specIs (H : Type) (ds : List (DataW H)) (h : ds.length = 1) : Rows.jobPrintsSpec.fn H ds = { results := [.lit (.bool true)], args := ds } := by
  match ds, h with
  | [d0], _ => rfl
theorem noHandles : (((Rows.jobPrintsRow.laid) : List (String × DataW Unit)).filter fun x => x.2.handleName?.isSome) = [] := by kernel_rfl
set_option maxRecDepth 100000 in
theorem lifted (os : Os) (started : os.Started) (H : Type) (enc : TypeId × Value → H) :
    ReturnsInHanded {} Tryd.checked os 3 .any (fun w args => (Rows.jobPrintsSpec.pre enc Tryd.prog Tryd.f3 Rows.jobPrintsRow.domain false w args ∧ laidMetH Tryd.prog (Rows.jobPrintsRow.laid) w) ∧ sizedMet enc Tryd.prog Tryd.f3 (OpenSpec.ofChange Rows.jobPrintsSpec) false w args) (Rows.jobPrintsSpec.post enc Tryd.prog Tryd.f3 false true false false) :=
  Lift.liftedVars (X := (fun w _ => laidMetH Tryd.prog (Rows.jobPrintsRow.laid) w)) (Y := Jo.Tb) (fun _ _ _ hh h => Lift.laidMetH_heap noHandles hh h) (fun w _ h => laidToJobPrints w h) Tryd.func3 (by kernel_rfl) rfl rfl Tryd.underlying4 (by rw [Tryd.params3]; intro t ht; simp only [List.mem_cons, List.not_mem_nil, or_false] at ht; rcases ht with rfl <;> exact ⟨by kernel_rfl, of_decide_eq_true (by kernel_rfl)⟩)
    (fun H ds h => specIs H ds (by rw [Tryd.params3] at h; exact h)) (by rw [Tryd.params3]; exact lawJobPrints) os started H enc
    (ChangeSpec.witness_shaped (enc := enc) (C := Tryd.checked) (os := os) (X := (fun w _ => laidMetH Tryd.prog (Rows.jobPrintsRow.laid) w)) false (World.laidAll Tryd.prog os (Rows.jobPrintsRow.laid)) #[.agg #[.int .i64 0, .int .i64 0, .int .i64 0, .int .i64 0, .int .i64 0, .int .i64 0, .int .i64 0, .int .i64 0]] 8 (World.laidAll_os _ _ _) (World.shaped_of_ZipB (by kernel_rfl) (by kernel_rfl)) (by kernel_rfl) (by kernel_rfl) (by kernel_rfl)
      (Lift.laidMetH_of noHandles (laidMet_laidAll _ (by kernel_rfl) (by kernel_rfl))))
theorem over : Rows.jobPrintsRow.holds Tryd.pinned (OpenSpec.ofChange Rows.jobPrintsSpec) :=
  OpenClaim.holds_of_wide 3 Tryd.f3 rfl rfl rfl rfl rfl rfl rfl ⟨rfl, rfl, rfl, rfl, rfl⟩ rfl rfl rfl rfl rfl (by kernel_rfl) Tryd.func3 (by kernel_rfl)
    (of_decide_eq_true (by kernel_rfl)) (by unfold Func.isWrapper; first | (rw [if_pos (by decide +kernel)]; kernel_rfl) | (rw [if_neg (by decide +kernel)]; exact ⟨rfl, rfl⟩))
    (fun os started H enc _ => lifted os started H enc)
theorem proved : Rows.JobPrintsCardSaid :=
  Claim7.holds_tied_plain_at .later [] [.data, .data, .data] true (true, "ddd13077d50192742705e4343c8ef4cf39592110503bc8340c32e1d1e3e9a4a1") true
    over (fun _ h => by cases h) (by kernel_rfl) (fun _ h => by cases h) jobPrints_row_tie rfl ⟨rfl, rfl⟩ (by kernel_rfl) rfl
    (fun f fn hf hfn => by
      obtain rfl : f = 3 := Option.some.inj ((show Tryd.prog.funcNamed "clepsydra/clepsydralaw13.JobPrints" = some 3 by kernel_rfl).symm.trans hf) |>.symm
      obtain rfl : fn = Tryd.f3 := (Option.some.inj (Tryd.func3.symm.trans hfn)).symm
      exact ⟨by kernel_rfl, fun j t ht => by
        rw [Tryd.params3] at ht
        have hm : t ∈ [23] := by simpa using Array.mem_of_getElem? ht
        have hall : ([23].all fun u => !Tryd.prog.wantsStandIn u) = true := by kernel_rfl
        exact (show Tryd.prog.wantsStandIn t = false by simpa using List.all_eq_true.1 hall t hm)⟩)
    (by kernel_rfl)
#print axioms proved
end Go.Proofs.YtileonenphmkkaaDoor.jobPrints
