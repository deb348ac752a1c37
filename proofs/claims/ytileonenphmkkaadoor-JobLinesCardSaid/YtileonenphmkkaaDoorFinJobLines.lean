/- JobLines: a job's text without one of its lines is refused at that line, with a line more at the seventh No condition: every input that can be read. -/
import Derived.Test.YtileonenphmkkaaDoorLawsJobF
import Derived.Test.YtileonenphmkkaaDoorCards
import Derived.Test.YtileonenphmkkaaDoorTie
import Derived.Test.YtileonenphmkkaaDoorLiftLaid
import Derived.SevenTiedAt
namespace Go.Proofs.YtileonenphmkkaaDoor.jobLines
open Go.ChangeShapes Go.WideShapes Go.ChangeAt Go.RowKit
theorem specIs (H : Type) (ds : List (DataW H)) (h : ds.length = 3) : Rows.jobLinesSpec.fn H ds = { results := [.lit (.bool true)], args := ds } := by
  match ds, h with
  | [d0, d1, d2], _ => rfl
theorem noHandles : (((Rows.jobLinesRow.laid) : List (String × DataW Unit)).filter fun x => x.2.handleName?.isSome) = [] := by kernel_rfl
set_option maxRecDepth 100000 in
theorem lifted (os : Os) (started : os.Started) (H : Type) (enc : TypeId × Value → H) :
    ReturnsInHanded {} Tryd.checked os 7 .any (fun w args => (Rows.jobLinesSpec.pre enc Tryd.prog Tryd.f7 Rows.jobLinesRow.domain false w args ∧ laidMetH Tryd.prog (Rows.jobLinesRow.laid) w) ∧ sizedMet enc Tryd.prog Tryd.f7 (OpenSpec.ofChange Rows.jobLinesSpec) false w args) (Rows.jobLinesSpec.post enc Tryd.prog Tryd.f7 false true false false) :=
  Lift.liftedVars (X := (fun w _ => laidMetH Tryd.prog (Rows.jobLinesRow.laid) w)) (Y := Jo.Vr) (fun _ _ _ hh h => Lift.laidMetH_heap noHandles hh h) (fun w _ h => laidToJobLines w h) Tryd.func7 (by kernel_rfl) rfl rfl Tryd.underlying4 (by rw [Tryd.params7]; intro t ht; simp only [List.mem_cons, List.not_mem_nil, or_false] at ht; rcases ht with rfl | rfl | rfl <;> exact ⟨by kernel_rfl, of_decide_eq_true (by kernel_rfl)⟩)
    (fun H ds h => specIs H ds (by rw [Tryd.params7] at h; exact h)) (by rw [Tryd.params7]; exact lawJobLines) os started H enc
    (ChangeSpec.witness_shaped (enc := enc) (C := Tryd.checked) (os := os) (X := (fun w _ => laidMetH Tryd.prog (Rows.jobLinesRow.laid) w)) false (World.laidAll Tryd.prog os (Rows.jobLinesRow.laid)) #[.agg #[.int .i64 0, .int .i64 0, .int .i64 0, .int .i64 0, .int .i64 0, .int .i64 0, .int .i64 0, .int .i64 0], .int .i64 0, .string ByteArray.empty] 8 (World.laidAll_os _ _ _) (World.shaped_of_ZipB (by kernel_rfl) (by kernel_rfl)) (by kernel_rfl) (by kernel_rfl) (by kernel_rfl)
      (Lift.laidMetH_of noHandles (laidMet_laidAll _ (by kernel_rfl) (by kernel_rfl))))
theorem over : Rows.jobLinesRow.holds Tryd.pinned (OpenSpec.ofChange Rows.jobLinesSpec) :=
  OpenClaim.holds_of_wide 7 Tryd.f7 rfl rfl rfl rfl rfl rfl rfl ⟨rfl, rfl, rfl, rfl, rfl⟩ rfl rfl rfl rfl rfl (by kernel_rfl) Tryd.func7 (by kernel_rfl)
    (of_decide_eq_true (by kernel_rfl)) (by unfold Func.isWrapper; first | (rw [if_pos (by decide +kernel)]; kernel_rfl) | (rw [if_neg (by decide +kernel)]; exact ⟨rfl, rfl⟩))
    (fun os started H enc _ => lifted os started H enc)
theorem proved : Rows.JobLinesCardSaid :=
  Claim7.holds_tied_plain_at .later [] [.data, .data, .data, .data, .sentinel, .sentinel, .pinned] true (true, "ddd13077d50192742705e4343c8ef4cf39592110503bc8340c32e1d1e3e9a4a1") true
    over (fun _ h => by cases h) (by kernel_rfl) (fun _ h => by cases h) jobLines_row_tie rfl ⟨rfl, rfl⟩ (by kernel_rfl) rfl
    (fun f fn hf hfn => by
      obtain rfl : f = 7 := Option.some.inj ((show Tryd.prog.funcNamed "clepsydra/clepsydralaw13.JobLines" = some 7 by kernel_rfl).symm.trans hf) |>.symm
      obtain rfl : fn = Tryd.f7 := (Option.some.inj (Tryd.func7.symm.trans hfn)).symm
      exact ⟨by kernel_rfl, fun j t ht => by
        rw [Tryd.params7] at ht
        have hm : t ∈ [23, 3, 9] := by simpa using Array.mem_of_getElem? ht
        have hall : ([23, 3, 9].all fun u => !Tryd.prog.wantsStandIn u) = true := by kernel_rfl
        exact (show Tryd.prog.wantsStandIn t = false by simpa using List.all_eq_true.1 hall t hm)⟩)
    (by kernel_rfl)
#print axioms proved
end Go.Proofs.YtileonenphmkkaaDoor.jobLines
