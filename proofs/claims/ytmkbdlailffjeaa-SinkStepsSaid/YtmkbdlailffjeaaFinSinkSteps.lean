/- SinkSteps: Whatever sink and place come in: to commit a stage is to commit all stages ahead of it, one behind the other, and then it; the law returns true and leaves its arguments as they were. No condition. No condition: every input that can be read. -/
import Derived.Test.YtmkbdlailffjeaaLawsSink
namespace Go.Proofs.Ytmkbdlailffjeaa.sinkSteps
open Go.ChangeShapes Go.WideShapes Go.ChangeAt Go.RowKit
theorem specIs (H : Type) (ds : List (DataW H)) (h : ds.length = 2) : Rows.sinkStepsSpec.fn H ds = { results := [.lit (.bool true)], args := ds } := by
  match ds, h with
  | [d0, d1], _ => rfl
set_option maxRecDepth 100000 in
theorem lifted (os : Os) (started : os.Started) (H : Type) (enc : TypeId × Value → H) :
    ReturnsInHanded {} Try.checked os 7 .any (Rows.sinkStepsSpec.pre6 enc Try.prog Try.f7 Rows.sinkStepsRow.domain false) (Rows.sinkStepsSpec.post enc Try.prog Try.f7 false true false false) :=
  Lift.lifted Try.func7 (by kernel_rfl) rfl rfl Try.underlying4 (by rw [Try.params7]; intro t ht; simp only [List.mem_cons, List.not_mem_nil, or_false] at ht; rcases ht with rfl | rfl <;> exact ⟨by kernel_rfl, of_decide_eq_true (by kernel_rfl)⟩)
    (fun H ds h => specIs H ds (by rw [Try.params7] at h; exact h)) (by rw [Try.params7]; exact lawSinkSteps) os started H enc
    (ChangeSpec.witness6 (enc := enc) (C := Try.checked) false ⟨#[], #[.agg #[.slice none 0 0, .slice none 0 0, .int .i64 0, .slice none 0 0], .int .i64 0], []⟩ 8 (by kernel_rfl) (by kernel_rfl) (by kernel_rfl) (by kernel_rfl))
theorem over : Rows.sinkStepsRow.holds Try.pinned (OpenSpec.ofChange Rows.sinkStepsSpec) :=
  OpenClaim.holds_of_wide 7 Try.f7 rfl rfl rfl rfl rfl rfl rfl ⟨rfl, rfl, rfl, rfl, rfl⟩ rfl rfl rfl rfl rfl (by kernel_rfl) Try.func7 (by kernel_rfl)
    (of_decide_eq_true (by kernel_rfl)) (by unfold Func.isWrapper; first | (rw [if_pos (by decide +kernel)]; kernel_rfl) | (rw [if_neg (by decide +kernel)]; exact ⟨rfl, rfl⟩))
    (fun os started H enc _ => lifted os started H enc)
theorem proved : Rows.SinkStepsSaid := over
#print axioms proved
end Go.Proofs.Ytmkbdlailffjeaa.sinkSteps
