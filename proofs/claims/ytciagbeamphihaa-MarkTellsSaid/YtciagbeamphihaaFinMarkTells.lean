/- MarkTells: what any marks (of at most 100 inputs and 100 holds) tell, and whether it is a later time, is as the document says No condition: every input that can be read. -/
import Derived.Test.YtciagbeamphihaaLawsMarkC
namespace Go.Proofs.Ytciagbeamphihaa.markTells
open Go.ChangeShapes Go.WideShapes Go.ChangeAt Go.RowKit
theorem specIs (H : Type) (ds : List (DataW H)) (h : ds.length = 1) : Rows.markTellsSpec.fn H ds = { results := [.lit (.bool true)], args := ds } := by
  match ds, h with
  | [d0], _ => rfl
set_option maxRecDepth 100000 in
theorem lifted (os : Os) (started : os.Started) (H : Type) (enc : TypeId × Value → H) :
    ReturnsInHanded {} Try.checked os 5 .any (Rows.markTellsSpec.pre6 enc Try.prog Try.f5 Rows.markTellsRow.domain false) (Rows.markTellsSpec.post enc Try.prog Try.f5 false true false false) :=
  Lift.lifted Try.func5 (by kernel_rfl) rfl rfl Try.underlying4 (by rw [Try.params5]; intro t ht; simp only [List.mem_cons, List.not_mem_nil, or_false] at ht; rcases ht with rfl <;> exact ⟨by kernel_rfl, of_decide_eq_true (by kernel_rfl)⟩)
    (fun H ds h => specIs H ds (by rw [Try.params5] at h; exact h)) (by rw [Try.params5]; exact lawMarkTells) os started H enc
    (ChangeSpec.witness6 (enc := enc) (C := Try.checked) false ⟨#[], #[.agg #[.slice none 0 0, .slice none 0 0, .int .i64 0]], []⟩ 8 (by kernel_rfl) (by kernel_rfl) (by kernel_rfl) (by kernel_rfl))
theorem over : Rows.markTellsRow.holds Try.pinned (OpenSpec.ofChange Rows.markTellsSpec) :=
  OpenClaim.holds_of_wide 5 Try.f5 rfl rfl rfl rfl rfl rfl rfl ⟨rfl, rfl, rfl, rfl, rfl⟩ rfl rfl rfl rfl rfl (by kernel_rfl) Try.func5 (by kernel_rfl)
    (of_decide_eq_true (by kernel_rfl)) (by unfold Func.isWrapper; first | (rw [if_pos (by decide +kernel)]; kernel_rfl) | (rw [if_neg (by decide +kernel)]; exact ⟨rfl, rfl⟩))
    (fun os started H enc _ => lifted os started H enc)
theorem proved : Rows.MarkTellsSaid := over
#print axioms proved
end Go.Proofs.Ytciagbeamphihaa.markTells
