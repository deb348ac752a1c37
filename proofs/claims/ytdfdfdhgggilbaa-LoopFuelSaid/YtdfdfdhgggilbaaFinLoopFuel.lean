/- LoopFuel: more fuel has an event go round no less, what left with fuel to spare leaves the same with more fuel, and what leaves is no greater in amount, and of no other key and time No condition: every input that can be read. -/
import Derived.Test.YtdfdfdhgggilbaaLawsLoopB
namespace Go.Proofs.Ytdfdfdhgggilbaa.loopFuel
open Go.ChangeShapes Go.WideShapes Go.ChangeAt Go.RowKit
theorem specIs (H : Type) (ds : List (DataW H)) (h : ds.length = 4) : Rows.loopFuelSpec.fn H ds = { results := [.lit (.bool true)], args := ds } := by
  match ds, h with
  | [d0, d1, d2, d3], _ => rfl
set_option maxRecDepth 100000 in
theorem lifted (os : Os) (started : os.Started) (H : Type) (enc : TypeId × Value → H) :
    ReturnsInHanded {} Try.checked os 6 .any (Rows.loopFuelSpec.pre6 enc Try.prog Try.f6 Rows.loopFuelRow.domain false) (Rows.loopFuelSpec.post enc Try.prog Try.f6 false true false false) :=
  Lift.lifted Try.func6 (by kernel_rfl) rfl rfl Try.underlying4 (by rw [Try.params6]; intro t ht; simp only [List.mem_cons, List.not_mem_nil, or_false] at ht; rcases ht with rfl | rfl | rfl | rfl <;> exact ⟨by kernel_rfl, of_decide_eq_true (by kernel_rfl)⟩)
    (fun H ds h => specIs H ds (by rw [Try.params6] at h; exact h)) (by rw [Try.params6]; exact lawLoopFuel) os started H enc
    (ChangeSpec.witness6 (enc := enc) (C := Try.checked) false ⟨#[], #[.agg #[.string ByteArray.empty, .int .i64 0, .int .i64 0], .int .i64 0, .int .i64 0, .int .i64 0], []⟩ 8 (by kernel_rfl) (by kernel_rfl) (by kernel_rfl) (by kernel_rfl))
theorem over : Rows.loopFuelRow.holds Try.pinned (OpenSpec.ofChange Rows.loopFuelSpec) :=
  OpenClaim.holds_of_wide 6 Try.f6 rfl rfl rfl rfl rfl rfl rfl ⟨rfl, rfl, rfl, rfl, rfl⟩ rfl rfl rfl rfl rfl (by kernel_rfl) Try.func6 (by kernel_rfl)
    (of_decide_eq_true (by kernel_rfl)) (by unfold Func.isWrapper; first | (rw [if_pos (by decide +kernel)]; kernel_rfl) | (rw [if_neg (by decide +kernel)]; exact ⟨rfl, rfl⟩))
    (fun os started H enc _ => lifted os started H enc)
theorem proved : Rows.LoopFuelSaid := over
#print axioms proved
end Go.Proofs.Ytdfdfdhgggilbaa.loopFuel
