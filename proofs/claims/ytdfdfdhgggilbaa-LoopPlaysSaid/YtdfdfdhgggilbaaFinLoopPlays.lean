/- LoopPlays: whatever is put and stepped, one behind the other, up to 300 acts, each answer is as the document says No condition: every input that can be read. -/
import Derived.Test.YtdfdfdhgggilbaaLawsLoopE
namespace Go.Proofs.Ytdfdfdhgggilbaa.loopPlays
open Go.ChangeShapes Go.WideShapes Go.ChangeAt Go.RowKit
theorem specIs (H : Type) (ds : List (DataW H)) (h : ds.length = 4) : Rows.loopPlaysSpec.fn H ds = { results := [.lit (.bool true)], args := ds } := by
  match ds, h with
  | [d0, d1, d2, d3], _ => rfl
set_option maxRecDepth 100000 in
theorem lifted (os : Os) (started : os.Started) (H : Type) (enc : TypeId × Value → H) :
    ReturnsInHanded {} Try.checked os 4 .any (Rows.loopPlaysSpec.pre6 enc Try.prog Try.f4 Rows.loopPlaysRow.domain false) (Rows.loopPlaysSpec.post enc Try.prog Try.f4 false true false false) :=
  Lift.lifted Try.func4 (by kernel_rfl) rfl rfl Try.underlying4 (by rw [Try.params4]; intro t ht; simp only [List.mem_cons, List.not_mem_nil, or_false] at ht; rcases ht with rfl | rfl | rfl | rfl <;> exact ⟨by kernel_rfl, of_decide_eq_true (by kernel_rfl)⟩)
    (fun H ds h => specIs H ds (by rw [Try.params4] at h; exact h)) (by rw [Try.params4]; exact lawLoopPlays) os started H enc
    (ChangeSpec.witness6 (enc := enc) (C := Try.checked) false ⟨#[], #[.int .i64 0, .int .i64 0, .slice none 0 0, .slice none 0 0], []⟩ 8 (by kernel_rfl) (by kernel_rfl) (by kernel_rfl) (by kernel_rfl))
theorem over : Rows.loopPlaysRow.holds Try.pinned (OpenSpec.ofChange Rows.loopPlaysSpec) :=
  OpenClaim.holds_of_wide 4 Try.f4 rfl rfl rfl rfl rfl rfl rfl ⟨rfl, rfl, rfl, rfl, rfl⟩ rfl rfl rfl rfl rfl (by kernel_rfl) Try.func4 (by kernel_rfl)
    (of_decide_eq_true (by kernel_rfl)) (by unfold Func.isWrapper; first | (rw [if_pos (by decide +kernel)]; kernel_rfl) | (rw [if_neg (by decide +kernel)]; exact ⟨rfl, rfl⟩))
    (fun os started H enc _ => lifted os started H enc)
theorem proved : Rows.LoopPlaysSaid := over
#print axioms proved
end Go.Proofs.Ytdfdfdhgggilbaa.loopPlays
