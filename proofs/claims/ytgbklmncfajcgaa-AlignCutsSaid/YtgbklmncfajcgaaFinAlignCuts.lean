/- AlignCuts: Whatever items, number of barriers and turns come in: in whatever way the inputs take turns, what passes ahead of a barrier is just what stands ahead of it on each input, in order, nothing twice and nothing lost; the law returns true and leaves its arguments as they were. No condition. No condition: every input that can be read. -/
import Derived.Test.YtgbklmncfajcgaaLawsAlignC
namespace Go.Proofs.Ytgbklmncfajcgaa.alignCuts
open Go.ChangeShapes Go.WideShapes Go.ChangeAt Go.RowKit
theorem specIs (H : Type) (ds : List (DataW H)) (h : ds.length = 3) : Rows.alignCutsSpec.fn H ds = { results := [.lit (.bool true)], args := ds } := by
  match ds, h with
  | [d0, d1, d2], _ => rfl
set_option maxRecDepth 100000 in
theorem lifted (os : Os) (started : os.Started) (H : Type) (enc : TypeId × Value → H) :
    ReturnsInHanded {} Try.checked os 5 .any (Rows.alignCutsSpec.pre6 enc Try.prog Try.f5 Rows.alignCutsRow.domain false) (Rows.alignCutsSpec.post enc Try.prog Try.f5 false true false false) :=
  Lift.lifted Try.func5 (by kernel_rfl) rfl rfl Try.underlying4 (by rw [Try.params5]; intro t ht; simp only [List.mem_cons, List.not_mem_nil, or_false] at ht; rcases ht with rfl | rfl | rfl <;> exact ⟨by kernel_rfl, of_decide_eq_true (by kernel_rfl)⟩)
    (fun H ds h => specIs H ds (by rw [Try.params5] at h; exact h)) (by rw [Try.params5]; exact lawAlignCuts) os started H enc
    (ChangeSpec.witness6 (enc := enc) (C := Try.checked) false ⟨#[], #[.slice none 0 0, .int .i64 0, .slice none 0 0], []⟩ 8 (by kernel_rfl) (by kernel_rfl) (by kernel_rfl) (by kernel_rfl))
theorem over : Rows.alignCutsRow.holds Try.pinned (OpenSpec.ofChange Rows.alignCutsSpec) :=
  OpenClaim.holds_of_wide 5 Try.f5 rfl rfl rfl rfl rfl rfl rfl ⟨rfl, rfl, rfl, rfl, rfl⟩ rfl rfl rfl rfl rfl (by kernel_rfl) Try.func5 (by kernel_rfl)
    (of_decide_eq_true (by kernel_rfl)) (by unfold Func.isWrapper; first | (rw [if_pos (by decide +kernel)]; kernel_rfl) | (rw [if_neg (by decide +kernel)]; exact ⟨rfl, rfl⟩))
    (fun os started H enc _ => lifted os started H enc)
theorem proved : Rows.AlignCutsSaid := over
#print axioms proved
end Go.Proofs.Ytgbklmncfajcgaa.alignCuts
