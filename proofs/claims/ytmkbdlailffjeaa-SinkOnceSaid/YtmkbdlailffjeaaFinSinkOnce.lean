/- SinkOnce: Whatever row of acts comes in: what counts only grows at its end, and each result that was added counts just once, if the first stage behind it was committed, else not at all; the law returns true and leaves its arguments as they were. No condition. No condition: every input that can be read. -/
import Derived.Test.YtmkbdlailffjeaaLawsSinkO
namespace Go.Proofs.Ytmkbdlailffjeaa.sinkOnce
open Go.ChangeShapes Go.WideShapes Go.ChangeAt Go.RowKit
theorem specIs (H : Type) (ds : List (DataW H)) (h : ds.length = 1) : Rows.sinkOnceSpec.fn H ds = { results := [.lit (.bool true)], args := ds } := by
  match ds, h with
  | [d0], _ => rfl
set_option maxRecDepth 100000 in
theorem lifted (os : Os) (started : os.Started) (H : Type) (enc : TypeId × Value → H) :
    ReturnsInHanded {} Try.checked os 5 .any (Rows.sinkOnceSpec.pre6 enc Try.prog Try.f5 Rows.sinkOnceRow.domain false) (Rows.sinkOnceSpec.post enc Try.prog Try.f5 false true false false) :=
  Lift.lifted Try.func5 (by kernel_rfl) rfl rfl Try.underlying4 (by rw [Try.params5]; intro t ht; simp only [List.mem_cons, List.not_mem_nil, or_false] at ht; rcases ht with rfl <;> exact ⟨by kernel_rfl, of_decide_eq_true (by kernel_rfl)⟩)
    (fun H ds h => specIs H ds (by rw [Try.params5] at h; exact h)) (by rw [Try.params5]; exact lawSinkOnce) os started H enc
    (ChangeSpec.witness6 (enc := enc) (C := Try.checked) false ⟨#[], #[.slice none 0 0], []⟩ 8 (by kernel_rfl) (by kernel_rfl) (by kernel_rfl) (by kernel_rfl))
theorem over : Rows.sinkOnceRow.holds Try.pinned (OpenSpec.ofChange Rows.sinkOnceSpec) :=
  OpenClaim.holds_of_wide 5 Try.f5 rfl rfl rfl rfl rfl rfl rfl ⟨rfl, rfl, rfl, rfl, rfl⟩ rfl rfl rfl rfl rfl (by kernel_rfl) Try.func5 (by kernel_rfl)
    (of_decide_eq_true (by kernel_rfl)) (by unfold Func.isWrapper; first | (rw [if_pos (by decide +kernel)]; kernel_rfl) | (rw [if_neg (by decide +kernel)]; exact ⟨rfl, rfl⟩))
    (fun os started H enc _ => lifted os started H enc)
theorem proved : Rows.SinkOnceSaid := over
#print axioms proved
end Go.Proofs.Ytmkbdlailffjeaa.sinkOnce
