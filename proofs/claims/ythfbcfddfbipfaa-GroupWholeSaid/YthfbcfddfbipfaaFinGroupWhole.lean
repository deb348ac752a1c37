/- GroupWhole: for any group (of 61 to 1999 panes the first 60), an event that is not below the mark is put into all of its windows; one of which all windows are closed into none, and changes nothing No condition: every input that can be read. -/
import Derived.Test.YthfbcfddfbipfaaZLawsGroD
namespace Go.Proofs.Ythfbcfddfbipfaa.groupWhole
open Go.ChangeShapes Go.WideShapes Go.ChangeAt Go.RowKit
theorem specIs (H : Type) (ds : List (DataW H)) (h : ds.length = 3) : Rows.groupWholeSpec.fn H ds = { results := [.lit (.bool true)], args := ds } := by
  match ds, h with
  | [d0, d1, d2], _ => rfl
set_option maxRecDepth 100000 in
theorem lifted (os : Os) (started : os.Started) (H : Type) (enc : TypeId × Value → H) :
    ReturnsInHanded {} Try.checked os 9 .any (Rows.groupWholeSpec.pre6 enc Try.prog Try.f9 Rows.groupWholeRow.domain false) (Rows.groupWholeSpec.post enc Try.prog Try.f9 false true false false) :=
  Lift.lifted Try.func9 (by kernel_rfl) rfl rfl Try.underlying4 (by rw [Try.params9]; intro t ht; simp only [List.mem_cons, List.not_mem_nil, or_false] at ht; rcases ht with rfl | rfl | rfl <;> exact ⟨by kernel_rfl, of_decide_eq_true (by kernel_rfl)⟩)
    (fun H ds h => specIs H ds (by rw [Try.params9] at h; exact h)) (by rw [Try.params9]; exact lawGroupWhole) os started H enc
    (ChangeSpec.witness6 (enc := enc) (C := Try.checked) false ⟨#[], #[.agg #[.int .i64 0, .int .i64 0, .int .i64 0, .int .i64 0, .int .i64 0, .int .i64 0, .int .i64 0, .int .i64 0], .agg #[.int .i64 0, .int .i64 0, .slice none 0 0], .agg #[.string ByteArray.empty, .int .i64 0, .int .i64 0]], []⟩ 8 (by kernel_rfl) (by kernel_rfl) (by kernel_rfl) (by kernel_rfl))
theorem over : Rows.groupWholeRow.holds Try.pinned (OpenSpec.ofChange Rows.groupWholeSpec) :=
  OpenClaim.holds_of_wide 9 Try.f9 rfl rfl rfl rfl rfl rfl rfl ⟨rfl, rfl, rfl, rfl, rfl⟩ rfl rfl rfl rfl rfl (by kernel_rfl) Try.func9 (by kernel_rfl)
    (of_decide_eq_true (by kernel_rfl)) (by unfold Func.isWrapper; first | (rw [if_pos (by decide +kernel)]; kernel_rfl) | (rw [if_neg (by decide +kernel)]; exact ⟨rfl, rfl⟩))
    (fun os started H enc _ => lifted os started H enc)
theorem proved : Rows.GroupWholeSaid := over
#print axioms proved
end Go.Proofs.Ythfbcfddfbipfaa.groupWhole
