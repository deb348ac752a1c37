/- GroupBytes: any group (of 61 to 1999 panes the first 60) is written as just those bytes, any bytes are read as just that group, or refused, as the document says No condition: every input that can be read. -/
import Derived.Test.YthfbcfddfbipfaaZLawsGroF
namespace Go.Proofs.Ythfbcfddfbipfaa.groupBytes
open Go.ChangeShapes Go.WideShapes Go.ChangeAt Go.RowKit
theorem specIs (H : Type) (ds : List (DataW H)) (h : ds.length = 2) : Rows.groupBytesSpec.fn H ds = { results := [.lit (.bool true)], args := ds } := by
  match ds, h with
  | [d0, d1], _ => rfl
set_option maxRecDepth 100000 in
theorem lifted (os : Os) (started : os.Started) (H : Type) (enc : TypeId × Value → H) :
    ReturnsInHanded {} Try.checked os 5 .any (Rows.groupBytesSpec.pre6 enc Try.prog Try.f5 Rows.groupBytesRow.domain false) (Rows.groupBytesSpec.post enc Try.prog Try.f5 false true false false) :=
  Lift.lifted Try.func5 (by kernel_rfl) rfl rfl Try.underlying4 (by rw [Try.params5]; intro t ht; simp only [List.mem_cons, List.not_mem_nil, or_false] at ht; rcases ht with rfl | rfl <;> exact ⟨by kernel_rfl, of_decide_eq_true (by kernel_rfl)⟩)
    (fun H ds h => specIs H ds (by rw [Try.params5] at h; exact h)) (by rw [Try.params5]; exact lawGroupBytes) os started H enc
    (ChangeSpec.witness6 (enc := enc) (C := Try.checked) false ⟨#[], #[.agg #[.int .i64 0, .int .i64 0, .slice none 0 0], .string ByteArray.empty], []⟩ 8 (by kernel_rfl) (by kernel_rfl) (by kernel_rfl) (by kernel_rfl))
theorem over : Rows.groupBytesRow.holds Try.pinned (OpenSpec.ofChange Rows.groupBytesSpec) :=
  OpenClaim.holds_of_wide 5 Try.f5 rfl rfl rfl rfl rfl rfl rfl ⟨rfl, rfl, rfl, rfl, rfl⟩ rfl rfl rfl rfl rfl (by kernel_rfl) Try.func5 (by kernel_rfl)
    (of_decide_eq_true (by kernel_rfl)) (by unfold Func.isWrapper; first | (rw [if_pos (by decide +kernel)]; kernel_rfl) | (rw [if_neg (by decide +kernel)]; exact ⟨rfl, rfl⟩))
    (fun os started H enc _ => lifted os started H enc)
theorem proved : Rows.GroupBytesSaid := over
#print axioms proved
end Go.Proofs.Ythfbcfddfbipfaa.groupBytes
