/- LeaseFences: Whatever number of groups and whatever acts come in: tokens rise, each is given once; as long as a lease counts nobody else has its group; what is fenced once stays so; the law returns true and leaves its arguments as they were. No condition. No condition: every input that can be read. -/
import Derived.Test.YtgoapkbpcfbipaaLawsLeaseF
namespace Go.Proofs.Ytgoapkbpcfbipaa.leaseFences
open Go.ChangeShapes Go.WideShapes Go.ChangeAt Go.RowKit
theorem specIs (H : Type) (ds : List (DataW H)) (h : ds.length = 2) : Rows.leaseFencesSpec.fn H ds = { results := [.lit (.bool true)], args := ds } := by
  match ds, h with
  | [d0, d1], _ => rfl
set_option maxRecDepth 100000 in
theorem lifted (os : Os) (started : os.Started) (H : Type) (enc : TypeId × Value → H) :
    ReturnsInHanded {} Try.checked os 6 .any (Rows.leaseFencesSpec.pre6 enc Try.prog Try.f6 Rows.leaseFencesRow.domain false) (Rows.leaseFencesSpec.post enc Try.prog Try.f6 false true false false) :=
  Lift.lifted Try.func6 (by kernel_rfl) rfl rfl Try.underlying4 (by rw [Try.params6]; intro t ht; simp only [List.mem_cons, List.not_mem_nil, or_false] at ht; rcases ht with rfl | rfl <;> exact ⟨by kernel_rfl, of_decide_eq_true (by kernel_rfl)⟩)
    (fun H ds h => specIs H ds (by rw [Try.params6] at h; exact h)) (by rw [Try.params6]; exact lawLeaseFences) os started H enc
    (ChangeSpec.witness6 (enc := enc) (C := Try.checked) false ⟨#[], #[.int .i64 0, .slice none 0 0], []⟩ 8 (by kernel_rfl) (by kernel_rfl) (by kernel_rfl) (by kernel_rfl))
theorem over : Rows.leaseFencesRow.holds Try.pinned (OpenSpec.ofChange Rows.leaseFencesSpec) :=
  OpenClaim.holds_of_wide 6 Try.f6 rfl rfl rfl rfl rfl rfl rfl ⟨rfl, rfl, rfl, rfl, rfl⟩ rfl rfl rfl rfl rfl (by kernel_rfl) Try.func6 (by kernel_rfl)
    (of_decide_eq_true (by kernel_rfl)) (by unfold Func.isWrapper; first | (rw [if_pos (by decide +kernel)]; kernel_rfl) | (rw [if_neg (by decide +kernel)]; exact ⟨rfl, rfl⟩))
    (fun os started H enc _ => lifted os started H enc)
theorem proved : Rows.LeaseFencesSaid := over
#print axioms proved
end Go.Proofs.Ytgoapkbpcfbipaa.leaseFences
