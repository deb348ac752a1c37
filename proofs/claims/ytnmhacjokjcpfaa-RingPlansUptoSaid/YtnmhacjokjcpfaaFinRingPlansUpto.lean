/- RingPlansUpto: a plan that is carried out makes of the old owners the new ones, each group moves once, in order, and none that stays For inputs of bulk at most 1048576 (the second form). -/
import Derived.Test.YtnmhacjokjcpfaaLawsRingC
namespace Go.Proofs.Ytnmhacjokjcpfaa.ringPlans
open Go.ChangeShapes Go.WideShapes Go.ChangeAt Go.RowKit
theorem specIs (H : Type) (ds : List (DataW H)) (h : ds.length = 2) : Rows.ringPlansSpec.fn H ds = { results := [.lit (.bool true)], args := ds } := by
  match ds, h with
  | [d0, d1], _ => rfl
set_option maxRecDepth 100000 in
theorem lifted (os : Os) (started : os.Started) (H : Type) (enc : TypeId × Value → H) (F : Stop.Interp) :
    ReturnsInHanded {} Try.checked os 5 .any ((Rows.OpenSpec.upto Rows.ringPlansSpec).pre6 enc Try.prog Try.f5 Rows.ringPlansUptoRow.domain false) (((Rows.OpenSpec.upto Rows.ringPlansSpec).at F).post enc Try.prog Try.f5 false true false false) :=
  Lift.liftedUpto Try.func5 (by kernel_rfl) rfl rfl Try.underlying4 (by rw [Try.params5]; intro t ht; simp only [List.mem_cons, List.not_mem_nil, or_false] at ht; rcases ht with rfl | rfl <;> exact ⟨by kernel_rfl, of_decide_eq_true (by kernel_rfl)⟩)
    (fun H ds h => specIs H ds (by rw [Try.params5] at h; exact h)) (by rw [Try.params5]; exact lawRingPlansUpto) os started H enc F
    (OpenSpec.witness (enc := enc) (C := Try.checked) (s := Rows.OpenSpec.upto Rows.ringPlansSpec) (k := Rows.uptoSmall) rfl false ⟨#[], #[.slice none 0 0, .slice none 0 0], []⟩ 8 (by kernel_rfl) (by kernel_rfl) (by kernel_rfl)
      (x := ([.nil, .nil], [], [])) (by kernel_rfl) rfl (by kernel_rfl))
theorem over : Rows.ringPlansUptoRow.holds Try.pinned (Rows.OpenSpec.upto Rows.ringPlansSpec) :=
  OpenClaim.holds_of_cond 5 Try.f5 rfl rfl rfl rfl rfl rfl rfl ⟨rfl, rfl, rfl, rfl, rfl⟩ rfl rfl rfl rfl rfl (by kernel_rfl) Try.func5 (by kernel_rfl)
    (of_decide_eq_true (by kernel_rfl)) (by unfold Func.isWrapper; first | (rw [if_pos (by decide +kernel)]; kernel_rfl) | (rw [if_neg (by decide +kernel)]; exact ⟨rfl, rfl⟩))
    (fun os started H enc _ F => lifted os started H enc F)
theorem proved : Rows.RingPlansUptoSaid := over
#print axioms proved
end Go.Proofs.Ytnmhacjokjcpfaa.ringPlans
