/- TickJoinsUpto: the law TickJoins holds for every input For inputs of bulk at most 1048576 (the second form). -/
import Derived.Test.YthmjdlhpfnkhoaaTickEnds
namespace Go.Proofs.Ythmjdlhpfnkhoaa.tickJoins
open Go.ChangeShapes Go.WideShapes Go.ChangeAt Go.RowKit
theorem specIs (H : Type) (ds : List (DataW H)) (h : ds.length = 2) : Rows.tickJoinsSpec.fn H ds = { results := [.lit (.bool true)], args := ds } := by
  match ds, h with
  | [d0, d1], _ => rfl
set_option maxRecDepth 100000 in
theorem lifted (os : Os) (started : os.Started) (H : Type) (enc : TypeId × Value → H) (F : Stop.Interp) :
    ReturnsInHanded {} Try.checked os 9 .any ((Rows.OpenSpec.upto Rows.tickJoinsSpec).pre6 enc Try.prog Try.f9 Rows.tickJoinsUptoRow.domain false) (((Rows.OpenSpec.upto Rows.tickJoinsSpec).at F).post enc Try.prog Try.f9 false true false false) :=
  Lift.liftedUpto Try.func9 (by kernel_rfl) rfl rfl Try.underlying4 (by rw [Try.params9]; intro t ht; simp only [List.mem_cons, List.not_mem_nil, or_false] at ht; rcases ht with rfl | rfl <;> exact ⟨by kernel_rfl, of_decide_eq_true (by kernel_rfl)⟩)
    (fun H ds h => specIs H ds (by rw [Try.params9] at h; exact h)) (by rw [Try.params9]; exact lawTickJoinsUpto) os started H enc F
    (OpenSpec.witness (enc := enc) (C := Try.checked) (s := Rows.OpenSpec.upto Rows.tickJoinsSpec) (k := Rows.uptoSmall) rfl false ⟨#[], #[.slice none 0 0, .slice none 0 0], []⟩ 8 (by kernel_rfl) (by kernel_rfl) (by kernel_rfl)
      (x := ([.nil, .nil], [], [])) (by kernel_rfl) rfl (by kernel_rfl))
theorem over : Rows.tickJoinsUptoRow.holds Try.pinned (Rows.OpenSpec.upto Rows.tickJoinsSpec) :=
  OpenClaim.holds_of_cond 9 Try.f9 rfl rfl rfl rfl rfl rfl rfl ⟨rfl, rfl, rfl, rfl, rfl⟩ rfl rfl rfl rfl rfl (by kernel_rfl) Try.func9 (by kernel_rfl)
    (of_decide_eq_true (by kernel_rfl)) (by unfold Func.isWrapper; first | (rw [if_pos (by decide +kernel)]; kernel_rfl) | (rw [if_neg (by decide +kernel)]; exact ⟨rfl, rfl⟩))
    (fun os started H enc _ F => lifted os started H enc F)
theorem proved : Rows.TickJoinsUptoSaid := over
#print axioms proved
end Go.Proofs.Ythmjdlhpfnkhoaa.tickJoins
