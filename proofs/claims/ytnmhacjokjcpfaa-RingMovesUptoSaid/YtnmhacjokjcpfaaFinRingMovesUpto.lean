/- RingMovesUpto: which groups move between any two lists of owners is as the document says For inputs of bulk at most 1048576 (the second form). -/
import Derived.Test.YtnmhacjokjcpfaaLawsRingB
namespace Go.Proofs.Ytnmhacjokjcpfaa.ringMoves
open Go.ChangeShapes Go.WideShapes Go.ChangeAt Go.RowKit
theorem specIs (H : Type) (ds : List (DataW H)) (h : ds.length = 2) : Rows.ringMovesSpec.fn H ds = { results := [.lit (.bool true)], args := ds } := by
  match ds, h with
  | [d0, d1], _ => rfl
set_option maxRecDepth 100000 in
theorem lifted (os : Os) (started : os.Started) (H : Type) (enc : TypeId × Value → H) (F : Stop.Interp) :
    ReturnsInHanded {} Try.checked os 4 .any ((Rows.OpenSpec.upto Rows.ringMovesSpec).pre6 enc Try.prog Try.f4 Rows.ringMovesUptoRow.domain false) (((Rows.OpenSpec.upto Rows.ringMovesSpec).at F).post enc Try.prog Try.f4 false true false false) :=
  Lift.liftedUpto Try.func4 (by kernel_rfl) rfl rfl Try.underlying4 (by rw [Try.params4]; intro t ht; simp only [List.mem_cons, List.not_mem_nil, or_false] at ht; rcases ht with rfl | rfl <;> exact ⟨by kernel_rfl, of_decide_eq_true (by kernel_rfl)⟩)
    (fun H ds h => specIs H ds (by rw [Try.params4] at h; exact h)) (by rw [Try.params4]; exact lawRingMovesUpto) os started H enc F
    (OpenSpec.witness (enc := enc) (C := Try.checked) (s := Rows.OpenSpec.upto Rows.ringMovesSpec) (k := Rows.uptoSmall) rfl false ⟨#[], #[.slice none 0 0, .slice none 0 0], []⟩ 8 (by kernel_rfl) (by kernel_rfl) (by kernel_rfl)
      (x := ([.nil, .nil], [], [])) (by kernel_rfl) rfl (by kernel_rfl))
theorem over : Rows.ringMovesUptoRow.holds Try.pinned (Rows.OpenSpec.upto Rows.ringMovesSpec) :=
  OpenClaim.holds_of_cond 4 Try.f4 rfl rfl rfl rfl rfl rfl rfl ⟨rfl, rfl, rfl, rfl, rfl⟩ rfl rfl rfl rfl rfl (by kernel_rfl) Try.func4 (by kernel_rfl)
    (of_decide_eq_true (by kernel_rfl)) (by unfold Func.isWrapper; first | (rw [if_pos (by decide +kernel)]; kernel_rfl) | (rw [if_neg (by decide +kernel)]; exact ⟨rfl, rfl⟩))
    (fun os started H enc _ F => lifted os started H enc F)
theorem proved : Rows.RingMovesUptoSaid := over
#print axioms proved
end Go.Proofs.Ytnmhacjokjcpfaa.ringMoves
