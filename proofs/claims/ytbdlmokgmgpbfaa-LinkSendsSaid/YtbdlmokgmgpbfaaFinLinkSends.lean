/- LinkSends: Whatever sender, body, epoch and place come in: behind a body, an acknowledgement and a tick the sender is just what the document says, and sends just the packets that it says, or is refused just so; the law returns true and leaves its arguments as they were. No condition. No condition: every input that can be read. -/
import Derived.Test.YtbdlmokgmgpbfaaLawsLinkC
namespace Go.Proofs.Ytbdlmokgmgpbfaa.linkSends
open Go.ChangeShapes Go.WideShapes Go.ChangeAt Go.RowKit
theorem specIs (H : Type) (ds : List (DataW H)) (h : ds.length = 4) : Rows.linkSendsSpec.fn H ds = { results := [.lit (.bool true)], args := ds } := by
  match ds, h with
  | [d0, d1, d2, d3], _ => rfl
set_option maxRecDepth 100000 in
theorem lifted (os : Os) (started : os.Started) (H : Type) (enc : TypeId × Value → H) :
    ReturnsInHanded {} Try.checked os 3 .any (Rows.linkSendsSpec.pre6 enc Try.prog Try.f3 Rows.linkSendsRow.domain false) (Rows.linkSendsSpec.post enc Try.prog Try.f3 false true false false) :=
  Lift.lifted Try.func3 (by kernel_rfl) rfl rfl Try.underlying4 (by rw [Try.params3]; intro t ht; simp only [List.mem_cons, List.not_mem_nil, or_false] at ht; rcases ht with rfl | rfl | rfl | rfl <;> exact ⟨by kernel_rfl, of_decide_eq_true (by kernel_rfl)⟩)
    (fun H ds h => specIs H ds (by rw [Try.params3] at h; exact h)) (by rw [Try.params3]; exact lawLinkSends) os started H enc
    (ChangeSpec.witness6 (enc := enc) (C := Try.checked) false ⟨#[], #[.agg #[.int .i64 0, .int .i64 0, .slice none 0 0, .int .i64 0], .string ByteArray.empty, .int .i64 0, .int .i64 0], []⟩ 8 (by kernel_rfl) (by kernel_rfl) (by kernel_rfl) (by kernel_rfl))
theorem over : Rows.linkSendsRow.holds Try.pinned (OpenSpec.ofChange Rows.linkSendsSpec) :=
  OpenClaim.holds_of_wide 3 Try.f3 rfl rfl rfl rfl rfl rfl rfl ⟨rfl, rfl, rfl, rfl, rfl⟩ rfl rfl rfl rfl rfl (by kernel_rfl) Try.func3 (by kernel_rfl)
    (of_decide_eq_true (by kernel_rfl)) (by unfold Func.isWrapper; first | (rw [if_pos (by decide +kernel)]; kernel_rfl) | (rw [if_neg (by decide +kernel)]; exact ⟨rfl, rfl⟩))
    (fun os started H enc _ => lifted os started H enc)
theorem proved : Rows.LinkSendsSaid := over
#print axioms proved
end Go.Proofs.Ytbdlmokgmgpbfaa.linkSends
