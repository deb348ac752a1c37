/- RingAssigns: who owns which group, or why nobody, and which workers may be, is as the document says No condition: every input that can be read. -/
import Derived.Test.YtgpcbiballdioaaDoorLawsRingD
import Derived.Test.YtgpcbiballdioaaDoorCards
import Derived.Test.YtgpcbiballdioaaDoorTie
import Derived.Test.YtgpcbiballdioaaDoorLiftLaid
import Derived.SevenTiedAt
namespace Go.Proofs.YtgpcbiballdioaaDoor.ringAssigns
open Go.ChangeShapes Go.WideShapes Go.ChangeAt Go.RowKit
theorem specIs (H : Type) (ds : List (DataW H)) (h : ds.length = 2) : Rows.ringAssignsSpec.fn H ds = { results := [.lit (.bool true)], args := ds } := by
  match ds, h with
  | [d0, d1], _ => rfl
theorem noHandles : (((Rows.ringAssignsRow.laid) : List (String × DataW Unit)).filter fun x => x.2.handleName?.isSome) = [] := by kernel_rfl
set_option maxRecDepth 100000 in
theorem lifted (os : Os) (started : os.Started) (H : Type) (enc : TypeId × Value → H) :
    ReturnsInHanded {} Tryd.checked os 3 .any (fun w args => (Rows.ringAssignsSpec.pre enc Tryd.prog Tryd.f3 Rows.ringAssignsRow.domain false w args ∧ laidMetH Tryd.prog (Rows.ringAssignsRow.laid) w) ∧ sizedMet enc Tryd.prog Tryd.f3 (OpenSpec.ofChange Rows.ringAssignsSpec) false w args) (Rows.ringAssignsSpec.post enc Tryd.prog Tryd.f3 false true false false) :=
  Lift.liftedLaid (X := (fun w _ => laidMetH Tryd.prog (Rows.ringAssignsRow.laid) w)) (fun _ _ _ hh h => Lift.laidMetH_heap noHandles hh h) Tryd.func3 (by kernel_rfl) rfl rfl Tryd.underlying4 (by rw [Tryd.params3]; intro t ht; simp only [List.mem_cons, List.not_mem_nil, or_false] at ht; rcases ht with rfl | rfl <;> exact ⟨by kernel_rfl, of_decide_eq_true (by kernel_rfl)⟩)
    (fun H ds h => specIs H ds (by rw [Tryd.params3] at h; exact h)) (by rw [Tryd.params3]; exact lawRingAssigns) os started H enc
    (ChangeSpec.witness_shaped (enc := enc) (C := Tryd.checked) (os := os) (X := (fun w _ => laidMetH Tryd.prog (Rows.ringAssignsRow.laid) w)) false (World.laidAll Tryd.prog os (Rows.ringAssignsRow.laid)) #[.slice none 0 0, .int .i64 0] 8 (World.laidAll_os _ _ _) (World.shaped_of_ZipB (by kernel_rfl) (by kernel_rfl)) (by kernel_rfl) (by kernel_rfl) (by kernel_rfl)
      (Lift.laidMetH_of noHandles (laidMet_laidAll _ (by kernel_rfl) (by kernel_rfl))))
theorem over : Rows.ringAssignsRow.holds Tryd.pinned (OpenSpec.ofChange Rows.ringAssignsSpec) :=
  OpenClaim.holds_of_wide 3 Tryd.f3 rfl rfl rfl rfl rfl rfl rfl ⟨rfl, rfl, rfl, rfl, rfl⟩ rfl rfl rfl rfl rfl (by kernel_rfl) Tryd.func3 (by kernel_rfl)
    (of_decide_eq_true (by kernel_rfl)) (by unfold Func.isWrapper; first | (rw [if_pos (by decide +kernel)]; kernel_rfl) | (rw [if_neg (by decide +kernel)]; exact ⟨rfl, rfl⟩))
    (fun os started H enc _ => lifted os started H enc)
theorem proved : Rows.RingAssignsCardSaid :=
  Claim7.holds_tied_plain_at .later [] [.data, .data, .data] true (true, "0e9be45d4a0e35419dfc81678f851cda81f2dac9e3b45d363887af75eb814cf7") false
    over (fun _ h => by cases h) (by kernel_rfl) (fun _ h => by cases h) ringAssigns_row_tie rfl ⟨rfl, rfl⟩ (by kernel_rfl) rfl
    (fun f fn hf hfn => by
      obtain rfl : f = 3 := Option.some.inj ((show Tryd.prog.funcNamed "clepsydra/clepsydralaw11.RingAssigns" = some 3 by kernel_rfl).symm.trans hf) |>.symm
      obtain rfl : fn = Tryd.f3 := (Option.some.inj (Tryd.func3.symm.trans hfn)).symm
      exact ⟨by kernel_rfl, fun j t ht => by
        rw [Tryd.params3] at ht
        have hm : t ∈ [22, 3] := by simpa using Array.mem_of_getElem? ht
        have hall : ([22, 3].all fun u => !Tryd.prog.wantsStandIn u) = true := by kernel_rfl
        exact (show Tryd.prog.wantsStandIn t = false by simpa using List.all_eq_true.1 hall t hm)⟩)
    (by kernel_rfl)
#print axioms proved
end Go.Proofs.YtgpcbiballdioaaDoor.ringAssigns
