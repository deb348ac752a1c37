/- RingOwns: each group has an owner that is one of the workers, groups of keys are such, and one worker owns all No condition: every input that can be read. -/
import Derived.Test.YtgpcbiballdioaaDoorLawsRingE
import Derived.Test.YtgpcbiballdioaaDoorCards
import Derived.Test.YtgpcbiballdioaaDoorTie
import Derived.Test.YtgpcbiballdioaaDoorLiftLaid
import Derived.SevenTiedAt
namespace Go.Proofs.YtgpcbiballdioaaDoor.ringOwns
open Go.ChangeShapes Go.WideShapes Go.ChangeAt Go.RowKit
theorem specIs (H : Type) (ds : List (DataW H)) (h : ds.length = 3) : Rows.ringOwnsSpec.fn H ds = { results := [.lit (.bool true)], args := ds } := by
  match ds, h with
  | [d0, d1, d2], _ => rfl
theorem noHandles : (((Rows.ringOwnsRow.laid) : List (String × DataW Unit)).filter fun x => x.2.handleName?.isSome) = [] := by kernel_rfl
set_option maxRecDepth 100000 in
theorem lifted (os : Os) (started : os.Started) (H : Type) (enc : TypeId × Value → H) :
    ReturnsInHanded {} Tryd.checked os 5 .any (fun w args => (Rows.ringOwnsSpec.pre enc Tryd.prog Tryd.f5 Rows.ringOwnsRow.domain false w args ∧ laidMetH Tryd.prog (Rows.ringOwnsRow.laid) w) ∧ sizedMet enc Tryd.prog Tryd.f5 (OpenSpec.ofChange Rows.ringOwnsSpec) false w args) (Rows.ringOwnsSpec.post enc Tryd.prog Tryd.f5 false true false false) :=
  Lift.liftedLaid (X := (fun w _ => laidMetH Tryd.prog (Rows.ringOwnsRow.laid) w)) (fun _ _ _ hh h => Lift.laidMetH_heap noHandles hh h) Tryd.func5 (by kernel_rfl) rfl rfl Tryd.underlying4 (by rw [Tryd.params5]; intro t ht; simp only [List.mem_cons, List.not_mem_nil, or_false] at ht; rcases ht with rfl | rfl | rfl <;> exact ⟨by kernel_rfl, of_decide_eq_true (by kernel_rfl)⟩)
    (fun H ds h => specIs H ds (by rw [Tryd.params5] at h; exact h)) (by rw [Tryd.params5]; exact lawRingOwns) os started H enc
    (ChangeSpec.witness_shaped (enc := enc) (C := Tryd.checked) (os := os) (X := (fun w _ => laidMetH Tryd.prog (Rows.ringOwnsRow.laid) w)) false (World.laidAll Tryd.prog os (Rows.ringOwnsRow.laid)) #[.slice none 0 0, .int .i64 0, .string ByteArray.empty] 8 (World.laidAll_os _ _ _) (World.shaped_of_ZipB (by kernel_rfl) (by kernel_rfl)) (by kernel_rfl) (by kernel_rfl) (by kernel_rfl)
      (Lift.laidMetH_of noHandles (laidMet_laidAll _ (by kernel_rfl) (by kernel_rfl))))
theorem over : Rows.ringOwnsRow.holds Tryd.pinned (OpenSpec.ofChange Rows.ringOwnsSpec) :=
  OpenClaim.holds_of_wide 5 Tryd.f5 rfl rfl rfl rfl rfl rfl rfl ⟨rfl, rfl, rfl, rfl, rfl⟩ rfl rfl rfl rfl rfl (by kernel_rfl) Tryd.func5 (by kernel_rfl)
    (of_decide_eq_true (by kernel_rfl)) (by unfold Func.isWrapper; first | (rw [if_pos (by decide +kernel)]; kernel_rfl) | (rw [if_neg (by decide +kernel)]; exact ⟨rfl, rfl⟩))
    (fun os started H enc _ => lifted os started H enc)
theorem proved : Rows.RingOwnsCardSaid :=
  Claim7.holds_tied_plain_at .later [] [.data, .data, .data] true (true, "0e9be45d4a0e35419dfc81678f851cda81f2dac9e3b45d363887af75eb814cf7") false
    over (fun _ h => by cases h) (by kernel_rfl) (fun _ h => by cases h) ringOwns_row_tie rfl ⟨rfl, rfl⟩ (by kernel_rfl) rfl
    (fun f fn hf hfn => by
      obtain rfl : f = 5 := Option.some.inj ((show Tryd.prog.funcNamed "clepsydra/clepsydralaw11.RingOwns" = some 5 by kernel_rfl).symm.trans hf) |>.symm
      obtain rfl : fn = Tryd.f5 := (Option.some.inj (Tryd.func5.symm.trans hfn)).symm
      exact ⟨by kernel_rfl, fun j t ht => by
        rw [Tryd.params5] at ht
        have hm : t ∈ [22, 3, 9] := by simpa using Array.mem_of_getElem? ht
        have hall : ([22, 3, 9].all fun u => !Tryd.prog.wantsStandIn u) = true := by kernel_rfl
        exact (show Tryd.prog.wantsStandIn t = false by simpa using List.all_eq_true.1 hall t hm)⟩)
    (by kernel_rfl)
#print axioms proved
end Go.Proofs.YtgpcbiballdioaaDoor.ringOwns
