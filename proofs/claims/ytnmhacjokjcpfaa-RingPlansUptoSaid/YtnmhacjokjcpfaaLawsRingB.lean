/- The walk of the law RingMoves. -/
import Derived.Test.YtnmhacjokjcpfaaRingMovC
import Derived.Test.YtnmhacjokjcpfaaRingCk
import Derived.Test.YtnmhacjokjcpfaaLift
namespace Go.Proofs.Ytnmhacjokjcpfaa
open Go.ChangeShapes Go.WideShapes Go.ChangeAt Go.RowKit
set_option linter.unusedVariables false
set_option maxRecDepth 8000
namespace Rg
set_option maxRecDepth 100000 in
set_option maxHeartbeats 1000000 in
theorem walkRingMoves (l m : List Int) (A B : Option Addr) (c d : Nat) (w : World) (hA : Row w A (iv l)) (hB : Row w B (iv m)) (hl : l.length ≤ 1048576) (hm : m.length ≤ 1048576) :
    Calls Try.prog 4 #[.slice A l.length c, .slice B m.length d] w (TellsR true w) := by
  have HA := Lib.hid (fun w => lawAliveR w)
  have HC := Lib.hid (fun w hA hB => ckMoves l m A B c d w hA hB (by omega) (by omega) (.inl (by omega)))
  have HR := Lib.hid (fun w hA hB => rfMoves l m A B c d w hA hB (by omega) (by omega) (.inl (by omega)))
  obtain ⟨us, hu⟩ : ∃ us, us = moves l m := ⟨_, rfl⟩
  have hul : us.length ≤ 1048576 := by rw [hu]; have := moves_len l m; omega
  rw [← hu] at HC HR
  have HL := Lib.hid (fun A c B d w => rfLikeG us A c B d w (by omega))
  have RA := Lib.hid hA; have RB := Lib.hid hB
  clear hu hA hB hul
  go_enter Try.func4, Try.ntmps4
  go_wp2_with fail
  refine (HA.out _).mono ?_
  rintro e w1 ⟨rfl, hb1⟩
  have B1 := Lib.hid hb1
  clear hb1
  go_wp2_with fail
  refine (HC.out _ (RA.out.below B1.out) (RB.out.below B1.out)).mono ?_
  rintro e w2 ⟨A2, c2, rfl, _, _, r2, hb2⟩
  have B2 := Lib.hid (below_next B1.out hb2)
  have R2 := Lib.hid r2
  clear hb2 r2
  go_wp2_with fail
  refine (HR.out _ (RA.out.below B2.out) (RB.out.below B2.out)).mono ?_
  rintro e w3 ⟨A3, c3, rfl, _, _, r3, hb3⟩
  have B3 := Lib.hid (below_next B2.out hb3)
  have R23 := Lib.hid (R2.out.below hb3)
  have R3 := Lib.hid r3
  clear hb3 r3
  go_wp2_with fail
  refine (HL.out _ _ _ _ _ R23.out R3.out).mono ?_
  rintro e w4 ⟨rfl, hb4⟩
  have B4 := Lib.hid (below_next B3.out hb4)
  clear hb4
  go_wp2_with fail
  go_ret
  exact ⟨rfl, B4.out⟩
theorem bulk_ints {H : Type} {d : DataW H} {zs : List Int} (hd : d = .nil ∧ zs = [] ∨ ∃ spare, d = .slice (lits .i64 zs) spare) : zs.length ≤ Rows.uptoBulk d := by
  rcases hd with ⟨rfl, rfl⟩ | ⟨sp, rfl⟩
  · simp
  · have := Lift.bulk_slice (lits (H := H) .i64 zs) sp; simp only [lits, List.length_map] at this ⊢; omega
theorem lawRingMovesUpto : Lift.OwesUpto 4 [27, 27] := by
  intro H enc W base args ds ps hval hA _ hk
  obtain ⟨v0, v1, d0, d1, p0, p1, rfl, rfl, rfl, h0, h1⟩ := trodAll_two hA
  obtain ⟨A, c, zs, rfl, hl, hm, hr, _, hd⟩ := openInts Try.underlying27 Try.underlying3 (by kernel_rfl) (hval 0 _ v0 rfl rfl) h0
  obtain ⟨D, d, ys, rfl, hl', hm', hr', _, hd'⟩ := openInts Try.underlying27 Try.underlying3 (by kernel_rfl) (hval 1 _ v1 rfl rfl) h1
  have n1 := bulk_ints hd
  have n2 := bulk_ints hd'
  simp only [Rows.uptoBulkAll] at hk
  exact walkRingMoves zs ys A D c d W hr hr' (by omega) (by omega)
end Rg
theorem lawRingMovesUpto : Lift.OwesUpto 4 [27, 27] := Rg.lawRingMovesUpto
end Go.Proofs.Ytnmhacjokjcpfaa
