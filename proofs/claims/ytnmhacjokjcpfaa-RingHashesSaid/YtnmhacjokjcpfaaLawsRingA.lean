/- The walk of the law RingHashes. -/
import Derived.Test.YtnmhacjokjcpfaaRingHashC
import Derived.Test.YtnmhacjokjcpfaaRingCk
import Derived.Test.YtnmhacjokjcpfaaLift
namespace Go.Proofs.Ytnmhacjokjcpfaa
open Go.ChangeShapes Go.WideShapes Go.ChangeAt Go.RowKit
set_option linter.unusedVariables false
set_option maxRecDepth 8000
namespace Rg
set_option maxRecDepth 100000 in
set_option maxHeartbeats 1000000 in
theorem walkRingHashes (s0 : ByteArray) (g : Int) (w : World) (hg : g ≤ 9223372036854775807) : Calls Try.prog 3 #[.string s0, .int .i64 g] w (TellsR true w) := by
  obtain ⟨s, hs, hway⟩ : ∃ s : ByteArray, s.size ≤ 10000 ∧ ((10000 < s0.size ∧ ∀ w, (Instr.slice 9 (.string s0) none (some (.int .i64 10000)) none).run Try.prog w = .ok (.string s) w) ∨ (¬ 10000 < s0.size ∧ s = s0)) := by
    by_cases h : 10000 < s0.size
    · refine ⟨s0.extract 0 10000, by rw [ByteArray.size_extract]; omega, .inl ⟨h, fun w => ?_⟩⟩
      rw [run_slice_string_h (P := Try.prog) w 9 s0 Try.underlying9 .i64 10000 (by omega) (by omega)]; rfl
    · exact ⟨s0, by omega, .inr ⟨h, rfl⟩⟩
  have HA := Lib.hid (fun w => lawAliveR w)
  have HC := Lib.hid (fun w => ckHash s w (by omega))
  have HR := Lib.hid (fun w => rfHash s w (by omega))
  have HD := Lib.hid (fun w => ckGroup s g w (by omega) hg)
  have HE := Lib.hid (fun w => rfGroup s g w (by omega) hg)
  obtain ⟨x, hx⟩ : ∃ x, x = hash s.data.toList := ⟨_, rfl⟩
  obtain ⟨y, hy⟩ : ∃ y, y = group s g := ⟨_, rfl⟩
  rw [← hx] at HC HR
  rw [← hy] at HD HE
  clear hx hy hs
  rcases hway with ⟨hlong, hsl⟩ | ⟨hshort, rfl⟩
  all_goals (
    go_enter Try.func3, Try.ntmps3
    go_wp2_with fail
    refine (HA.out _).mono ?_
    rintro e w1 ⟨rfl, hb1⟩
    have HB := Lib.hid hb1
    clear hb1
    go_wp2_with fail
    refine (HC.out _).mono ?_
    rintro e w2 ⟨rfl, rfl⟩
    go_wp2_with fail
    refine (HR.out _).mono ?_
    rintro e w3 ⟨rfl, rfl⟩
    go_wp2_with fail
    refine (HD.out _).mono ?_
    rintro e w4 ⟨rfl, rfl⟩
    go_wp2_with fail
    refine (HE.out _).mono ?_
    rintro e w5 ⟨rfl, rfl⟩
    go_wp2_with fail
    go_ret
    exact ⟨by first | rfl | simp, HB.out⟩)
theorem lawRingHashes : Lift.Owes 3 [9, 3] := by
  intro H enc W base args ds ps hval hA _ _
  obtain ⟨v0, v1, d0, d1, p0, p1, rfl, rfl, rfl, h0, h1⟩ := trodAll_two hA
  obtain ⟨s, rfl, rfl, rfl, w0⟩ := ChangeMaps.open_string Try.underlying9 (hval 0 _ v0 rfl rfl) h0
  obtain ⟨n, rfl, rfl, rfl, w1⟩ := open_int Try.underlying3 (hval 1 _ v1 rfl rfl) h1
  exact walkRingHashes s n W (by simp [Lit.wf, IntKind.min, IntKind.max, IntKind.bits, IntKind.signed] at w1; omega)
end Rg
theorem lawRingHashes : Lift.Owes 3 [9, 3] := Rg.lawRingHashes
end Go.Proofs.Ytnmhacjokjcpfaa
