/- slices.Sort of few 32-bit numbers. -/
import Derived.Test.YtgpcbiballdioaaDoorSrtPdq
namespace Go.Proofs.YtgpcbiballdioaaDoor
open Go.RowKit
set_option linter.unusedVariables false
set_option maxRecDepth 8000
namespace Srt
set_option maxRecDepth 100000 in
set_option maxHeartbeats 1000000 in
theorem uSort (b off n cap : Nat) (d : Fn) (w : World) (h : At b off n d w) (hn : n ≤ 100) :
    Calls Tryd.prog 29 #[.slice (some ⟨b, off, none⟩) n cap] w (GivesS b off n 0 n d w) := by
  obtain ⟨L, h1, _, h3⟩ := uLen n w hn
  have H3 := Lib.hid h3
  have HP := Lib.hid (uPdq b off n cap hn n 0 n L d w h (Nat.zero_le _) (Nat.le_refl _) (Nat.le_refl _) (by omega) (fun k h0 => absurd h0 (by omega)))
  have e1 : IntKind.u64.wrap (n : Int) = (n : Int) := by rw [IntKind.wrap_u64]; omega
  clear h h3 h1
  go_enter Tryd.func29, Tryd.ntmps29
  go_wp2_with fail
  refine (H3.out _).mono ?_
  rintro e w1 ⟨rfl, rfl⟩
  go_wp2_with fail
  refine HP.out.mono ?_
  rintro e w2 ⟨rfl, d', k1, k2, k3⟩
  go_wp2_with fail
  go_end0
  exact ⟨rfl, d', k1, k2, k3⟩
end Srt
end Go.Proofs.YtgpcbiballdioaaDoor
