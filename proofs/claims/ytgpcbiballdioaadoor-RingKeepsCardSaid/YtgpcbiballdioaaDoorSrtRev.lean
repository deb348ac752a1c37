/- Reversing a range. -/
import Derived.Test.YtgpcbiballdioaaDoorSrtLess
namespace Go.Proofs.YtgpcbiballdioaaDoor
open Go.RowKit
set_option linter.unusedVariables false
set_option maxRecDepth 8000
namespace Srt
/-- Exchanged within a range, nothing else turned. -/
def GivesW (b off n a c : Nat) (d : Fn) (W0 : World) (e : Ending) (w' : World) : Prop :=
  e = .returned (.tuple #[]) ∧ ∃ d', Sw a c d d' ∧ Rw b off n W0 d' w'
set_option maxRecDepth 100000 in
set_option maxHeartbeats 2000000 in
theorem uRev (b off n cap a c : Nat) (d : Fn) (w : World) (h : At b off n d w) (hac : a < c) (hc : c ≤ n) (hn : n ≤ 1000) :
    Calls Tryd.prog 43 #[.slice (some ⟨b, off, none⟩) n cap, .int .i64 a, .int .i64 c] w (GivesW b off n a c d w) := by
  have R0 := Lib.hid (Rw.start h)
  obtain ⟨m, hm⟩ : ∃ m, c = m + 1 := ⟨c - 1, by omega⟩
  have em : (c : Int) - 1 = (m : Int) := by omega
  have HM := Lib.hid hm
  have hmn : m < n := by omega
  have ham : a ≤ m := by omega
  clear h hm
  go_enter Tryd.func43, Tryd.ntmps43
  go_wp2_with fail
  go_loopw [6, 7] (fun s6 s7 wr => ∃ (i j : Nat) (e : Fn), s6 = .int .i64 i ∧ s7 = .int .i64 ((j : Int) - 1) ∧ a ≤ i ∧ j ≤ c ∧ Sw a c d e ∧ Rw b off n w e wr) (fun _ s7 _ => (intOf s7 + 1).toNat)
  case atStart => exact ⟨a, m + 1, d, rfl, by go_num, Nat.le_refl _, by rw [HM.out]; exact Nat.le_refl _, .refl _, R0.out⟩
  case round =>
    obtain ⟨i, j, e, rfl, rfl, hai, hjc, hsw, hrw⟩ := hrel
    have HSW := Lib.hid hsw; have HRW := Lib.hid hrw
    clear hsw hrw
    by_cases hlt : i + 1 < j
    · obtain ⟨k, rfl⟩ : ∃ k, j = k + 1 := ⟨j - 1, by omega⟩
      have e1 : ((k + 1 : Nat) : Int) - 1 = (k : Int) := by omega
      rw [e1]
      have b1 : (i : Int) < (k : Int) := by omega
      have i1 : (k : Int) < (n : Int) := by omega
      have i2 : (i : Int) < (n : Int) := by omega
      obtain ⟨x, hx⟩ : ∃ x, e i = x := ⟨_, rfl⟩
      obtain ⟨y, hy⟩ : ∃ y, e k = y := ⟨_, rfl⟩
      have c1 := HRW.out.at_.cell i (by omega)
      have c2 := HRW.out.at_.cell k (by omega)
      have f1 := HRW.out.at_.free i (by omega)
      have f2 := HRW.out.at_.free k (by omega)
      rw [hx] at c1; rw [hy] at c2
      have HS3 := Lib.hid (HRW.out.swap (i := i) (j := k) (by omega) (by omega) hy hx)
      clear hx hy
      go_wp2_with fail
      go_region
      go_wp2_with fail
      go_roundw
      case rel => exact ⟨i + 1, k, _, by go_num, by go_num, by omega, by omega, HSW.out.trans (Sw.one e (i := i) (j := k) (by omega) (by omega) (by omega) (by omega)), HS3.out⟩
      case measure => simp [intOf]
    · have b1 : ¬ (i : Int) < (j : Int) - 1 := by omega
      go_wp2_with fail
      go_end0
      exact ⟨rfl, e, HSW.out, HRW.out⟩
end Srt
end Go.Proofs.YtgpcbiballdioaaDoor
