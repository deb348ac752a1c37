/- The walk of the law RingAssigns. -/
import Derived.Test.YtgpcbiballdioaaDoorRingAsgC
import Derived.Test.YtgpcbiballdioaaDoorLift
import Derived.Deep.CutRange
namespace Go.Proofs.YtgpcbiballdioaaDoor
open Go.ChangeShapes Go.WideShapes Go.ChangeAt Go.RowKit
set_option linter.unusedVariables false
set_option maxRecDepth 8000
namespace Rg
theorem assign_len (l : List Int) (groups : Int) : (assign l groups).1.length ≤ 32 := by
  unfold assign
  split
  · exact Nat.zero_le _
  · split
    · exact Nat.zero_le _
    · rw [owners_len]; omega
theorem take_row {w : World} {A : Option Addr} {l : List Int} (h : Row w A (iv l)) (n : Nat) : Row w A (iv (l.take n)) := by
  rcases h with h | ⟨b, off, h1, h2⟩
  · left
    have : l = [] := by simpa [iv] using h
    subst this; simp [iv]
  · refine .inr ⟨b, off, h1, fun j u hu => ?_⟩
    rw [show iv (l.take n) = (iv l).take n from List.map_take .., List.getElem?_take] at hu
    split at hu
    · exact h2 j u hu
    · cases hu
set_option maxRecDepth 100000 in
set_option maxHeartbeats 2000000 in
theorem walkRingAssigns (l : List Int) (groups : Int) (A : Option Addr) (c : Nat) (w : World) (hA : Row w A (iv l)) (hl : l.length ≤ c) (hc : c ≤ maxLen) :
    Calls Tryd.prog 3 #[.slice A l.length c, .int .i64 groups] w (TellsR true w) := by
  have hc2 : c ≤ 9223372036854775807 := by unfold maxLen at hc; omega
  obtain ⟨ys, hys⟩ : ∃ ys, ys = l.take 100 := ⟨_, rfl⟩
  have hyl : (l.length ≤ 100 ∧ ys.length = l.length) ∨ (100 < l.length ∧ ys.length = 100) := by rw [hys, List.length_take]; omega
  have hyr : Row w A (iv ys) := hys ▸ take_row hA 100
  have hsome : 100 < l.length → ∃ b off, A = some ⟨b, off, none⟩ := fun h => by
    rcases hA with h1 | ⟨b, off, h1, _⟩
    · have : l = [] := by simpa [iv] using h1
      subst this; simp at h
    · exact ⟨b, off, h1⟩
  have hy9 : ys.length ≤ 9223372036854775807 := by omega
  obtain ⟨r, hr⟩ : ∃ r, r = assign ys groups := ⟨_, rfl⟩
  obtain ⟨bb, hbb⟩ : ∃ bb, bb = right ys := ⟨_, rfl⟩
  have hrl : r.1.length ≤ 32 := by rw [hr]; exact assign_len _ _
  have HC := Lib.hid (fun w' (hb : Below w.heap.size w w') => ckAssign ys groups A c w' (hyr.below hb) hy9)
  have HR := Lib.hid (fun w' (hb : Below w.heap.size w w') => rfAssign ys groups A c w' (hyr.below hb) hy9)
  have HCR := Lib.hid (fun w' (hb : Below w.heap.size w w') => ckRight ys A c w' (hyr.below hb) hy9)
  have HRR := Lib.hid (fun w' (hb : Below w.heap.size w w') => rfRightG ys A c w' (hyr.below hb) hy9)
  rw [← hr] at HC HR
  rw [← hbb] at HCR HRR
  have HL := Lib.hid (fun A c B d w => rfIntsG r.1 A c B d w (by omega))
  have HA := Lib.hid (fun w => lawAliveR w)
  have HSM := Lib.hid hsome
  have HYL := Lib.hid hyl
  clear hr hbb hys hyr hA hsome hyl
  obtain ⟨us, en⟩ := r
  simp only at HC HR HL hrl
  obtain ⟨un, hun⟩ : ∃ un, un = us.length := ⟨_, rfl⟩
  have HUN := Lib.hid hun
  have e1 := eq_b (rfl : en = en)
  clear hun
  go_enter Tryd.func3, Tryd.ntmps3
  go_upto_if 11 with fail
  go_cut [0] from 9 (fun s0 wc => s0 = .slice A ys.length c ∧ wc = w)
  case first =>
    rcases HYL.out with ⟨h1, h2⟩ | ⟨h1, h2⟩
    · have b1 : ¬ (100 : Int) < (l.length : Int) := by omega
      clear h1
      go_wp2_with fail
      go_meet
      case rel => exact ⟨by rw [h2], rfl⟩
    · obtain ⟨b, off, rfl⟩ := HSM.out h1
      have b1 : (100 : Int) < (l.length : Int) := by omega
      have b2 : (100 : Int) ≤ (c : Int) := by omega
      have b3 : 100 ≤ c := by omega
      clear h1
      go_wp2_with fail
      go_meet
      case rel => exact ⟨by rw [h2], rfl⟩
  case rest =>
    obtain ⟨rfl, rfl⟩ := hcut
    go_wp2_with fail
    refine (HC.out _ (Below.refl _ _)).mono ?_
    rintro e w1 ⟨A1, c1, rfl, _, _, r1, hb1⟩
    have B1 := Lib.hid hb1; have R1 := Lib.hid r1
    clear hb1 r1
    simp only
    go_wp2_with fail
    refine (HR.out _ B1.out).mono ?_
    rintro e w2 ⟨A2, c2, rfl, _, _, r2, hb2⟩
    have B2 := Lib.hid (below_next B1.out hb2); have R2 := Lib.hid r2; have R12 := Lib.hid (R1.out.below hb2)
    clear hb2 r2
    simp only
    go_wp2_with fail
    refine (HA.out _).mono ?_
    rintro e w3 ⟨rfl, hb3⟩
    have B3 := Lib.hid (below_next B2.out hb3); have R23 := Lib.hid (R2.out.below hb3); have R13 := Lib.hid (R12.out.below hb3)
    clear hb3
    go_wp2_with fail
    refine (HCR.out _ B3.out).mono ?_
    rintro e w4 ⟨rfl, rfl⟩
    go_wp2_with fail
    refine (HRR.out _ B3.out).mono ?_
    rintro e w5 ⟨rfl, rfl⟩
    go_wp2_with fail
    refine (HL.out _ _ _ _ _ R13.out R23.out).mono ?_
    rintro e w6 ⟨rfl, hb6⟩
    have B6 := Lib.hid (below_next B3.out hb6)
    clear hb6
    go_wp2_with fail
    go_ret
    exact ⟨rfl, B6.out⟩
theorem lawRingAssigns : Lift.Owes 3 [22, 3] := by
  intro H enc W base args ds ps hval hA _ _
  obtain ⟨v0, v1, d0, d1, p0, p1, rfl, rfl, rfl, h0, h1⟩ := trodAll_two hA
  obtain ⟨A, c, zs, rfl, hl, hm, hr, _, hd⟩ := openInts Tryd.underlying22 Tryd.underlying3 (by kernel_rfl) (hval 0 _ v0 rfl rfl) h0
  obtain ⟨n, rfl, rfl, rfl, w1⟩ := open_int Tryd.underlying3 (hval 1 _ v1 rfl rfl) h1
  exact walkRingAssigns zs n A c W hr hl hm
end Rg
theorem lawRingAssigns : Lift.Owes 3 [22, 3] := Rg.lawRingAssigns
end Go.Proofs.YtgpcbiballdioaaDoor
