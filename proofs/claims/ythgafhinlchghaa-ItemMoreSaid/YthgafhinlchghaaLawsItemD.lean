/- The walk of the law on more bytes and fewer: it returns true, whatever the input. -/
import Derived.Test.YthgafhinlchghaaLawsItemC
namespace Go.Proofs.Ythgafhinlchghaa
open Go.ChangeShapes Go.WideShapes Go.ChangeAt Go.RowKit
open Itm Vlq
set_option linter.unusedVariables false
theorem more_not (a : It) (x : Int) (h : right a = false) (w : World) : Calls Try.prog 8 #[itV a, .int .u8 x] w (Yes w) := by
  have HA := Lib.hid (fun w => itAlive w)
  have HP := Lib.hid (fun w => itPut_not a h w)
  clear h
  go_enter Try.func8, Try.ntmps8
  go_wp2_with fail
  refine (HP.out _).mono ?_
  rintro e w2 ⟨rfl, hb2⟩
  go_wp2_with fail
  refine (HA.out _).mono ?_
  rintro e w3 ⟨rfl, hb3⟩
  go_wp2_with fail
  go_ret
  exact ⟨rfl, below_next (below_next (below_al (Below.refl _ _)) hb2) hb3⟩
set_option maxHeartbeats 400000 in
theorem more_ok (a : It) (c : UInt8) (h : right a = true) (hf : Fits a) (w : World) : Calls Try.prog 8 #[itV a, .int .u8 (c.toNat : Int)] w (Yes w) := by
  obtain ⟨S, hS, z1, z2, hne, hP⟩ := put_s h hf
  obtain ⟨k, hk⟩ : ∃ k, S.size = k + 1 := ⟨S.size - 1, by omega⟩
  have hG1 := fun w => itGet (S ++ ⟨[c].toArray⟩) (by rw [ByteArray.size_append, Lib.size_eq ⟨[c].toArray⟩]; simp; omega) w
  rw [getF_more (c := c) h hf (by rw [sl_cat, hS])] at hG1
  obtain ⟨X, hX⟩ : ∃ X, X = S.extract 0 k := ⟨_, rfl⟩
  have hXs : sl X = (itB a).take ((itB a).length - 1) := by
    rw [hX, cut_eq, ← hS, sl_len, hk]
    simp
  have hG2 := fun w => itGet X (by rw [hX, ByteArray.size_extract]; omega) w
  rw [getF_cut h hf hXs] at hG2
  have hsl : ∀ w, (Instr.slice 9 (.string S) none (some (.int .i64 (k : Int))) none).run Try.prog w = .ok (.string X) w := fun w => by
    rw [hX, run_slice_string_h (P := Try.prog) w 9 S Try.underlying9 .i64 (k : Int) (by omega) (by omega)]; rfl
  have hcv : ∀ w : World, (convert 41 9 (.slice (some ⟨w.heap.size, 0, none⟩) 1 1)).run Try.prog (w.alloc (.cells #[.int .u8 (c.toNat : Int)] 5)) = .ok (.string ⟨[c].toArray⟩) (w.alloc (.cells #[.int .u8 (c.toNat : Int)] 5)) := fun w =>
    run_row_str (P := Try.prog) (c := 1) (l := [c]) Try.underlying41 Try.underlying5 Try.underlying9 (one_new w _ _)
  have q1 := add_run (a := S) (b := ⟨[c].toArray⟩) (by rw [Lib.size_eq ⟨[c].toArray⟩]; simp; omega)
  have hz : (S.size : Int) = (k : Int) + 1 := by omega
  have hk2 : (k : Int) ≤ 100 := by omega
  have hz0 : ((k : Int) + 1 == 0) = false := ne_b (by omega)
  have HP := Lib.hid hP; have H1 := Lib.hid hG1; have H2 := Lib.hid hG2
  clear hG1 hG2 hP hX hXs h hf hS z1 z2 hne hk
  go_enter Try.func8, Try.ntmps8
  go_wp2_with fail
  refine (HP.out _).mono ?_
  rintro e w2 ⟨rfl, hb2⟩
  have hcv2 := hcv w2
  go_wp2_with fail
  refine (H1.out _).mono ?_
  rintro e w3 ⟨rfl, hb3⟩
  go_wp2_with fail
  refine (H2.out _).mono ?_
  rintro e w4 ⟨rfl, hb4⟩
  go_wp2_with fail
  go_ret
  exact ⟨rfl, below_al (below_next (below_al (below_next (below_al (below_next (below_al (Below.refl _ _)) hb2)) hb3)) hb4)⟩
theorem lawItemMore : Lift.Owes 8 [29, 5] := by
  intro H enc W base args ds ps hval hA _ _
  obtain ⟨v0, v1, d0, d1, p0, p1, rfl, rfl, rfl, h0, h1⟩ := trodAll_two hA
  obtain ⟨a, rfl, hf⟩ := openItem (hval 0 _ v0 rfl rfl) h0
  obtain ⟨x, rfl, rfl, rfl, w1⟩ := open_int Try.underlying5 (hval 1 _ v1 rfl rfl) h1
  by_cases hr : right a = true
  · have hb : 0 ≤ x ∧ x ≤ 255 := by
      simp [Lit.wf, IntKind.min, IntKind.max, IntKind.bits, IntKind.signed] at w1
      omega
    have e : x = ((UInt8.ofNat x.toNat).toNat : Int) := by rw [ofNat_val (by omega)]; omega
    rw [e]
    exact more_ok a _ hr hf W
  · exact more_not a x (by simpa using hr) W
end Go.Proofs.Ythgafhinlchghaa
