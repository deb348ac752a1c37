/- The walks of the vlq laws on reading: each returns true, whatever the input. -/
import Derived.Test.YtopcjkjedlkpcaaLawsVlq
namespace Go.Proofs.Ytopcjkjedlkpcaa
open Go.ChangeShapes Go.WideShapes Go.ChangeAt Go.RowKit
open Vlq
set_option linter.unusedVariables false
theorem get_any (s : ByteArray) (i : Int) (hs : s.size ≤ 6000) : ∃ R : Nat × Nat × Nat,
    (∀ w, Calls Try.prog 16 #[.string s, .int .i64 i] w (Got .i64 R w)) ∧ (∀ w, Calls Try.prog 17 #[.string s, .int .i64 i] w (Got .i64 R w)) := by
  by_cases h : i < 0 ∨ (s.size : Int) < i
  · exact ⟨_, fun w => vlqGet_bad s i w (by omega) h, fun w => refGet_bad s i w (by omega) h⟩
  · obtain ⟨k, rfl⟩ := Int.eq_ofNat_of_zero_le (a := i) (by omega)
    exact ⟨_, fun w => vlqGet_ok s k w (by omega) (by omega), fun w => refGet_ok s k w (by omega) (by omega)⟩
theorem getS_any (s : ByteArray) (i : Int) (hs : s.size ≤ 6000) : ∃ R : Nat × Nat × Nat,
    (∀ w, Calls Try.prog 18 #[.string s, .int .i64 i] w (GotS R w)) ∧ (∀ w, Calls Try.prog 19 #[.string s, .int .i64 i] w (GotS R w)) := by
  by_cases h : i < 0 ∨ (s.size : Int) < i
  · exact ⟨_, fun w => vlqGetSigned_bad s i w (by omega) h, fun w => refGetSigned_bad s i w (by omega) h⟩
  · obtain ⟨k, rfl⟩ := Int.eq_ofNat_of_zero_le (a := i) (by omega)
    exact ⟨_, fun w => vlqGetSigned_ok s k w (by omega) (by omega), fun w => refGetSigned_ok s k w (by omega) (by omega)⟩
theorem getT_any (s : ByteArray) (i : Int) (hs : s.size ≤ 6000) : ∃ R : List UInt8 × Nat × Nat,
    (∀ w, Calls Try.prog 20 #[.string s, .int .i64 i] w (GotT R w)) ∧ (∀ w, Calls Try.prog 21 #[.string s, .int .i64 i] w (GotT R w)) := by
  by_cases h : i < 0 ∨ (s.size : Int) < i
  · exact ⟨_, fun w => vlqGetText_bad s i w (by omega) h, fun w => refGetText_bad s i w (by omega) h⟩
  · obtain ⟨k, rfl⟩ := Int.eq_ofNat_of_zero_le (a := i) (by omega)
    exact ⟨_, fun w => vlqGetText_ok s k w (by omega) (by omega), fun w => refGetText_ok s k w (by omega) (by omega)⟩
theorem enc_two : enc (zz 1) = [2] := by
  rw [show zz 1 = 2 by decide, enc, show 2 / 128 = 0 by decide, hi_zero]; rfl
theorem enc_zero : enc (zz 0) = [0] := by
  rw [show zz 0 = 0 by decide, enc, show 0 / 128 = 0 by decide, hi_zero]; rfl
theorem signed_one (w : World) : Calls Try.prog 13 #[.int .i64 1] w (IsStr [2] w) := by
  have h := vlqSigned 1 (by omega) (by omega) w
  rw [enc_two] at h
  exact h
theorem signed_zero (w : World) : Calls Try.prog 13 #[.int .i64 0] w (IsStr [0] w) := by
  have h := vlqSigned 0 (by omega) (by omega) w
  rw [enc_zero] at h
  exact h
theorem walkVlqReads (s0 : ByteArray) (i : Int) (w : World) :
    Calls Try.prog 4 #[.string s0, .int .i64 i] w (Yes w) := by
  obtain ⟨s, hs, hsh⟩ := lawShort s0 w
  obtain ⟨R, h1, h2⟩ := get_any s i hs
  obtain ⟨S, h3, h4⟩ := getS_any s i hs
  obtain ⟨T, h5, h6⟩ := getT_any s i hs
  have H0 := Lib.hid hsh; have H1 := Lib.hid h1; have H2 := Lib.hid h2; have H3 := Lib.hid h3; have H4 := Lib.hid h4; have H5 := Lib.hid h5; have H6 := Lib.hid h6
  clear hsh h1 h2 h3 h4 h5 h6
  go_enter Try.func4, Try.ntmps4
  go_wp2_with fail
  refine H0.out.mono ?_
  rintro e w' ⟨rfl, rfl⟩
  go_wp2_with fail
  refine (H1.out _).mono ?_
  rintro e w' ⟨rfl, rfl⟩
  go_wp2_with fail
  refine (H2.out _).mono ?_
  rintro e w' ⟨rfl, rfl⟩
  go_wp2_with fail
  refine (H3.out _).mono ?_
  rintro e w' ⟨rfl, rfl⟩
  go_wp2_with fail
  refine (H4.out _).mono ?_
  rintro e w' ⟨rfl, rfl⟩
  go_wp2_with fail
  refine (H5.out _).mono ?_
  rintro e w1 ⟨rfl, hb1⟩
  go_wp2_with fail
  refine (H6.out _).mono ?_
  rintro e w2 ⟨rfl, hb2⟩
  go_wp2_with fail
  refine (signed_one _).mono ?_
  rintro e w3 ⟨rfl, hb3⟩
  go_wp2_with fail
  go_ret
  exact ⟨rfl, below_next (below_next hb1 hb2) hb3⟩
theorem lawVlqReads : Lift.Owes 4 [9, 3] := by
  intro H enc W base args ds ps hval hA _ _
  obtain ⟨v0, v1, d0, d1, p0, p1, rfl, rfl, rfl, h0, h1⟩ := trodAll_two hA
  obtain ⟨s, rfl, rfl, rfl, w0⟩ := ChangeMaps.open_string Try.underlying9 (hval 0 _ v0 rfl rfl) h0
  obtain ⟨n, rfl, rfl, rfl, w1⟩ := open_int Try.underlying3 (hval 1 _ v1 rfl rfl) h1
  exact walkVlqReads s n W
end Go.Proofs.Ytopcjkjedlkpcaa
