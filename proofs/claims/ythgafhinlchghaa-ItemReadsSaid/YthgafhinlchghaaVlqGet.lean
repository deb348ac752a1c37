/- Contracts of Get, GetSigned, GetText of package vlq, and of the reference's. -/
import Derived.Test.YthgafhinlchghaaVlqRead
namespace Go.Proofs.Ythgafhinlchghaa
open Go.RowKit
open Vlq
set_option linter.unusedVariables false
def M1 : Nat := 9223372036854775807
def M2 : Nat := 18446744073709551615
theorem M1_eq : (9223372036854775807 : Int) = (M1 : Nat) := by simp [M1]
theorem M2_eq : (18446744073709551615 : Int) = (M2 : Nat) := by simp [M2]
theorem rd_le (M : Nat) (hM : M % 128 = 127) (l : List UInt8) (i : Nat) : (rd M l i).1 ≤ M := by
  by_cases h : (rd M l i).2.2 = 0
  · have h2 : rd M l i = ((rd M l i).1, (rd M l i).2.1, 0) := by rw [← h]
    exact (rd_once hM h2).2.2.1
  · rw [(rd_bad h).1]; omega
theorem rd_to (M : Nat) (hM : M % 128 = 127) (l : List UInt8) (i : Nat) : (rd M l i).2.1 ≤ l.length := by
  by_cases h : (rd M l i).2.2 = 0
  · have h2 : rd M l i = ((rd M l i).1, (rd M l i).2.1, 0) := by rw [← h]
    exact (rd_once hM h2).2.1
  · rw [(rd_bad h).2]; omega
theorem rd1_le (l : List UInt8) (i : Nat) : ((rd M1 l i).1 : Int) ≤ 9223372036854775807 := by
  have := rd_le M1 (by decide) l i
  have h := M1_eq
  omega
theorem rd2_le (l : List UInt8) (i : Nat) : ((rd M2 l i).1 : Int) ≤ 18446744073709551615 := by
  have := rd_le M2 (by decide) l i
  have h := M2_eq
  omega
theorem M1_lt : M1 < 18446744073709551616 := by have := M1_eq; omega
theorem M2_lt : M2 < 18446744073709551616 := by have := M2_eq; omega
theorem vlqGet_bad (s : ByteArray) (i : Int) (w : World) (hs : s.size ≤ 9223372036854775807) (h : i < 0 ∨ (s.size : Int) < i) :
    Calls Try.prog 51 #[.string s, .int .i64 i] w (Got .i64 (0, 0, 1) w) := by
  go_enter Try.func51, Try.ntmps51
  go_wp2_with fail
  refine (vlqRead_bad s i _ _ hs h).mono ?_
  rintro e w' ⟨rfl, rfl⟩
  go_wp2_with fail
  go_ret3
  exact ⟨rfl, rfl⟩
set_option maxRecDepth 100000 in
theorem vlqGet_ok (s : ByteArray) (i : Nat) (w : World) (hs : s.size ≤ 9223372036854775807) (h : i ≤ s.size) :
    Calls Try.prog 51 #[.string s, .int .i64 i] w (Got .i64 (rd M1 (sl s) i) w) := by
  have hle := rd1_le (sl s) i
  go_enter Try.func51, Try.ntmps51
  go_wp2_with fail
  refine (vlqRead_ok s i _ M1 M1_eq M1_lt _ hs h).mono ?_
  rintro e w' ⟨rfl, rfl⟩
  go_wp2_with fail
  go_ret3
  exact ⟨rfl, rfl⟩
theorem refGet_bad (s : ByteArray) (i : Int) (w : World) (hs : s.size ≤ 9223372036854775807) (h : i < 0 ∨ (s.size : Int) < i) :
    Calls Try.prog 44 #[.string s, .int .i64 i] w (Got .i64 (0, 0, 1) w) := by
  go_enter Try.func44, Try.ntmps44
  go_wp2_with fail
  refine (refRead_bad s i _ _ hs h).mono ?_
  rintro e w' ⟨rfl, rfl⟩
  go_wp2_with fail
  go_ret3
  exact ⟨rfl, rfl⟩
set_option maxRecDepth 100000 in
theorem refGet_ok (s : ByteArray) (i : Nat) (w : World) (hs : s.size ≤ 9223372036854775807) (h : i ≤ s.size) :
    Calls Try.prog 44 #[.string s, .int .i64 i] w (Got .i64 (rd M1 (sl s) i) w) := by
  have hle := rd1_le (sl s) i
  go_enter Try.func44, Try.ntmps44
  go_wp2_with fail
  refine (refRead_ok s i _ M1 M1_eq (by decide) M1_lt _ hs h).mono ?_
  rintro e w' ⟨rfl, rfl⟩
  go_wp2_with fail
  go_ret3
  exact ⟨rfl, rfl⟩
theorem un_odd {n : Nat} (h : n % 2 = 1) : un n = -((n : Int) / 2) - 1 := by unfold un; rw [if_neg (by omega)]; omega
theorem un_even {n : Nat} (h : n % 2 = 0) : un n = (n : Int) / 2 := by unfold un; rw [if_pos h]; omega
set_option maxRecDepth 100000 in
theorem vlqUnzigzag (n : Nat) (h : (n : Int) ≤ 18446744073709551615) (w : World) :
    Calls Try.prog 61 #[.int .u64 n] w fun e w' => e = .returned (.int .i64 (un n)) ∧ w = w' := by
  by_cases hp : n % 2 = 1
  · have hc := Lib.hid (un_odd hp)
    have hm : ((n : Int) % 2 == 1) = true := by simp; omega
    clear hp
    go_enter Try.func61, Try.ntmps61
    go_wp2_with fail
    go_ret
    exact ⟨by rw [hc.out]; rfl, rfl⟩
  · have hc := Lib.hid (un_even (n := n) (by omega))
    have hm : ((n : Int) % 2 == 1) = false := by simp; omega
    clear hp
    go_enter Try.func61, Try.ntmps61
    go_wp2_with fail
    go_ret
    exact ⟨by rw [hc.out]; rfl, rfl⟩
set_option maxRecDepth 100000 in
theorem refUnfolded (n : Nat) (h : (n : Int) ≤ 18446744073709551615) (w : World) :
    Calls Try.prog 56 #[.int .u64 n] w fun e w' => e = .returned (.int .i64 (un n)) ∧ w = w' := by
  by_cases hp : n % 2 = 1
  · have hc := Lib.hid (un_odd hp)
    have hm : ((n : Int) % 2 == 0) = false := by simp; omega
    clear hp
    go_enter Try.func56, Try.ntmps56
    go_wp2_with fail
    go_ret
    exact ⟨by rw [hc.out]; rfl, rfl⟩
  · have hc := Lib.hid (un_even (n := n) (by omega))
    have hm : ((n : Int) % 2 == 0) = true := by simp; omega
    clear hp
    go_enter Try.func56, Try.ntmps56
    go_wp2_with fail
    go_ret
    exact ⟨by rw [hc.out]; rfl, rfl⟩
/-- A signed number, the place behind it and an error. -/
def GotS (R : Nat × Nat × Nat) (w : World) (e : Ending) (w' : World) : Prop :=
  e = .returned (.tuple #[.int .i64 (un R.1), .int .i64 (R.2.1 : Int), .int .i64 (R.2.2 : Int)]) ∧ w = w'
theorem vlqGetSigned_bad (s : ByteArray) (i : Int) (w : World) (hs : s.size ≤ 9223372036854775807) (h : i < 0 ∨ (s.size : Int) < i) :
    Calls Try.prog 54 #[.string s, .int .i64 i] w (GotS (0, 0, 1) w) := by
  go_enter Try.func54, Try.ntmps54
  go_wp2_with fail
  refine (vlqRead_bad s i _ _ hs h).mono ?_
  rintro e w' ⟨rfl, rfl⟩
  go_wp2_with fail
  refine (vlqUnzigzag 0 (by omega) _).mono ?_
  rintro e w' ⟨rfl, rfl⟩
  go_wp2_with fail
  go_ret3
  exact ⟨rfl, rfl⟩
theorem vlqGetSigned_ok (s : ByteArray) (i : Nat) (w : World) (hs : s.size ≤ 9223372036854775807) (h : i ≤ s.size) :
    Calls Try.prog 54 #[.string s, .int .i64 i] w (GotS (rd M2 (sl s) i) w) := by
  go_enter Try.func54, Try.ntmps54
  go_wp2_with fail
  refine (vlqRead_ok s i _ M2 M2_eq M2_lt _ hs h).mono ?_
  rintro e w' ⟨rfl, rfl⟩
  go_wp2_with fail
  refine (vlqUnzigzag _ (rd2_le _ _) _).mono ?_
  rintro e w' ⟨rfl, rfl⟩
  go_wp2_with fail
  go_ret3
  exact ⟨rfl, rfl⟩
theorem refGetSigned_bad (s : ByteArray) (i : Int) (w : World) (hs : s.size ≤ 9223372036854775807) (h : i < 0 ∨ (s.size : Int) < i) :
    Calls Try.prog 46 #[.string s, .int .i64 i] w (GotS (0, 0, 1) w) := by
  go_enter Try.func46, Try.ntmps46
  go_wp2_with fail
  refine (refRead_bad s i _ _ hs h).mono ?_
  rintro e w' ⟨rfl, rfl⟩
  go_wp2_with fail
  go_ret3
  exact ⟨rfl, rfl⟩
theorem gotS_bad {R : Nat × Nat × Nat} (h : R.1 = 0 ∧ R.2.1 = 0) : Ending.returned (.tuple #[.int .i64 (un R.1), .int .i64 (R.2.1 : Int), .int .i64 (R.2.2 : Int)]) = .returned (.tuple #[.int .i64 0, .int .i64 0, .int .i64 (R.2.2 : Int)]) := by
  rw [h.1, h.2]; rfl
theorem refGetSigned_ok (s : ByteArray) (i : Nat) (w : World) (hs : s.size ≤ 9223372036854775807) (h : i ≤ s.size) :
    Calls Try.prog 46 #[.string s, .int .i64 i] w (GotS (rd M2 (sl s) i) w) := by
  have hbd := rd2_le (sl s) i
  by_cases he : (rd M2 (sl s) i).2.2 = 0
  · have he' : (((rd M2 (sl s) i).2.2 : Int) == 0) = true := by simp; omega
    have he2 : (((rd M2 (sl s) i).2.2 : Int) != 0) = false := by simp; omega
    have HE := Lib.hid he
    clear he
    go_enter Try.func46, Try.ntmps46
    go_wp2_with fail
    refine (refRead_ok s i _ M2 M2_eq (by decide) M2_lt _ hs h).mono ?_
    rintro e w' ⟨rfl, rfl⟩
    go_wp2_with fail
    refine (refUnfolded _ hbd _).mono ?_
    rintro e w' ⟨rfl, rfl⟩
    go_wp2_with fail
    go_ret3
    exact ⟨rfl, rfl⟩
  · have he' : (((rd M2 (sl s) i).2.2 : Int) == 0) = false := by simp; omega
    have he2 : (((rd M2 (sl s) i).2.2 : Int) != 0) = true := by simp; omega
    have HB := Lib.hid (gotS_bad (rd_bad he))
    clear he
    go_enter Try.func46, Try.ntmps46
    go_wp2_with fail
    refine (refRead_ok s i _ M2 M2_eq (by decide) M2_lt _ hs h).mono ?_
    rintro e w' ⟨rfl, rfl⟩
    go_wp2_with fail
    go_ret3
    exact ⟨by rw [HB.out]; rfl, rfl⟩
end Go.Proofs.Ythgafhinlchghaa
