/- Contracts of GetText of package vlq, and of the reference's. -/
import Derived.Test.YthgafhinlchghaaVlqGet
namespace Go.Proofs.Ythgafhinlchghaa
open Go.RowKit
open Vlq
set_option linter.unusedVariables false
/-- The text that is encoded at a place, the place behind it and an error. -/
def rt (l : List UInt8) (i : Nat) : List UInt8 × Nat × Nat :=
  let R := rd M1 l i
  if R.2.2 ≠ 0 then ([], 0, R.2.2) else if 4096 < R.1 then ([], 0, 2) else if l.length < R.2.1 + R.1 then ([], 0, 20) else ((l.drop R.2.1).take R.1, R.2.1 + R.1, 0)
def GotT (R : List UInt8 × Nat × Nat) (w : World) (e : Ending) (w' : World) : Prop :=
  e = .returned (.tuple #[.string ⟨R.1.toArray⟩, .int .i64 (R.2.1 : Int), .int .i64 (R.2.2 : Int)]) ∧ Below w.heap.size w w'
theorem cut_eq (s : ByteArray) (a b : Nat) : s.extract a b = ⟨(((sl s).drop a).take (b - a)).toArray⟩ := by
  apply ByteArray.ext
  rw [ByteArray.data_extract]
  apply Array.ext'
  rw [Array.toList_extract]
theorem sl_len (s : ByteArray) : (sl s).length = s.size := by simp [sl]
/-- The four ways of a text. -/
theorem rt_ways (s : ByteArray) (i : Nat) (R : Nat × Nat × Nat) (hR : R = rd M1 (sl s) i) :
    (R.2.2 ≠ 0 ∧ rt (sl s) i = ([], 0, R.2.2)) ∨ (R.2.2 = 0 ∧ R.2.1 ≤ s.size ∧
      ((4096 < R.1 ∧ rt (sl s) i = ([], 0, 2)) ∨ (R.1 ≤ 4096 ∧ ((s.size < R.2.1 + R.1 ∧ rt (sl s) i = ([], 0, 20)) ∨ (R.2.1 + R.1 ≤ s.size ∧ (⟨(rt (sl s) i).1.toArray⟩ : ByteArray) = s.extract R.2.1 (R.2.1 + R.1) ∧ (rt (sl s) i).2 = (R.2.1 + R.1, 0)))))) := by
  subst hR
  have ht := rd_to M1 (by decide) (sl s) i
  rw [sl_len] at ht
  by_cases h : (rd M1 (sl s) i).2.2 = 0
  · right
    refine ⟨h, ht, ?_⟩
    by_cases h2 : 4096 < (rd M1 (sl s) i).1
    · left
      refine ⟨h2, ?_⟩
      unfold rt
      simp only [h, ne_eq, not_true_eq_false, if_false, h2, if_true]
    · right
      refine ⟨by omega, ?_⟩
      by_cases h3 : s.size < (rd M1 (sl s) i).2.1 + (rd M1 (sl s) i).1
      · left
        refine ⟨h3, ?_⟩
        unfold rt
        simp only [h, ne_eq, not_true_eq_false, if_false, h2, sl_len, h3, if_true]
      · right
        have e : rt (sl s) i = (((sl s).drop (rd M1 (sl s) i).2.1).take (rd M1 (sl s) i).1, (rd M1 (sl s) i).2.1 + (rd M1 (sl s) i).1, 0) := by
          unfold rt
          simp only [h, ne_eq, not_true_eq_false, if_false, h2, sl_len, h3]
        refine ⟨by omega, ?_, by rw [e]⟩
        rw [e, cut_eq, Nat.add_sub_cancel_left]
  · left
    refine ⟨h, ?_⟩
    unfold rt
    simp only [ne_eq, h, not_false_eq_true, if_true]
theorem gotT_err {R : List UInt8 × Nat × Nat} {c : Nat} (h : R = ([], 0, c)) : Ending.returned (.tuple #[.string ⟨R.1.toArray⟩, .int .i64 (R.2.1 : Int), .int .i64 (R.2.2 : Int)]) = .returned (.tuple #[.string ⟨#[]⟩, .int .i64 0, .int .i64 (c : Int)]) := by
  rw [h]; rfl
theorem gotT_ok {R : List UInt8 × Nat × Nat} {s : ByteArray} {a b : Nat} (h : (⟨R.1.toArray⟩ : ByteArray) = s.extract a (a + b)) (h2 : R.2 = (a + b, 0)) :
    Ending.returned (.tuple #[.string ⟨R.1.toArray⟩, .int .i64 (R.2.1 : Int), .int .i64 (R.2.2 : Int)]) = .returned (.tuple #[.string (s.extract a (a + b)), .int .i64 ((a : Int) + (b : Int)), .int .i64 0]) := by
  rw [h, h2]; simp
theorem run_piece {P : Program} (t : TypeId) (ht : P.underlying t = some .string) (s : ByteArray) (a b : Nat) (h : a + b ≤ s.size) (w : World) :
    (Instr.slice t (.string s) (some (.int .i64 (a : Int))) (some (.int .i64 ((a : Int) + (b : Int)))) none).run P w = .ok (.string (s.extract a (a + b))) w := by
  rw [run_slice_string (P := P) w t s .i64 .i64 (a : Int) ((a : Int) + (b : Int)) ht (by omega) (by omega) (by omega)]
  rw [show ((a : Int) + (b : Int)).toNat = a + b by omega, Int.toNat_natCast]
theorem vlqGetText_bad (s : ByteArray) (i : Int) (w : World) (hs : s.size ≤ 9223372036854775807) (h : i < 0 ∨ (s.size : Int) < i) :
    Calls Try.prog 53 #[.string s, .int .i64 i] w (GotT ([], 0, 1) w) := by
  go_enter Try.func53, Try.ntmps53
  go_wp2_with fail
  refine (vlqGet_bad s i _ hs h).mono ?_
  rintro e w' ⟨rfl, rfl⟩
  go_wp2_with fail
  go_ret3
  exact ⟨rfl, Below.refl _ _⟩
set_option maxRecDepth 100000 in
theorem vlqGetText_ok (s : ByteArray) (i : Nat) (w : World) (hs : s.size ≤ 9223372036854775807) (h : i ≤ s.size) :
    Calls Try.prog 53 #[.string s, .int .i64 i] w (GotT (rt (sl s) i) w) := by
  have hle := rd1_le (sl s) i
  have hg := fun w => vlqGet_ok s i w hs h
  obtain ⟨R, hR⟩ : ∃ R, R = rd M1 (sl s) i := ⟨_, rfl⟩
  have hw := rt_ways s i R hR
  rw [← hR] at hle hg
  have HG := Lib.hid hg
  clear hR hg
  rcases hw with ⟨hc, he⟩ | ⟨hc, ht, ⟨ha, he⟩ | ⟨ha, ⟨hb, he⟩ | ⟨hb, he, he2⟩⟩⟩
  · have hc' : ((R.2.2 : Int) != 0) = true := by simp; omega
    have HE := Lib.hid (gotT_err he)
    clear hc he
    go_enter Try.func53, Try.ntmps53
    go_wp2_with fail
    refine (HG.out _).mono ?_
    rintro e w' ⟨rfl, rfl⟩
    go_wp2_with fail
    go_ret3
    exact ⟨by rw [HE.out]; rfl, Below.refl _ _⟩
  · have hc' : ((R.2.2 : Int) != 0) = false := by simp; omega
    have HE := Lib.hid (gotT_err he)
    clear hc he
    go_enter Try.func53, Try.ntmps53
    go_wp2_with fail
    refine (HG.out _).mono ?_
    rintro e w' ⟨rfl, rfl⟩
    go_wp2_with fail
    go_ret3
    exact ⟨by rw [HE.out]; rfl, Below.refl _ _⟩
  · have hc' : ((R.2.2 : Int) != 0) = false := by simp; omega
    have HE := Lib.hid (gotT_err he)
    clear hc he
    go_enter Try.func53, Try.ntmps53
    go_wp2_with fail
    refine (HG.out _).mono ?_
    rintro e w' ⟨rfl, rfl⟩
    go_wp2_with fail
    go_ret3
    exact ⟨by rw [HE.out]; rfl, Below.refl _ _⟩
  · have hc' : ((R.2.2 : Int) != 0) = false := by simp; omega
    have HE := Lib.hid (gotT_ok he he2)
    have hsl := run_piece (P := Try.prog) 9 Try.underlying9 s R.2.1 R.1 hb
    clear hc he he2
    go_enter Try.func53, Try.ntmps53
    go_wp2_with fail
    refine (HG.out _).mono ?_
    rintro e w' ⟨rfl, rfl⟩
    go_wp2_with fail
    refine (strClone (s.extract R.2.1 (R.2.1 + R.1)) _ (by rw [ByteArray.size_extract]; omega)).mono ?_
    rintro e w2 ⟨rfl, hb2⟩
    go_wp2_with fail
    go_ret3
    exact ⟨by rw [HE.out]; rfl, hb2⟩
theorem refGetText_bad (s : ByteArray) (i : Int) (w : World) (hs : s.size ≤ 9223372036854775807) (h : i < 0 ∨ (s.size : Int) < i) :
    Calls Try.prog 45 #[.string s, .int .i64 i] w (GotT ([], 0, 1) w) := by
  go_enter Try.func45, Try.ntmps45
  go_wp2_with fail
  refine (refGet_bad s i _ hs h).mono ?_
  rintro e w' ⟨rfl, rfl⟩
  go_wp2_with fail
  go_ret3
  exact ⟨rfl, Below.refl _ _⟩
set_option maxRecDepth 100000 in
theorem refGetText_ok (s : ByteArray) (i : Nat) (w : World) (hs : s.size ≤ 140737488355328) (h : i ≤ s.size) :
    Calls Try.prog 45 #[.string s, .int .i64 i] w (GotT (rt (sl s) i) w) := by
  have hle := rd1_le (sl s) i
  have hg := fun w => refGet_ok s i w (by omega) h
  obtain ⟨R, hR⟩ : ∃ R, R = rd M1 (sl s) i := ⟨_, rfl⟩
  have hw := rt_ways s i R hR
  rw [← hR] at hle hg
  have HG := Lib.hid hg
  clear hR hg
  rcases hw with ⟨hc, he⟩ | ⟨hc, ht, ⟨ha, he⟩ | ⟨ha, ⟨hb, he⟩ | ⟨hb, he, he2⟩⟩⟩
  · have hc' : ((R.2.2 : Int) != 0) = true := by simp; omega
    have HE := Lib.hid (gotT_err he)
    clear hc he
    go_enter Try.func45, Try.ntmps45
    go_wp2_with fail
    refine (HG.out _).mono ?_
    rintro e w' ⟨rfl, rfl⟩
    go_wp2_with fail
    go_ret3
    exact ⟨by rw [HE.out]; rfl, Below.refl _ _⟩
  · have hc' : ((R.2.2 : Int) != 0) = false := by simp; omega
    have HE := Lib.hid (gotT_err he)
    clear hc he
    go_enter Try.func45, Try.ntmps45
    go_wp2_with fail
    refine (HG.out _).mono ?_
    rintro e w' ⟨rfl, rfl⟩
    go_wp2_with fail
    go_ret3
    exact ⟨by rw [HE.out]; rfl, Below.refl _ _⟩
  · have hc' : ((R.2.2 : Int) != 0) = false := by simp; omega
    have HE := Lib.hid (gotT_err he)
    clear hc he
    go_enter Try.func45, Try.ntmps45
    go_wp2_with fail
    refine (HG.out _).mono ?_
    rintro e w' ⟨rfl, rfl⟩
    go_wp2_with fail
    go_ret3
    exact ⟨by rw [HE.out]; rfl, Below.refl _ _⟩
  · have hc' : ((R.2.2 : Int) != 0) = false := by simp; omega
    have HE := Lib.hid (gotT_ok he he2)
    have hsl := run_piece (P := Try.prog) 9 Try.underlying9 s R.2.1 R.1 hb
    clear hc he he2
    go_enter Try.func45, Try.ntmps45
    go_wp2_with fail
    refine (HG.out _).mono ?_
    rintro e w' ⟨rfl, rfl⟩
    go_wp2_with fail
    go_ret3
    exact ⟨by rw [HE.out]; rfl, Below.refl _ _⟩
end Go.Proofs.Ythgafhinlchghaa
