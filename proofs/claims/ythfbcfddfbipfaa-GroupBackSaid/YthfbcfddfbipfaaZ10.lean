/- VlqGet, VlqGetText, ItemField, ItemRead, ItemGetIt, ItemGetAll, ItemFail, ItemGetEl, put together. -/
import Derived.Test.YthfbcfddfbipfaaZ9
import Derived.Deep.RegionWith
import Derived.Test.YthfbcfddfbipfaaZ8
/- Contracts of Get, GetSigned, GetText of package vlq, and of the reference's. -/
namespace Go.Proofs.Ythfbcfddfbipfaa
open Go.RowKit
open Vlq
set_option linter.unusedVariables false
def M1 : Nat := 9223372036854775807
def M2 : Nat := 18446744073709551615
theorem M1_eq : (9223372036854775807 : Int) = (M1 : Nat) := by simp [M1]
theorem M2_eq : (18446744073709551615 : Int) = (M2 : Nat) := by simp [M2]
theorem rd_le (M : Nat) (hM : M % 128 = 127) (l : List UInt8) (i : Nat) : (rd M l i).1 ≤ M := by
  by_cases h : (rd M l i).2.2 = 0
  · have h2 : rd M l i = ((rd M l i).1, (rd M l i).2.1, 0) := by rw [← h]
    exact (rd_once hM h2).2.2.1
  · rw [(rd_bad h).1]; omega
theorem rd_to (M : Nat) (hM : M % 128 = 127) (l : List UInt8) (i : Nat) : (rd M l i).2.1 ≤ l.length := by
  by_cases h : (rd M l i).2.2 = 0
  · have h2 : rd M l i = ((rd M l i).1, (rd M l i).2.1, 0) := by rw [← h]
    exact (rd_once hM h2).2.1
  · rw [(rd_bad h).2]; omega
theorem rd1_le (l : List UInt8) (i : Nat) : ((rd M1 l i).1 : Int) ≤ 9223372036854775807 := by
  have := rd_le M1 (by decide) l i
  have h := M1_eq
  omega
theorem rd2_le (l : List UInt8) (i : Nat) : ((rd M2 l i).1 : Int) ≤ 18446744073709551615 := by
  have := rd_le M2 (by decide) l i
  have h := M2_eq
  omega
theorem M1_lt : M1 < 18446744073709551616 := by have := M1_eq; omega
theorem M2_lt : M2 < 18446744073709551616 := by have := M2_eq; omega
theorem vlqGet_bad (s : ByteArray) (i : Int) (w : World) (hs : s.size ≤ 9223372036854775807) (h : i < 0 ∨ (s.size : Int) < i) :
    Calls Try.prog 87 #[.string s, .int .i64 i] w (Got .i64 (0, 0, 1) w) := by
  go_enter Try.func87, Try.ntmps87
  go_wp2_with fail
  refine (vlqRead_bad s i _ _ hs h).mono ?_
  rintro e w' ⟨rfl, rfl⟩
  go_wp2_with fail
  go_ret3
  exact ⟨rfl, rfl⟩
set_option maxRecDepth 100000 in
theorem vlqGet_ok (s : ByteArray) (i : Nat) (w : World) (hs : s.size ≤ 9223372036854775807) (h : i ≤ s.size) :
    Calls Try.prog 87 #[.string s, .int .i64 i] w (Got .i64 (rd M1 (sl s) i) w) := by
  have hle := rd1_le (sl s) i
  go_enter Try.func87, Try.ntmps87
  go_wp2_with fail
  refine (vlqRead_ok s i _ M1 M1_eq M1_lt _ hs h).mono ?_
  rintro e w' ⟨rfl, rfl⟩
  go_wp2_with fail
  go_ret3
  exact ⟨rfl, rfl⟩
theorem refGet_bad (s : ByteArray) (i : Int) (w : World) (hs : s.size ≤ 9223372036854775807) (h : i < 0 ∨ (s.size : Int) < i) :
    Calls Try.prog 91 #[.string s, .int .i64 i] w (Got .i64 (0, 0, 1) w) := by
  go_enter Try.func91, Try.ntmps91
  go_wp2_with fail
  refine (refRead_bad s i _ _ hs h).mono ?_
  rintro e w' ⟨rfl, rfl⟩
  go_wp2_with fail
  go_ret3
  exact ⟨rfl, rfl⟩
set_option maxRecDepth 100000 in
theorem refGet_ok (s : ByteArray) (i : Nat) (w : World) (hs : s.size ≤ 9223372036854775807) (h : i ≤ s.size) :
    Calls Try.prog 91 #[.string s, .int .i64 i] w (Got .i64 (rd M1 (sl s) i) w) := by
  have hle := rd1_le (sl s) i
  go_enter Try.func91, Try.ntmps91
  go_wp2_with fail
  refine (refRead_ok s i _ M1 M1_eq (by decide) M1_lt _ hs h).mono ?_
  rintro e w' ⟨rfl, rfl⟩
  go_wp2_with fail
  go_ret3
  exact ⟨rfl, rfl⟩
theorem un_odd {n : Nat} (h : n % 2 = 1) : un n = -((n : Int) / 2) - 1 := by unfold un; rw [if_neg (by omega)]; omega
theorem un_even {n : Nat} (h : n % 2 = 0) : un n = (n : Int) / 2 := by unfold un; rw [if_pos h]; omega
set_option maxRecDepth 100000 in
theorem vlqUnzigzag (n : Nat) (h : (n : Int) ≤ 18446744073709551615) (w : World) :
    Calls Try.prog 116 #[.int .u64 n] w fun e w' => e = .returned (.int .i64 (un n)) ∧ w = w' := by
  by_cases hp : n % 2 = 1
  · have hc := Lib.hid (un_odd hp)
    have hm : ((n : Int) % 2 == 1) = true := by simp; omega
    clear hp
    go_enter Try.func116, Try.ntmps116
    go_wp2_with fail
    go_ret
    exact ⟨by rw [hc.out]; rfl, rfl⟩
  · have hc := Lib.hid (un_even (n := n) (by omega))
    have hm : ((n : Int) % 2 == 1) = false := by simp; omega
    clear hp
    go_enter Try.func116, Try.ntmps116
    go_wp2_with fail
    go_ret
    exact ⟨by rw [hc.out]; rfl, rfl⟩
set_option maxRecDepth 100000 in
theorem refUnfolded (n : Nat) (h : (n : Int) ≤ 18446744073709551615) (w : World) :
    Calls Try.prog 120 #[.int .u64 n] w fun e w' => e = .returned (.int .i64 (un n)) ∧ w = w' := by
  by_cases hp : n % 2 = 1
  · have hc := Lib.hid (un_odd hp)
    have hm : ((n : Int) % 2 == 0) = false := by simp; omega
    clear hp
    go_enter Try.func120, Try.ntmps120
    go_wp2_with fail
    go_ret
    exact ⟨by rw [hc.out]; rfl, rfl⟩
  · have hc := Lib.hid (un_even (n := n) (by omega))
    have hm : ((n : Int) % 2 == 0) = true := by simp; omega
    clear hp
    go_enter Try.func120, Try.ntmps120
    go_wp2_with fail
    go_ret
    exact ⟨by rw [hc.out]; rfl, rfl⟩
/-- A signed number, the place behind it and an error. -/
def GotS (R : Nat × Nat × Nat) (w : World) (e : Ending) (w' : World) : Prop :=
  e = .returned (.tuple #[.int .i64 (un R.1), .int .i64 (R.2.1 : Int), .int .i64 (R.2.2 : Int)]) ∧ w = w'
theorem vlqGetSigned_bad (s : ByteArray) (i : Int) (w : World) (hs : s.size ≤ 9223372036854775807) (h : i < 0 ∨ (s.size : Int) < i) :
    Calls Try.prog 88 #[.string s, .int .i64 i] w (GotS (0, 0, 1) w) := by
  go_enter Try.func88, Try.ntmps88
  go_wp2_with fail
  refine (vlqRead_bad s i _ _ hs h).mono ?_
  rintro e w' ⟨rfl, rfl⟩
  go_wp2_with fail
  refine (vlqUnzigzag 0 (by omega) _).mono ?_
  rintro e w' ⟨rfl, rfl⟩
  go_wp2_with fail
  go_ret3
  exact ⟨rfl, rfl⟩
theorem vlqGetSigned_ok (s : ByteArray) (i : Nat) (w : World) (hs : s.size ≤ 9223372036854775807) (h : i ≤ s.size) :
    Calls Try.prog 88 #[.string s, .int .i64 i] w (GotS (rd M2 (sl s) i) w) := by
  go_enter Try.func88, Try.ntmps88
  go_wp2_with fail
  refine (vlqRead_ok s i _ M2 M2_eq M2_lt _ hs h).mono ?_
  rintro e w' ⟨rfl, rfl⟩
  go_wp2_with fail
  refine (vlqUnzigzag _ (rd2_le _ _) _).mono ?_
  rintro e w' ⟨rfl, rfl⟩
  go_wp2_with fail
  go_ret3
  exact ⟨rfl, rfl⟩
theorem refGetSigned_bad (s : ByteArray) (i : Int) (w : World) (hs : s.size ≤ 9223372036854775807) (h : i < 0 ∨ (s.size : Int) < i) :
    Calls Try.prog 93 #[.string s, .int .i64 i] w (GotS (0, 0, 1) w) := by
  go_enter Try.func93, Try.ntmps93
  go_wp2_with fail
  refine (refRead_bad s i _ _ hs h).mono ?_
  rintro e w' ⟨rfl, rfl⟩
  go_wp2_with fail
  go_ret3
  exact ⟨rfl, rfl⟩
theorem gotS_bad {R : Nat × Nat × Nat} (h : R.1 = 0 ∧ R.2.1 = 0) : Ending.returned (.tuple #[.int .i64 (un R.1), .int .i64 (R.2.1 : Int), .int .i64 (R.2.2 : Int)]) = .returned (.tuple #[.int .i64 0, .int .i64 0, .int .i64 (R.2.2 : Int)]) := by
  rw [h.1, h.2]; rfl
theorem refGetSigned_ok (s : ByteArray) (i : Nat) (w : World) (hs : s.size ≤ 9223372036854775807) (h : i ≤ s.size) :
    Calls Try.prog 93 #[.string s, .int .i64 i] w (GotS (rd M2 (sl s) i) w) := by
  have hbd := rd2_le (sl s) i
  by_cases he : (rd M2 (sl s) i).2.2 = 0
  · have he' : (((rd M2 (sl s) i).2.2 : Int) == 0) = true := by simp; omega
    have he2 : (((rd M2 (sl s) i).2.2 : Int) != 0) = false := by simp; omega
    have HE := Lib.hid he
    clear he
    go_enter Try.func93, Try.ntmps93
    go_wp2_with fail
    refine (refRead_ok s i _ M2 M2_eq (by decide) M2_lt _ hs h).mono ?_
    rintro e w' ⟨rfl, rfl⟩
    go_wp2_with fail
    refine (refUnfolded _ hbd _).mono ?_
    rintro e w' ⟨rfl, rfl⟩
    go_wp2_with fail
    go_ret3
    exact ⟨rfl, rfl⟩
  · have he' : (((rd M2 (sl s) i).2.2 : Int) == 0) = false := by simp; omega
    have he2 : (((rd M2 (sl s) i).2.2 : Int) != 0) = true := by simp; omega
    have HB := Lib.hid (gotS_bad (rd_bad he))
    clear he
    go_enter Try.func93, Try.ntmps93
    go_wp2_with fail
    refine (refRead_ok s i _ M2 M2_eq (by decide) M2_lt _ hs h).mono ?_
    rintro e w' ⟨rfl, rfl⟩
    go_wp2_with fail
    go_ret3
    exact ⟨by rw [HB.out]; rfl, rfl⟩
end Go.Proofs.Ythfbcfddfbipfaa
/- Contracts of GetText of package vlq, and of the reference's. -/
namespace Go.Proofs.Ythfbcfddfbipfaa
open Go.RowKit
open Vlq
set_option linter.unusedVariables false
/-- The text that is encoded at a place, the place behind it and an error. -/
def rt (l : List UInt8) (i : Nat) : List UInt8 × Nat × Nat :=
  let R := rd M1 l i
  if R.2.2 ≠ 0 then ([], 0, R.2.2) else if 4096 < R.1 then ([], 0, 2) else if l.length < R.2.1 + R.1 then ([], 0, 20) else ((l.drop R.2.1).take R.1, R.2.1 + R.1, 0)
def GotT (R : List UInt8 × Nat × Nat) (w : World) (e : Ending) (w' : World) : Prop :=
  e = .returned (.tuple #[.string ⟨R.1.toArray⟩, .int .i64 (R.2.1 : Int), .int .i64 (R.2.2 : Int)]) ∧ Below w.heap.size w w'
theorem cut_eq (s : ByteArray) (a b : Nat) : s.extract a b = ⟨(((sl s).drop a).take (b - a)).toArray⟩ := by
  apply ByteArray.ext
  rw [ByteArray.data_extract]
  apply Array.ext'
  rw [Array.toList_extract]
theorem sl_len (s : ByteArray) : (sl s).length = s.size := by simp [sl]
/-- The four ways of a text. -/
theorem rt_ways (s : ByteArray) (i : Nat) (R : Nat × Nat × Nat) (hR : R = rd M1 (sl s) i) :
    (R.2.2 ≠ 0 ∧ rt (sl s) i = ([], 0, R.2.2)) ∨ (R.2.2 = 0 ∧ R.2.1 ≤ s.size ∧
      ((4096 < R.1 ∧ rt (sl s) i = ([], 0, 2)) ∨ (R.1 ≤ 4096 ∧ ((s.size < R.2.1 + R.1 ∧ rt (sl s) i = ([], 0, 20)) ∨ (R.2.1 + R.1 ≤ s.size ∧ (⟨(rt (sl s) i).1.toArray⟩ : ByteArray) = s.extract R.2.1 (R.2.1 + R.1) ∧ (rt (sl s) i).2 = (R.2.1 + R.1, 0)))))) := by
  subst hR
  have ht := rd_to M1 (by decide) (sl s) i
  rw [sl_len] at ht
  by_cases h : (rd M1 (sl s) i).2.2 = 0
  · right
    refine ⟨h, ht, ?_⟩
    by_cases h2 : 4096 < (rd M1 (sl s) i).1
    · left
      refine ⟨h2, ?_⟩
      unfold rt
      simp only [h, ne_eq, not_true_eq_false, if_false, h2, if_true]
    · right
      refine ⟨by omega, ?_⟩
      by_cases h3 : s.size < (rd M1 (sl s) i).2.1 + (rd M1 (sl s) i).1
      · left
        refine ⟨h3, ?_⟩
        unfold rt
        simp only [h, ne_eq, not_true_eq_false, if_false, h2, sl_len, h3, if_true]
      · right
        have e : rt (sl s) i = (((sl s).drop (rd M1 (sl s) i).2.1).take (rd M1 (sl s) i).1, (rd M1 (sl s) i).2.1 + (rd M1 (sl s) i).1, 0) := by
          unfold rt
          simp only [h, ne_eq, not_true_eq_false, if_false, h2, sl_len, h3]
        refine ⟨by omega, ?_, by rw [e]⟩
        rw [e, cut_eq, Nat.add_sub_cancel_left]
  · left
    refine ⟨h, ?_⟩
    unfold rt
    simp only [ne_eq, h, not_false_eq_true, if_true]
theorem gotT_err {R : List UInt8 × Nat × Nat} {c : Nat} (h : R = ([], 0, c)) : Ending.returned (.tuple #[.string ⟨R.1.toArray⟩, .int .i64 (R.2.1 : Int), .int .i64 (R.2.2 : Int)]) = .returned (.tuple #[.string ⟨#[]⟩, .int .i64 0, .int .i64 (c : Int)]) := by
  rw [h]; rfl
theorem gotT_ok {R : List UInt8 × Nat × Nat} {s : ByteArray} {a b : Nat} (h : (⟨R.1.toArray⟩ : ByteArray) = s.extract a (a + b)) (h2 : R.2 = (a + b, 0)) :
    Ending.returned (.tuple #[.string ⟨R.1.toArray⟩, .int .i64 (R.2.1 : Int), .int .i64 (R.2.2 : Int)]) = .returned (.tuple #[.string (s.extract a (a + b)), .int .i64 ((a : Int) + (b : Int)), .int .i64 0]) := by
  rw [h, h2]; simp
theorem run_piece {P : Program} (t : TypeId) (ht : P.underlying t = some .string) (s : ByteArray) (a b : Nat) (h : a + b ≤ s.size) (w : World) :
    (Instr.slice t (.string s) (some (.int .i64 (a : Int))) (some (.int .i64 ((a : Int) + (b : Int)))) none).run P w = .ok (.string (s.extract a (a + b))) w := by
  rw [run_slice_string (P := P) w t s .i64 .i64 (a : Int) ((a : Int) + (b : Int)) ht (by omega) (by omega) (by omega)]
  rw [show ((a : Int) + (b : Int)).toNat = a + b by omega, Int.toNat_natCast]
theorem vlqGetText_bad (s : ByteArray) (i : Int) (w : World) (hs : s.size ≤ 9223372036854775807) (h : i < 0 ∨ (s.size : Int) < i) :
    Calls Try.prog 90 #[.string s, .int .i64 i] w (GotT ([], 0, 1) w) := by
  go_enter Try.func90, Try.ntmps90
  go_wp2_with fail
  refine (vlqGet_bad s i _ hs h).mono ?_
  rintro e w' ⟨rfl, rfl⟩
  go_wp2_with fail
  go_ret3
  exact ⟨rfl, Below.refl _ _⟩
set_option maxRecDepth 100000 in
theorem vlqGetText_ok (s : ByteArray) (i : Nat) (w : World) (hs : s.size ≤ 9223372036854775807) (h : i ≤ s.size) :
    Calls Try.prog 90 #[.string s, .int .i64 i] w (GotT (rt (sl s) i) w) := by
  have hle := rd1_le (sl s) i
  have hg := fun w => vlqGet_ok s i w hs h
  obtain ⟨R, hR⟩ : ∃ R, R = rd M1 (sl s) i := ⟨_, rfl⟩
  have hw := rt_ways s i R hR
  rw [← hR] at hle hg
  have HG := Lib.hid hg
  clear hR hg
  rcases hw with ⟨hc, he⟩ | ⟨hc, ht, ⟨ha, he⟩ | ⟨ha, ⟨hb, he⟩ | ⟨hb, he, he2⟩⟩⟩
  · have hc' : ((R.2.2 : Int) != 0) = true := by simp; omega
    have HE := Lib.hid (gotT_err he)
    clear hc he
    go_enter Try.func90, Try.ntmps90
    go_wp2_with fail
    refine (HG.out _).mono ?_
    rintro e w' ⟨rfl, rfl⟩
    go_wp2_with fail
    go_ret3
    exact ⟨by rw [HE.out]; rfl, Below.refl _ _⟩
  · have hc' : ((R.2.2 : Int) != 0) = false := by simp; omega
    have HE := Lib.hid (gotT_err he)
    clear hc he
    go_enter Try.func90, Try.ntmps90
    go_wp2_with fail
    refine (HG.out _).mono ?_
    rintro e w' ⟨rfl, rfl⟩
    go_wp2_with fail
    go_ret3
    exact ⟨by rw [HE.out]; rfl, Below.refl _ _⟩
  · have hc' : ((R.2.2 : Int) != 0) = false := by simp; omega
    have HE := Lib.hid (gotT_err he)
    clear hc he
    go_enter Try.func90, Try.ntmps90
    go_wp2_with fail
    refine (HG.out _).mono ?_
    rintro e w' ⟨rfl, rfl⟩
    go_wp2_with fail
    go_ret3
    exact ⟨by rw [HE.out]; rfl, Below.refl _ _⟩
  · have hc' : ((R.2.2 : Int) != 0) = false := by simp; omega
    have HE := Lib.hid (gotT_ok he he2)
    have hsl := run_piece (P := Try.prog) 9 Try.underlying9 s R.2.1 R.1 hb
    clear hc he he2
    go_enter Try.func90, Try.ntmps90
    go_wp2_with fail
    refine (HG.out _).mono ?_
    rintro e w' ⟨rfl, rfl⟩
    go_wp2_with fail
    refine (strClone (s.extract R.2.1 (R.2.1 + R.1)) _ (by rw [ByteArray.size_extract]; omega)).mono ?_
    rintro e w2 ⟨rfl, hb2⟩
    go_wp2_with fail
    go_ret3
    exact ⟨by rw [HE.out]; rfl, hb2⟩
theorem refGetText_bad (s : ByteArray) (i : Int) (w : World) (hs : s.size ≤ 9223372036854775807) (h : i < 0 ∨ (s.size : Int) < i) :
    Calls Try.prog 92 #[.string s, .int .i64 i] w (GotT ([], 0, 1) w) := by
  go_enter Try.func92, Try.ntmps92
  go_wp2_with fail
  refine (refGet_bad s i _ hs h).mono ?_
  rintro e w' ⟨rfl, rfl⟩
  go_wp2_with fail
  go_ret3
  exact ⟨rfl, Below.refl _ _⟩
set_option maxRecDepth 100000 in
theorem refGetText_ok (s : ByteArray) (i : Nat) (w : World) (hs : s.size ≤ 140737488355328) (h : i ≤ s.size) :
    Calls Try.prog 92 #[.string s, .int .i64 i] w (GotT (rt (sl s) i) w) := by
  have hle := rd1_le (sl s) i
  have hg := fun w => refGet_ok s i w (by omega) h
  obtain ⟨R, hR⟩ : ∃ R, R = rd M1 (sl s) i := ⟨_, rfl⟩
  have hw := rt_ways s i R hR
  rw [← hR] at hle hg
  have HG := Lib.hid hg
  clear hR hg
  rcases hw with ⟨hc, he⟩ | ⟨hc, ht, ⟨ha, he⟩ | ⟨ha, ⟨hb, he⟩ | ⟨hb, he, he2⟩⟩⟩
  · have hc' : ((R.2.2 : Int) != 0) = true := by simp; omega
    have HE := Lib.hid (gotT_err he)
    clear hc he
    go_enter Try.func92, Try.ntmps92
    go_wp2_with fail
    refine (HG.out _).mono ?_
    rintro e w' ⟨rfl, rfl⟩
    go_wp2_with fail
    go_ret3
    exact ⟨by rw [HE.out]; rfl, Below.refl _ _⟩
  · have hc' : ((R.2.2 : Int) != 0) = false := by simp; omega
    have HE := Lib.hid (gotT_err he)
    clear hc he
    go_enter Try.func92, Try.ntmps92
    go_wp2_with fail
    refine (HG.out _).mono ?_
    rintro e w' ⟨rfl, rfl⟩
    go_wp2_with fail
    go_ret3
    exact ⟨by rw [HE.out]; rfl, Below.refl _ _⟩
  · have hc' : ((R.2.2 : Int) != 0) = false := by simp; omega
    have HE := Lib.hid (gotT_err he)
    clear hc he
    go_enter Try.func92, Try.ntmps92
    go_wp2_with fail
    refine (HG.out _).mono ?_
    rintro e w' ⟨rfl, rfl⟩
    go_wp2_with fail
    go_ret3
    exact ⟨by rw [HE.out]; rfl, Below.refl _ _⟩
  · have hc' : ((R.2.2 : Int) != 0) = false := by simp; omega
    have HE := Lib.hid (gotT_ok he he2)
    have hsl := run_piece (P := Try.prog) 9 Try.underlying9 s R.2.1 R.1 hb
    clear hc he he2
    go_enter Try.func92, Try.ntmps92
    go_wp2_with fail
    refine (HG.out _).mono ?_
    rintro e w' ⟨rfl, rfl⟩
    go_wp2_with fail
    go_ret3
    exact ⟨by rw [HE.out]; rfl, Below.refl _ _⟩
end Go.Proofs.Ythfbcfddfbipfaa
/- Contracts of the reader: a field is read, the first error is kept. -/
namespace Go.Proofs.Ythfbcfddfbipfaa
open Go.RowKit
open Itm Vlq
set_option linter.unusedVariables false
set_option maxRecDepth 8000
/-- Block g holds a reader of s, at a place, with an error. -/
def RdAt (T : TypeId) (g : Nat) (s : ByteArray) (i c : Int) (w : World) : Prop := w.heap[g]? = some (.cells #[.string s, .int .i64 i, .int .i64 c] T (0, 0))
/-- All old blocks but one stay. -/
structure But (g : Nat) (w w' : World) : Prop where
  os : w'.os = w.os
  tape : w'.tape = w.tape
  output : w'.output = w.output
  size : w.heap.size ≤ w'.heap.size
  block : ∀ k, k < w.heap.size → k ≠ g → w'.heap[k]? = w.heap[k]?
namespace But
theorem refl (g : Nat) (w : World) : But g w w := ⟨rfl, rfl, rfl, Nat.le_refl _, fun _ _ _ => rfl⟩
theorem trans {g : Nat} {a b c : World} (h : But g a b) (k : But g b c) : But g a c :=
  ⟨k.os.trans h.os, k.tape.trans h.tape, k.output.trans h.output, Nat.le_trans h.size k.size, fun i hi hg => (k.block i (Nat.lt_of_lt_of_le hi h.size) hg).trans (h.block i hi hg)⟩
theorem of_below {g : Nat} {a b : World} (h : Below a.heap.size a b) : But g a b := ⟨h.os, h.tape, h.output, h.size, fun k hk _ => h.block k hk⟩
theorem drew {g : Nat} {a b : World} (h : But g a b) : But g a b.drew := ⟨h.os, h.tape, h.output, h.size, h.block⟩
theorem drew_left {g : Nat} {a b : World} (h : But g a.drew b) : But g a b := ⟨h.os, h.tape, h.output, h.size, h.block⟩
theorem setCell {g : Nat} {a b : World} (h : But g a b) (o : Nat) (u : Value) : But g a (b.setCell ⟨g, o, none⟩ u) :=
  ⟨h.os, h.tape, h.output, by simpa using h.size, fun k hk hg => (Below.heap_setCell b ⟨g, o, none⟩ u k hg).trans (h.block k hk hg)⟩
theorem below {g B : Nat} {W a b : World} (h : But g a b) (h0 : Below B W a) (hB : B ≤ g) (hs : B ≤ a.heap.size) : Below B W b :=
  ⟨h.os.trans h0.os, h.tape.trans h0.tape, h.output.trans h0.output, Nat.le_trans h0.size h.size, fun k hk => (h.block k (by omega) (by omega)).trans (h0.block k hk)⟩
end But
namespace RdAt
variable {T : TypeId} {g : Nat} {s : ByteArray} {i c : Int} {w w' : World}
theorem lt (h : RdAt T g s i c w) : g < w.heap.size := lt_of_block h
theorem c0 (h : RdAt T g s i c w) : w.cell? ⟨g, 0, none⟩ = some (.string s) := by unfold RdAt at h; simp [World.cell?, h]
theorem c1 (h : RdAt T g s i c w) : w.cell? ⟨g, 1, none⟩ = some (.int .i64 i) := by unfold RdAt at h; simp [World.cell?, h]
theorem c2 (h : RdAt T g s i c w) : w.cell? ⟨g, 2, none⟩ = some (.int .i64 c) := by unfold RdAt at h; simp [World.cell?, h]
theorem free (h : RdAt T g s i c w) (o : Nat) : w.frozen? ⟨g, o, none⟩ = false := by
  unfold RdAt at h; simp [World.frozen?, h]
theorem set1 (h : RdAt T g s i c w) (x : Int) : RdAt T g s x c (w.setCell ⟨g, 1, none⟩ (.int .i64 x)) := by
  unfold RdAt at h ⊢
  rw [heap_setCell_same w g 1 _ T _ h]; rfl
theorem set2 (h : RdAt T g s i c w) (x : Int) : RdAt T g s i x (w.setCell ⟨g, 2, none⟩ (.int .i64 x)) := by
  unfold RdAt at h ⊢
  rw [heap_setCell_same w g 2 _ T _ h]; rfl
theorem below (h : RdAt T g s i c w) (hb : Below w.heap.size w w') : RdAt T g s i c w' := (hb.block g h.lt).trans h
end RdAt
/-- A value was read by way of the reader in block g. -/
def Took (T : TypeId) (g : Nat) (s : ByteArray) (v : Value) (i c : Int) (w : World) (e : Ending) (w' : World) : Prop := e = .returned v ∧ RdAt T g s i c w' ∧ But g w w'
theorem after_two {T : TypeId} {g : Nat} {s : ByteArray} {i c x y : Int} {w w5 : World} (h : RdAt T g s i c w) (hb : Below w.heap.size w.drew w5) :
    RdAt T g s x y ((w5.setCell ⟨g, 1, none⟩ (.int .i64 x)).setCell ⟨g, 2, none⟩ (.int .i64 y)) ∧ But g w ((w5.setCell ⟨g, 1, none⟩ (.int .i64 x)).setCell ⟨g, 2, none⟩ (.int .i64 y)) := by
  have hb' : Below w.heap.size w w5 := ⟨hb.os, hb.tape, hb.output, hb.size, hb.block⟩
  exact ⟨((h.below hb').set1 x).set2 y, ((But.of_below hb').setCell 1 _).setCell 2 _⟩
end Go.Proofs.Ythfbcfddfbipfaa
/- What the reader reads, as plain data; its methods' contracts. -/
namespace Go.Proofs.Ythfbcfddfbipfaa
open Go.RowKit
open Itm Vlq
set_option linter.unusedVariables false
set_option maxRecDepth 8000
/-- What is read of a number, a signed one, a text: nothing behind an error. -/
def numS (s : ByteArray) (p : Nat × Nat) : Nat × Nat × Nat := if p.2 = 0 then rd M1 (sl s) p.1 else (0, p.1, p.2)
def sgnS (s : ByteArray) (p : Nat × Nat) : Nat × Nat × Nat := if p.2 = 0 then rd M2 (sl s) p.1 else (0, p.1, p.2)
def txtS (s : ByteArray) (p : Nat × Nat) : List UInt8 × Nat × Nat := if p.2 = 0 then rt (sl s) p.1 else ([], p.1, p.2)
abbrev numV (R : Nat × Nat × Nat) : Value := .int .i64 (R.1 : Int)
abbrev sgnV (R : Nat × Nat × Nat) : Value := .int .i64 (un R.1)
abbrev txtV (R : List UInt8 × Nat × Nat) : Value := .string ⟨R.1.toArray⟩
theorem numS_to (s : ByteArray) (p : Nat × Nat) (h : p.1 ≤ s.size) : (numS s p).2.1 ≤ s.size := by
  unfold numS
  split
  · have := rd_to M1 (by decide) (sl s) p.1; rwa [sl_len] at this
  · exact h
theorem sgnS_to (s : ByteArray) (p : Nat × Nat) (h : p.1 ≤ s.size) : (sgnS s p).2.1 ≤ s.size := by
  unfold sgnS
  split
  · have := rd_to M2 (by decide) (sl s) p.1; rwa [sl_len] at this
  · exact h
theorem txtS_to (s : ByteArray) (p : Nat × Nat) (h : p.1 ≤ s.size) : (txtS s p).2.1 ≤ s.size := by
  unfold txtS
  split
  · rcases rt_ways s p.1 _ rfl with ⟨_, e⟩ | ⟨_, _, ⟨_, e⟩ | ⟨_, ⟨_, e⟩ | ⟨hb, _, e⟩⟩⟩
    · rw [e]; exact Nat.zero_le _
    · rw [e]; exact Nat.zero_le _
    · rw [e]; exact Nat.zero_le _
    · rw [e]; exact hb
  · exact h
/-- What bytes are read as, before it is asked whether it may be. -/
def getP (s : ByteArray) : It × Nat × Nat :=
  let K := numS s (0, 0)
  if K.1 = 1 then
    let A := txtS s K.2
    let B := numS s A.2
    let C := sgnS s B.2
    ({ bare 1 with ek := ⟨A.1.toArray⟩, ea := B.1, ev := un C.1 }, C.2)
  else if K.1 = 2 then
    let A := numS s K.2
    ({ bare 2 with m := A.1 }, A.2)
  else if K.1 = 3 then (bare 3, K.2)
  else if K.1 = 4 then
    let A := numS s K.2
    ({ bare 4 with n := A.1 }, A.2)
  else if K.1 = 5 then
    let A := txtS s K.2
    let B := numS s A.2
    let C := numS s B.2
    let D := numS s C.2
    let E := sgnS s D.2
    ({ bare 5 with rk := ⟨A.1.toArray⟩, lo := B.1, hi := C.1, rn := D.1, rv := un E.1 }, E.2)
  else (bare K.1, K.2.1, if K.2.2 = 0 then 40 else K.2.2)
/-- What bytes are read as, and the error. -/
def getE (s : ByteArray) : It × Nat :=
  let P := getP s
  if P.2.2 ≠ 0 then (bare 0, P.2.2) else if P.2.1 < s.size then (bare 0, 21) else if right P.1 = true then (P.1, 0) else (bare 0, 1)
end Go.Proofs.Ythfbcfddfbipfaa
/- Contracts of what reads a whole item, of package item. -/
namespace Go.Proofs.Ythfbcfddfbipfaa
open Go.RowKit
open Itm Vlq
set_option linter.unusedVariables false
set_option maxRecDepth 8000
theorem Lies.but {b : Nat} {C : Array Value} {T : TypeId} {g : Nat} {w w' : World} (h : Lies b C T w) (hg : b ≠ g) (hb : But g w w') : Lies b C T w' := (hb.block b (lt_of_block h) hg).trans h
theorem But.setNew {g b : Nat} {u w : World} (h : But g u w) (hb : u.heap.size ≤ b) (o : Nat) (v : Value) : But g u (w.setCell ⟨b, o, none⟩ v) :=
  ⟨h.os, h.tape, h.output, by simpa using h.size, fun k hk hg => (Below.heap_setCell w ⟨b, o, none⟩ v k (by simp only; omega)).trans (h.block k hk hg)⟩
end Go.Proofs.Ythfbcfddfbipfaa
/- Contract of what reads a whole item. -/
namespace Go.Proofs.Ythfbcfddfbipfaa
open Go.RowKit
open Itm Vlq
set_option linter.unusedVariables false
set_option maxRecDepth 8000
theorem But.al {g : Nat} {a b : World} {o : Obj} (h : But g a b) : But g a (b.alloc o) := h.trans (But.of_below (below_al (Below.refl _ _)))
theorem Lies.set11 {b : Nat} {T : TypeId} {w : World} {u0 u1 u2 u3 u4 u5 u6 u7 u8 u9 u10 : Value} (h : Lies b #[u0, u1, u2, u3, u4, u5, u6, u7, u8, u9, u10] T w) (v0 v1 v2 v3 v4 v5 v6 v7 v8 v9 v10 : Value) : Lies b #[v0, v1, v2, v3, v4, v5, v6, v7, v8, v9, v10] T (((((((((((w.setCell ⟨b, 0, none⟩ v0).setCell ⟨b, 1, none⟩ v1).setCell ⟨b, 2, none⟩ v2).setCell ⟨b, 3, none⟩ v3).setCell ⟨b, 4, none⟩ v4).setCell ⟨b, 5, none⟩ v5).setCell ⟨b, 6, none⟩ v6).setCell ⟨b, 7, none⟩ v7).setCell ⟨b, 8, none⟩ v8).setCell ⟨b, 9, none⟩ v9).setCell ⟨b, 10, none⟩ v10) := by
  have h2 := (((((((((((h.set 0 v0).set 1 v1).set 2 v2).set 3 v3).set 4 v4).set 5 v5).set 6 v6).set 7 v7).set 8 v8).set 9 v9).set 10 v10)
  simpa using h2
theorem But.set11 {g b : Nat} {u w : World} (h : But g u w) (hb : u.heap.size ≤ b) (v0 v1 v2 v3 v4 v5 v6 v7 v8 v9 v10 : Value) : But g u (((((((((((w.setCell ⟨b, 0, none⟩ v0).setCell ⟨b, 1, none⟩ v1).setCell ⟨b, 2, none⟩ v2).setCell ⟨b, 3, none⟩ v3).setCell ⟨b, 4, none⟩ v4).setCell ⟨b, 5, none⟩ v5).setCell ⟨b, 6, none⟩ v6).setCell ⟨b, 7, none⟩ v7).setCell ⟨b, 8, none⟩ v8).setCell ⟨b, 9, none⟩ v9).setCell ⟨b, 10, none⟩ v10) := (((((((((((h.setNew hb 0 v0).setNew hb 1 v1).setNew hb 2 v2).setNew hb 3 v3).setNew hb 4 v4).setNew hb 5 v5).setNew hb 6 v6).setNew hb 7 v7).setNew hb 8 v8).setNew hb 9 v9).setNew hb 10 v10)
end Go.Proofs.Ythfbcfddfbipfaa
/- Contract of what notes an error. -/
namespace Go.Proofs.Ythfbcfddfbipfaa
open Go.RowKit
open Itm Vlq
set_option linter.unusedVariables false
set_option maxRecDepth 8000
/-- A kind that there is not, if nothing else was wrong. -/
def failP (p : Nat × Nat) : Nat × Nat := (p.1, if p.2 = 0 then 40 else p.2)
end Go.Proofs.Ythfbcfddfbipfaa
/- Contract of Get. -/
namespace Go.Proofs.Ythfbcfddfbipfaa
open Go.RowKit
open Itm Vlq
set_option linter.unusedVariables false
set_option maxRecDepth 8000
/-- What the reader reads. -/
def getM (s : ByteArray) : It × Nat × Nat :=
  let K := numS s (0, 0)
  if K.1 = 1 then
    let A := txtS s K.2
    let B := numS s A.2
    let C := sgnS s B.2
    ({ bare 1 with ek := ⟨A.1.toArray⟩, ea := B.1, ev := un C.1 }, C.2)
  else if K.1 = 2 then
    let A := numS s K.2
    ({ bare 2 with m := A.1 }, A.2)
  else if K.1 = 3 then (bare 3, K.2)
  else if K.1 = 4 then
    let A := numS s K.2
    ({ bare 4 with n := min (A.1 : Int) 1073741825 }, A.2)
  else if K.1 = 5 then
    let A := txtS s K.2
    let B := numS s A.2
    let C := numS s B.2
    let D := numS s C.2
    let E := sgnS s D.2
    ({ bare 5 with rk := ⟨A.1.toArray⟩, lo := B.1, hi := C.1, rn := D.1, rv := un E.1 }, E.2)
  else (bare K.1, failP K.2)
end Go.Proofs.Ythfbcfddfbipfaa
