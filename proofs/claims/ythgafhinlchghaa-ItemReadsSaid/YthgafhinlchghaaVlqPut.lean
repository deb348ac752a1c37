/- Contracts of package vlq's calls that write, and of the reference's. -/
import Derived.Test.YthgafhinlchghaaVlqWrite
namespace Go.Proofs.Ythgafhinlchghaa
open Go.RowKit
open Vlq
set_option linter.unusedVariables false
def IsStrErr (l : List UInt8) (r : Int) (w : World) (e : Ending) (w' : World) : Prop := e = .returned (.tuple #[.string ⟨l.toArray⟩, .int .i64 r]) ∧ Below w.heap.size w w'
theorem zz_neg {n : Int} (h : n < 0) : ((zz n : Nat) : Int) = 2 * -(n + 1) + 1 := by unfold zz; rw [if_pos h]; omega
theorem zz_pos {n : Int} (h : 0 ≤ n) : ((zz n : Nat) : Int) = 2 * n := by unfold zz; rw [if_neg (by omega)]; omega
set_option maxRecDepth 100000 in
theorem vlqZigzag (n : Int) (h1 : -9223372036854775808 ≤ n) (h2 : n ≤ 9223372036854775807) (w : World) :
    Calls Try.prog 49 #[.int .i64 n] w fun e w' => e = .returned (.int .u64 (zz n : Nat)) ∧ w = w' := by
  rcases Int.lt_or_le n 0 with h | h
  · have hc := Lib.hid (zz_neg h)
    go_enter Try.func49, Try.ntmps49
    go_wp2
    go_ret
    exact ⟨by rw [hc.out]; rfl, rfl⟩
  · have hc := Lib.hid (zz_pos h)
    go_enter Try.func49, Try.ntmps49
    go_wp2
    go_ret
    exact ⟨by rw [hc.out]; rfl, rfl⟩
theorem mul_two (a : Int) : a * 2 = 2 * a := by omega
set_option maxRecDepth 100000 in
theorem refFolded (n : Int) (h1 : -9223372036854775808 ≤ n) (h2 : n ≤ 9223372036854775807) (w : World) :
    Calls Try.prog 37 #[.int .i64 n] w fun e w' => e = .returned (.int .u64 (zz n : Nat)) ∧ w = w' := by
  rcases Int.lt_or_le n 0 with h | h
  · have hc := Lib.hid (zz_neg h)
    go_enter Try.func37, Try.ntmps37
    go_wp2
    go_ret
    exact ⟨by rw [hc.out, ← mul_two]; rfl, rfl⟩
  · have hc := Lib.hid (zz_pos h)
    go_enter Try.func37, Try.ntmps37
    go_wp2
    go_ret
    exact ⟨by rw [hc.out, ← mul_two]; rfl, rfl⟩
theorem vlqSigned (n : Int) (h1 : -9223372036854775808 ≤ n) (h2 : n ≤ 9223372036854775807) (w : World) :
    Calls Try.prog 35 #[.int .i64 n] w (IsStr (enc (zz n)) w) := by
  go_enter Try.func35, Try.ntmps35
  go_wp2_with fail
  refine (vlqZigzag n h1 h2 _).mono ?_
  rintro e w' ⟨rfl, rfl⟩
  go_wp2_with fail
  refine (vlqEncode _ (zz_lt h1 h2) _).mono ?_
  rintro e w2 ⟨rfl, hb⟩
  go_wp2_with fail
  go_ret
  exact ⟨rfl, hb⟩
theorem vlqPut_neg (n : Int) (h : n < 0) (w : World) :
    Calls Try.prog 33 #[.int .i64 n] w (IsStrErr [] 1 w) := by
  go_enter Try.func33, Try.ntmps33
  go_wp2_with fail
  go_ret2
  exact ⟨rfl, Below.refl _ _⟩
set_option maxRecDepth 100000 in
theorem vlqPut_pos (n : Nat) (h : (n : Int) ≤ 9223372036854775807) (w : World) :
    Calls Try.prog 33 #[.int .i64 n] w (IsStrErr (enc n) 0 w) := by
  go_enter Try.func33, Try.ntmps33
  go_wp2_with fail
  refine (vlqEncode n (by omega) _).mono ?_
  rintro e w2 ⟨rfl, hb⟩
  go_wp2_with fail
  go_ret2
  exact ⟨rfl, hb⟩
/-- The bytes of a string, as a list. -/
abbrev sl (s : ByteArray) : List UInt8 := s.data.toList
theorem cat_eq (l : List UInt8) (s : ByteArray) : (⟨l.toArray⟩ : ByteArray) ++ s = ⟨(l ++ sl s).toArray⟩ := by
  apply ByteArray.ext
  rw [ByteArray.data_append]
  apply Array.ext'
  simp
theorem vlqText_long (s : ByteArray) (h : 4096 < s.size) (w : World) :
    Calls Try.prog 48 #[.string s] w (IsStrErr [] 2 w) := by
  go_enter Try.func48, Try.ntmps48
  go_wp2_with fail
  go_ret2
  exact ⟨rfl, Below.refl _ _⟩
set_option maxRecDepth 100000 in
theorem vlqText_ok (s : ByteArray) (h : s.size ≤ 4096) (w : World) :
    Calls Try.prog 48 #[.string s] w (IsStrErr (enc s.size ++ sl s) 0 w) := by
  have hl := enc_len s.size (by omega)
  have hc := Lib.hid (cat_eq (enc s.size) s)
  go_enter Try.func48, Try.ntmps48
  go_wp2_with fail
  refine (vlqEncode s.size (by omega) _).mono ?_
  rintro e w2 ⟨rfl, hb⟩
  go_wp2_with fail
  go_ret2
  exact ⟨by rw [← hc.out]; rfl, hb⟩
theorem own_one {w : World} {B : Nat} {e : TypeId} {u : Value} (h : B ≤ w.heap.size) : (w.alloc (.cells #[u] e)).ownsRow B e 1 (.slice (some ⟨w.heap.size, 0, none⟩) 1 1) 1 [u] :=
  ⟨rfl, .inr ⟨w.heap.size, 1, #[u], rfl, h, heap_alloc_new w _, Nat.le_refl _, by simp [maxLen], by simp, by simp⟩⟩
theorem one_u8 (w : World) (t : TypeId) {x : Int} {c : UInt8} (h : x = c.toNat) : Row (w.alloc (.cells #[.int .u8 x] t)) (some ⟨w.heap.size, 0, none⟩) ([c].map u8v) := by
  subst h; exact one_new _ _ _
theorem half_next {n m : Nat} (hm : 0 < m) {l : List UInt8} (h : hi m ++ l = enc n) : hi (m / 128) ++ (UInt8.ofNat (m % 128 + 128) :: l) = enc n := by
  rw [← h, hi_pos (by omega : m ≠ 0), List.append_assoc]; rfl
/-- Where the digits stand while the reference puts them ahead, one by one. -/
def Half (n m : Nat) (v : Value) (wr w : World) : Prop :=
  ∃ A c l, v = .slice A l.length c ∧ l.length ≤ c ∧ c ≤ maxLen ∧ Row wr A (l.map u8v) ∧ hi m ++ l = enc n ∧ Below w.heap.size w wr
theorem refEnd (n : Nat) (hn : n < 18446744073709551616) {l : List UInt8} {m : Nat} (h : hi m ++ l = enc n) : l.length ≤ 10 := by
  have h1 := enc_len n hn
  rw [← h, List.length_append] at h1
  omega
set_option maxRecDepth 100000 in
theorem refDigits (n : Nat) (hn : n < 18446744073709551616) (w : World) : Calls Try.prog 36 #[.int .u64 n] w (IsStr (enc n) w) := by
  obtain ⟨i0, hi0, hz0, hz1, hz2⟩ := info_parts info_u8
  go_enter Try.func36, Try.ntmps36
  go_wp2_with fail
  go_loopw [0, 3] (fun u v wr => ∃ m : Nat, m ≤ n ∧ u = .int .u64 m ∧ Half n m v wr w) (fun u _ _ => (intOf u).toNat)
  case atStart => exact ⟨n / 128, Nat.div_le_self _ _, by go_num, _, _, [UInt8.ofNat (n % 128)], rfl, by simp, by simp [maxLen], one_u8 _ _ (u8_arg0 n).symm, rfl, (Below.refl _ _).alloc (Nat.le_refl _) _⟩
  case round =>
    obtain ⟨m, hmn, rfl, A, c, l, rfl, hlc, hcm, hr, he, hb⟩ := hrel
    have hll := refEnd n hn he
    by_cases hm : 0 < m
    · have hx := u8_arg m
      have HX := Lib.hid hx.symm
      have HE := Lib.hid (half_next hm he)
      have hwr := hb.size
      clear hx he
      go_wp2_with
        (at_builtin
         refine wpApp rfl (.tmp 16) (.tmp 17) _ rfl w.heap.size 5 i0 _ 1 1 Try.underlying41 hi0 hz0 hz1 hz2 rfl (by omega) _ 1 [.int .u8 ((m : Int) % 128 + 128)] rfl (own_one hwr) A l.length c (l.map u8v) rfl (hr.below ((Below.refl _ _).alloc (Nat.le_refl _) _)) (by simp) (by intro u hu; obtain ⟨z, _, rfl⟩ := List.mem_map.1 hu; rfl) (by unfold maxLen; omega) (by omega) (by simp; omega) ?_
         intro v1 w1 hown1 hb1
         have hbw := (hb.alloc hwr (.cells #[.int .u8 ((m : Int) % 128 + 128)] 5)).trans hb1
         obtain ⟨A1, k1, rfl, g1, g2, _, hr1, _⟩ := own_form hown1 (by omega)
         clear hown1 hb1 hr hb)
      go_roundw
      case rel =>
        refine ⟨m / 128, Nat.le_trans (Nat.div_le_self _ _) hmn, by go_num, A1, k1, UInt8.ofNat (m % 128 + 128) :: l, ?_, ?_, g2, ?_, HE.out, hbw⟩
        · rw [List.length_cons, Nat.add_comm]
        · rw [List.length_cons]; omega
        · rw [List.map_cons, u8v, ← HX.out]; exact hr1
      case measure => simp [intOf]; omega
    · obtain rfl : m = 0 := by omega
      rw [hi_zero, List.nil_append] at he
      subst he
      have hcv := run_row_str (P := Try.prog) (c := c) Try.underlying41 Try.underlying5 Try.underlying9 hr
      clear hr
      go_wp2_with fail
      go_ret
      exact ⟨rfl, hb⟩
end Go.Proofs.Ythgafhinlchghaa
