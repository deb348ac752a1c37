/- Contracts of what package vlq writes: a digit is added, a number's digits are written, the bytes are a string. -/
import Derived.Test.YthgafhinlchghaaVlqMath
import Derived.Test.YthgafhinlchghaaMem
import Derived.OneCell
import Derived.Outline
import Derived.ShutString
import Derived.Laws.IdiomStrings
import Derived.Lib.BufferRead
namespace Go.Proofs.Ythgafhinlchghaa
open Go.RowKit
open Vlq
set_option linter.unusedVariables false
theorem info_u8 : (Try.prog.info? 5).map (fun i => (i.zero, i.size, i.bytes)) = some (some (.int .u8 0), 1, 1) := by kernel_rfl
abbrev u8v (c : UInt8) : Value := .int .u8 (c.toNat : Int)
/-- Block g holds a struct with one slice of bytes, the call's own, which reads as l. -/
def Dig (w : World) (g : Nat) (l : List UInt8) : Prop :=
  ∃ A c, w.heap[g]? = some (.cells #[.slice A l.length c] 76 (0, 0)) ∧ w.ownsRow (g + 1) 5 1 (.slice A l.length c) l.length (l.map u8v)
def Added (g : Nat) (l : List UInt8) (w : World) (e : Ending) (w' : World) : Prop := e = .returned (.tuple #[]) ∧ Dig w' g l ∧ Below g w w'

theorem one_new (w : World) (u : Value) (t : TypeId) : Row (w.alloc (.cells #[u] t)) (some ⟨w.heap.size, 0, none⟩) [u] := by
  refine .inr ⟨_, _, rfl, fun j v hv => ?_⟩
  match j, hv with
  | 0, hv => simp at hv; subst hv; exact cell_of_one (heap_alloc_new w _)
theorem own_above {w : World} {g size n : Nat} {e : TypeId} {v : Value} {xs : List Value} (h : w.ownsRow (g + 1) e size v n xs) : v.ownBlock ≠ some g := by
  rcases h.2 with ⟨rfl, _⟩ | ⟨b, cap, cur, rfl, hb, _⟩
  · simp [Value.ownBlock]
  · simp only [Value.ownBlock, ne_eq, Option.some.injEq]; omega
theorem vlqAdd (g : Nat) (l : List UInt8) (x : Int) (c : UInt8) (hx : x = c.toNat) (w : World) (hd : Dig w g l) (hl : l.length ≤ 100) :
    Calls Try.prog 58 #[.pointer (some ⟨g, 0, none⟩), .int .u8 x] w (Added g (l ++ [c]) w) := by
  obtain ⟨A, k, hb, hown⟩ := hd
  obtain ⟨i0, hi, hz0, hz1, hz2⟩ := info_parts info_u8
  have hg := lt_of_block hb
  have hc := cell_of_one hb
  have hf := free_of_one hb
  have HX := Lib.hid hx
  clear hx
  go_enter Try.func58, Try.ntmps58
  go_wp2_with
    (at_builtin
     refine wpApp rfl (.tmp 8) (.tmp 10) _ rfl (g + 1) 5 i0 _ 1 1 Try.underlying41 hi hz0 hz1 hz2 rfl (by omega) _ l.length (l.map u8v) rfl (hown.alloc _) (some ⟨w.heap.size, 0, none⟩) 1 1 [.int .u8 x] rfl (one_new _ _ _) rfl (by simp [Value.oneCell']) (by unfold maxLen; omega) (by omega) (by simp; omega) ?_
     intro v1 w1 hown1 hb1
     obtain ⟨A1, k1, rfl, _, _, _, _, _⟩ := own_form hown1 (by omega)
     have hb1' : Below (g + 1) w w1 := ((Below.refl _ _).alloc (by omega) _).trans hb1
     have c1 : w1.heap[g]? = some (.cells #[.slice A l.length k] 76 (0, 0)) := (hb1'.block g (by omega)).trans hb
     have c2 := cell_of_one c1
     have c3 := free_of_one c1
     clear hc hf)
  go_end0
  refine ⟨rfl, ⟨A1, k1, ?_, ?_⟩, (hb1'.mono (by omega)).setCell (by simp) _⟩
  · have h := one_setCell (u := .slice A1 (l.length + 1) k1) c1
    simpa using h
  · have h := ownsRow_setCell_other (a := ⟨g, 0, none⟩) hown1 (own_above hown1) (.slice A1 (l.length + 1) k1)
    simpa [HX.out] using h

/-- A power of the base that is 1 or not above n. -/
def Pow (n m : Nat) : Prop := ∃ k, m = 128 ^ k ∧ (k = 0 ∨ 128 ^ k ≤ n)
theorem pow_one (n : Nat) : Pow n 1 := ⟨0, rfl, .inl rfl⟩
theorem pow_pos {n m : Nat} (h : Pow n m) : 1 ≤ m := by
  obtain ⟨k, rfl, _⟩ := h
  exact Nat.pow_pos (by omega)
theorem pow_bd {n m : Nat} (h : Pow n m) (hn : n < 18446744073709551616) : (m : Int) ≤ 18446744073709551615 := by
  obtain ⟨k, rfl, hk⟩ := h
  rcases hk with hk | hk
  · subst hk; simp
  · omega
theorem pow_up {n m : Nat} (h : Pow n m) (hq : 128 ≤ n / m) : Pow n (m * 128) ∧ m * 128 ≤ n := by
  have hp := pow_pos h
  have hle : 128 * m ≤ n := (Nat.le_div_iff_mul_le (by omega)).1 hq
  obtain ⟨k, rfl, _⟩ := h
  exact ⟨⟨k + 1, by rw [Nat.pow_succ], .inr (by rw [Nat.pow_succ]; omega)⟩, by omega⟩
theorem pow_down {n m : Nat} (h : Pow n m) (h1 : 1 < m) : Pow n (m / 128) ∧ n / m ≠ 0 ∧ m / 128 * 128 = m ∧ m / 128 < m := by
  obtain ⟨k, rfl, hk⟩ := h
  match k, h1, hk with
  | 0, h1, _ => simp at h1
  | k + 1, h1, hk =>
    have hle : 128 ^ (k + 1) ≤ n := by
      rcases hk with hk | hk
      · omega
      · exact hk
    have hp : 1 ≤ 128 ^ k := Nat.pow_pos (by omega)
    have e : 128 ^ (k + 1) / 128 = 128 ^ k := by rw [Nat.pow_succ]; omega
    have hne : n / 128 ^ (k + 1) ≠ 0 := by
      have h1 : 0 < 128 ^ (k + 1) := Nat.pow_pos (by omega)
      have := Nat.div_pos hle h1
      omega
    rw [e]
    refine ⟨⟨k, rfl, .inr ?_⟩, hne, by rw [Nat.pow_succ], ?_⟩
    · rw [Nat.pow_succ] at hle; omega
    · rw [Nat.pow_succ]; omega
theorem hi_next {n m : Nat} (h : Pow n m) (h1 : 1 < m) : hi (n / (m / 128 * 128)) = hi (n / (m * 128)) ++ [UInt8.ofNat (n / m % 128 + 128)] := by
  obtain ⟨_, h2, h3, _⟩ := pow_down h h1
  rw [h3, hi_pos h2, Nat.div_div_eq_div_mul]
theorem ofNat_val {c : Nat} (h : c < 256) : (UInt8.ofNat c).toNat = c := by rw [UInt8.toNat_ofNat']; omega
theorem Added.next {g : Nat} {l : List UInt8} {w w1 w2 : World} {e : Ending} (hb : Below g w w1) (h : Added g l w1 e w2) : Dig w2 g l ∧ Below g w w2 := ⟨h.2.1, hb.trans h.2.2⟩
theorem enc_hi_len (n m : Nat) (hn : n < 18446744073709551616) : (hi (n / m)).length ≤ 10 := by
  refine hi_len 10 _ ?_
  have h := Nat.div_le_self n m
  have e : (128 : Nat) ^ 10 = 1180591620717411303424 := by decide
  omega

theorem quo_bd (n m : Nat) : 0 ≤ (n : Int) / (m : Int) ∧ (n : Int) / (m : Int) ≤ n := ⟨Int.ediv_nonneg (by omega) (by omega), Int.ediv_le_self _ (by omega)⟩
theorem u8_arg (a : Nat) : ((UInt8.ofNat (a % 128 + 128)).toNat : Int) = (a : Int) % 128 + 128 := by rw [ofNat_val (by omega)]; omega
theorem u8_arg0 (a : Nat) : ((UInt8.ofNat (a % 128)).toNat : Int) = (a : Int) % 128 := by rw [ofNat_val (by omega)]; omega
set_option maxRecDepth 100000 in
set_option maxHeartbeats 400000 in
theorem vlqWrite (n : Nat) (hn : n < 18446744073709551616) (g : Nat) (w : World) (hd : Dig w g []) :
    Calls Try.prog 57 #[.int .u64 n, .func (.func 58) #[.pointer (some ⟨g, 0, none⟩)] #[]] w (Added g (enc n) w) := by
  have hn' : (n : Int) ≤ 18446744073709551615 := by omega
  go_enter Try.func57, Try.ntmps57
  go_wp2_with fail
  go_loop [4] (fun u => ∃ m : Nat, Pow n m ∧ u = .int .u64 m) (fun u => n - (intOf u).toNat)
  case atStart => exact ⟨1, pow_one n, rfl⟩
  case round =>
    obtain ⟨m, hm, rfl⟩ := hrel
    have hp := pow_pos hm
    have hz : ((m : Int) == 0) = false := by simp; omega
    obtain ⟨hq0, hq1⟩ := quo_bd n m
    by_cases hq : 128 ≤ n / m
    · obtain ⟨hu, hle⟩ := pow_up hm hq
      have hq' : (128 : Int) ≤ (n : Int) / (m : Int) := by exact_mod_cast hq
      have hle' : (m : Int) * 128 ≤ n := by exact_mod_cast hle
      clear hq hle
      go_wp2_with fail
      go_round
      case rel => exact ⟨m * 128, hu, by go_num⟩
      case measure => simp [intOf]; omega
    · have hq' : (n : Int) / (m : Int) < 128 := by
        have : n / m < 128 := by omega
        exact_mod_cast this
      have hd0 : Dig w g (hi (n / (m * 128))) := by
        have e : n / (m * 128) = 0 := by
          rw [← Nat.div_div_eq_div_mul]
          omega
        rw [e, hi_zero]; exact hd
      clear hd
      go_wp2_with fail
      go_loopw [4] (fun u wr => ∃ m : Nat, Pow n m ∧ u = .int .u64 m ∧ Dig wr g (hi (n / (m * 128))) ∧ Below g w wr) (fun u _ => (intOf u).toNat)
      case atStart => exact ⟨m, hm, rfl, hd0, Below.refl _ _⟩
      case round =>
        clear hm hp hq hq' hd0 hz hq0 hq1
        obtain ⟨m, hm, rfl, hd, hb⟩ := hrel
        have hp := pow_pos hm
        have hp2 := pow_bd hm hn
        have hz : ((m : Int) == 0) = false := by simp; omega
        obtain ⟨hq0, hq1⟩ := quo_bd n m
        by_cases h1 : 1 < m
        · obtain ⟨a1, a2, a3, a4⟩ := pow_down hm h1
          have hle := enc_hi_len n (m * 128) hn
          have hx := u8_arg (n / m)
          rw [Int.natCast_ediv] at hx
          have hnx := hi_next hm h1
          have HX := Lib.hid hx.symm
          have HN := Lib.hid hnx
          clear a2 a3 hx hnx
          go_wp2_with fail
          refine (vlqAdd g _ _ _ HX.out _ hd (by omega)).mono ?_
          intro e w2 h2
          have hd2 := (h2.next hb)
          obtain ⟨rfl, _, _⟩ := h2
          rw [← HN.out] at hd2
          clear hd hb
          go_wp2_with fail
          go_roundw
          case rel => exact ⟨m / 128, a1, by go_num, hd2.1, hd2.2⟩
          case measure => simp [intOf]; omega
        · obtain rfl : m = 1 := by omega
          have hx := u8_arg0 n
          have HX := Lib.hid hx.symm
          have hle := enc_hi_len n 128 hn
          clear hx
          rw [Nat.one_mul] at hd
          go_wp2_with fail
          refine (vlqAdd g _ _ _ HX.out _ hd (by omega)).mono ?_
          intro e w2 h2
          have hd2 := (h2.next hb)
          obtain ⟨rfl, _, _⟩ := h2
          clear hd hb
          go_wp2_with fail
          go_end0
          exact ⟨rfl, hd2.1, hd2.2⟩

/-- What a call of the number's writer leaves: the string of the digits; all that was stays. -/
def IsStr (l : List UInt8) (w : World) (e : Ending) (w' : World) : Prop := e = .returned (.string ⟨l.toArray⟩) ∧ Below w.heap.size w w'
theorem run_row_str {P : Program} {w : World} {A : Option Addr} {c : Nat} {l : List UInt8} {src dst e : TypeId} (hs : P.underlying src = some (.slice e)) (he : P.underlying e = some (.int .u8)) (hd : P.underlying dst = some .string)
    (h : Row w A (l.map u8v)) : (convert src dst (.slice A l.length c)).run P w = .ok (.string ⟨l.toArray⟩) w := by
  cases A with
  | none =>
    have hl : l = [] := by
      rcases h with h | ⟨_, _, h, _⟩
      · simpa using h
      · cases h
    subst hl
    exact Lib.run_convert_nil_bytes w src dst e c hs he hd
  | some a =>
    refine run_convert_bytes_back w src dst e a c l hs he hd fun j hj => ?_
    obtain ⟨b, off, ha, hc⟩ := h.at_ (k := j) (by simpa using hj)
    cases ha
    rw [Go.WideShapes.add_plain, hc]
    simp
theorem vlqEncode (n : Nat) (hn : n < 18446744073709551616) (w : World) : Calls Try.prog 47 #[.int .u64 n] w (IsStr (enc n) w) := by
  have hd : Dig (w.alloc (.cells #[.slice none 0 0] 76)) w.heap.size [] := ⟨none, 0, heap_alloc_new w _, own_none⟩
  go_enter Try.func47, Try.ntmps47
  go_wp2_with fail
  refine (vlqWrite n hn _ _ hd).mono ?_
  rintro e w2 ⟨rfl, h2, hb2⟩
  obtain ⟨A, k, hb, hown⟩ := h2
  have hc := cell_of_one hb
  obtain ⟨A', k', he, _, _, _, hr, _⟩ := own_form hown (by omega)
  cases he
  have hcv := run_row_str (P := Try.prog) (c := k) Try.underlying41 Try.underlying5 Try.underlying9 hr
  clear hb hown
  go_wp2_with fail
  go_ret
  exact ⟨rfl, ((Below.refl _ _).alloc (Nat.le_refl _) _).trans hb2⟩
end Go.Proofs.Ythgafhinlchghaa
