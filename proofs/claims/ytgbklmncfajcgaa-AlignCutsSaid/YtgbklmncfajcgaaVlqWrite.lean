/- Contracts of what package vlq writes: a digit is added, a number's digits are written, the bytes are a string. -/
import Derived.Test.YtgbklmncfajcgaaVlqMath
import Derived.Test.YtgbklmncfajcgaaMem
import Derived.OneCell
import Derived.Outline
import Derived.ShutString
import Derived.Laws.IdiomStrings
import Derived.Lib.BufferRead
namespace Go.Proofs.Ytgbklmncfajcgaa
open Go.RowKit
open Vlq
set_option linter.unusedVariables false
theorem info_u8 : (Try.prog.info? 5).map (fun i => (i.zero, i.size, i.bytes)) = some (some (.int .u8 0), 1, 1) := by kernel_rfl
abbrev u8v (c : UInt8) : Value := .int .u8 (c.toNat : Int)
theorem one_new (w : World) (u : Value) (t : TypeId) : Row (w.alloc (.cells #[u] t)) (some ⟨w.heap.size, 0, none⟩) [u] := by
  refine .inr ⟨_, _, rfl, fun j v hv => ?_⟩
  match j, hv with
  | 0, hv => simp at hv; subst hv; exact cell_of_one (heap_alloc_new w _)
theorem own_above {w : World} {g size n : Nat} {e : TypeId} {v : Value} {xs : List Value} (h : w.ownsRow (g + 1) e size v n xs) : v.ownBlock ≠ some g := by
  rcases h.2 with ⟨rfl, _⟩ | ⟨b, cap, cur, rfl, hb, _⟩
  · simp [Value.ownBlock]
  · simp only [Value.ownBlock, ne_eq, Option.some.injEq]; omega
/-- A power of the base that is 1 or not above n. -/
def Pow (n m : Nat) : Prop := ∃ k, m = 128 ^ k ∧ (k = 0 ∨ 128 ^ k ≤ n)
theorem pow_one (n : Nat) : Pow n 1 := ⟨0, rfl, .inl rfl⟩
theorem pow_pos {n m : Nat} (h : Pow n m) : 1 ≤ m := by
  obtain ⟨k, rfl, _⟩ := h
  exact Nat.pow_pos (by omega)
theorem pow_bd {n m : Nat} (h : Pow n m) (hn : n < 18446744073709551616) : (m : Int) ≤ 18446744073709551615 := by
  obtain ⟨k, rfl, hk⟩ := h
  rcases hk with hk | hk
  · subst hk; simp
  · omega
theorem pow_up {n m : Nat} (h : Pow n m) (hq : 128 ≤ n / m) : Pow n (m * 128) ∧ m * 128 ≤ n := by
  have hp := pow_pos h
  have hle : 128 * m ≤ n := (Nat.le_div_iff_mul_le (by omega)).1 hq
  obtain ⟨k, rfl, _⟩ := h
  exact ⟨⟨k + 1, by rw [Nat.pow_succ], .inr (by rw [Nat.pow_succ]; omega)⟩, by omega⟩
theorem pow_down {n m : Nat} (h : Pow n m) (h1 : 1 < m) : Pow n (m / 128) ∧ n / m ≠ 0 ∧ m / 128 * 128 = m ∧ m / 128 < m := by
  obtain ⟨k, rfl, hk⟩ := h
  match k, h1, hk with
  | 0, h1, _ => simp at h1
  | k + 1, h1, hk =>
    have hle : 128 ^ (k + 1) ≤ n := by
      rcases hk with hk | hk
      · omega
      · exact hk
    have hp : 1 ≤ 128 ^ k := Nat.pow_pos (by omega)
    have e : 128 ^ (k + 1) / 128 = 128 ^ k := by rw [Nat.pow_succ]; omega
    have hne : n / 128 ^ (k + 1) ≠ 0 := by
      have h1 : 0 < 128 ^ (k + 1) := Nat.pow_pos (by omega)
      have := Nat.div_pos hle h1
      omega
    rw [e]
    refine ⟨⟨k, rfl, .inr ?_⟩, hne, by rw [Nat.pow_succ], ?_⟩
    · rw [Nat.pow_succ] at hle; omega
    · rw [Nat.pow_succ]; omega
theorem hi_next {n m : Nat} (h : Pow n m) (h1 : 1 < m) : hi (n / (m / 128 * 128)) = hi (n / (m * 128)) ++ [UInt8.ofNat (n / m % 128 + 128)] := by
  obtain ⟨_, h2, h3, _⟩ := pow_down h h1
  rw [h3, hi_pos h2, Nat.div_div_eq_div_mul]
theorem ofNat_val {c : Nat} (h : c < 256) : (UInt8.ofNat c).toNat = c := by rw [UInt8.toNat_ofNat']; omega
theorem enc_hi_len (n m : Nat) (hn : n < 18446744073709551616) : (hi (n / m)).length ≤ 10 := by
  refine hi_len 10 _ ?_
  have h := Nat.div_le_self n m
  have e : (128 : Nat) ^ 10 = 1180591620717411303424 := by decide
  omega

theorem quo_bd (n m : Nat) : 0 ≤ (n : Int) / (m : Int) ∧ (n : Int) / (m : Int) ≤ n := ⟨Int.ediv_nonneg (by omega) (by omega), Int.ediv_le_self _ (by omega)⟩
theorem u8_arg (a : Nat) : ((UInt8.ofNat (a % 128 + 128)).toNat : Int) = (a : Int) % 128 + 128 := by rw [ofNat_val (by omega)]; omega
theorem u8_arg0 (a : Nat) : ((UInt8.ofNat (a % 128)).toNat : Int) = (a : Int) % 128 := by rw [ofNat_val (by omega)]; omega
/-- What a call of the number's writer leaves: the string of the digits; all that was stays. -/
def IsStr (l : List UInt8) (w : World) (e : Ending) (w' : World) : Prop := e = .returned (.string ⟨l.toArray⟩) ∧ Below w.heap.size w w'
theorem run_row_str {P : Program} {w : World} {A : Option Addr} {c : Nat} {l : List UInt8} {src dst e : TypeId} (hs : P.underlying src = some (.slice e)) (he : P.underlying e = some (.int .u8)) (hd : P.underlying dst = some .string)
    (h : Row w A (l.map u8v)) : (convert src dst (.slice A l.length c)).run P w = .ok (.string ⟨l.toArray⟩) w := by
  cases A with
  | none =>
    have hl : l = [] := by
      rcases h with h | ⟨_, _, h, _⟩
      · simpa using h
      · cases h
    subst hl
    exact Lib.run_convert_nil_bytes w src dst e c hs he hd
  | some a =>
    refine run_convert_bytes_back w src dst e a c l hs he hd fun j hj => ?_
    obtain ⟨b, off, ha, hc⟩ := h.at_ (k := j) (by simpa using hj)
    cases ha
    rw [Go.WideShapes.add_plain, hc]
    simp
end Go.Proofs.Ytgbklmncfajcgaa
