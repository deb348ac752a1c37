/- Contracts of package vlq's calls that write, and of the reference's. -/
import Derived.Test.YtgbklmncfajcgaaVlqWrite
namespace Go.Proofs.Ytgbklmncfajcgaa
open Go.RowKit
open Vlq
set_option linter.unusedVariables false
def IsStrErr (l : List UInt8) (r : Int) (w : World) (e : Ending) (w' : World) : Prop := e = .returned (.tuple #[.string ⟨l.toArray⟩, .int .i64 r]) ∧ Below w.heap.size w w'
theorem zz_neg {n : Int} (h : n < 0) : ((zz n : Nat) : Int) = 2 * -(n + 1) + 1 := by unfold zz; rw [if_pos h]; omega
theorem zz_pos {n : Int} (h : 0 ≤ n) : ((zz n : Nat) : Int) = 2 * n := by unfold zz; rw [if_neg (by omega)]; omega
theorem mul_two (a : Int) : a * 2 = 2 * a := by omega
/-- The bytes of a string, as a list. -/
abbrev sl (s : ByteArray) : List UInt8 := s.data.toList
theorem cat_eq (l : List UInt8) (s : ByteArray) : (⟨l.toArray⟩ : ByteArray) ++ s = ⟨(l ++ sl s).toArray⟩ := by
  apply ByteArray.ext
  rw [ByteArray.data_append]
  apply Array.ext'
  simp
theorem own_one {w : World} {B : Nat} {e : TypeId} {u : Value} (h : B ≤ w.heap.size) : (w.alloc (.cells #[u] e)).ownsRow B e 1 (.slice (some ⟨w.heap.size, 0, none⟩) 1 1) 1 [u] :=
  ⟨rfl, .inr ⟨w.heap.size, 1, #[u], rfl, h, heap_alloc_new w _, Nat.le_refl _, by simp [maxLen], by simp, by simp⟩⟩
theorem one_u8 (w : World) (t : TypeId) {x : Int} {c : UInt8} (h : x = c.toNat) : Row (w.alloc (.cells #[.int .u8 x] t)) (some ⟨w.heap.size, 0, none⟩) ([c].map u8v) := by
  subst h; exact one_new _ _ _
theorem half_next {n m : Nat} (hm : 0 < m) {l : List UInt8} (h : hi m ++ l = enc n) : hi (m / 128) ++ (UInt8.ofNat (m % 128 + 128) :: l) = enc n := by
  rw [← h, hi_pos (by omega : m ≠ 0), List.append_assoc]; rfl
/-- Where the digits stand while the reference puts them ahead, one by one. -/
def Half (n m : Nat) (v : Value) (wr w : World) : Prop :=
  ∃ A c l, v = .slice A l.length c ∧ l.length ≤ c ∧ c ≤ maxLen ∧ Row wr A (l.map u8v) ∧ hi m ++ l = enc n ∧ Below w.heap.size w wr
theorem refEnd (n : Nat) (hn : n < 18446744073709551616) {l : List UInt8} {m : Nat} (h : hi m ++ l = enc n) : l.length ≤ 10 := by
  have h1 := enc_len n hn
  rw [← h, List.length_append] at h1
  omega
end Go.Proofs.Ytgbklmncfajcgaa
