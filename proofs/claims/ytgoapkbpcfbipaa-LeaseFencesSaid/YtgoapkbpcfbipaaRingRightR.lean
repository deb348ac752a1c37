/- Right and Ints of the reference. -/
import Derived.Test.YtgoapkbpcfbipaaRingMath
import Derived.Test.YtgoapkbpcfbipaaMem
namespace Go.Proofs.Ytgoapkbpcfbipaa
open Go.RowKit
set_option linter.unusedVariables false
set_option maxRecDepth 8000
namespace Rg
abbrev iv (l : List Int) : List Value := l.map (Value.int .i64)
theorem row_int {w : World} {A : Option Addr} {l : List Int} (h : Row w A (iv l)) {k : Nat} {x : Int} (hx : l[k]? = some x) : ∃ b off, A = some ⟨b, off, none⟩ ∧ w.cell? ⟨b, off + k, none⟩ = some (.int .i64 x) := by
  have hk := (List.getElem?_eq_some_iff.1 hx).1
  obtain ⟨y, b, off, h1, h2, h3⟩ := h.ints hk
  rw [hx] at h2
  cases h2
  exact ⟨b, off, h1, h3⟩
theorem rise_bad {l : List Int} {k : Nat} {x : Int} (hx : l[k]? = some x) (h : ¬ (prev l k < x ∧ x ≤ 99)) : right l = false := by
  have h2 := rise_next hx
  rw [decide_eq_false h, Bool.and_false] at h2
  unfold right
  rw [rise_no h2, Bool.and_false]
theorem prev_le {l : List Int} {k : Nat} (hk : k ≤ l.length) (h : rise 0 (l.take k) = true) : 0 ≤ prev l k := by
  unfold prev
  by_cases h0 : k = 0
  · rw [if_pos h0]; exact Int.le_refl _
  · rw [if_neg h0, List.getD_eq_getElem?_getD, List.getElem?_eq_getElem (by omega)]
    have hm : l[k - 1] ∈ l.take k := List.mem_of_getElem? (i := k - 1) (by rw [List.getElem?_take, if_pos (by omega), List.getElem?_eq_getElem (by omega)])
    have := rise_mem h _ hm
    show 0 ≤ l[k - 1]
    omega
theorem prev_get {l : List Int} {i : Nat} {z : Int} (h : l[i]? = some z) : prev l (i + 1) = z := by
  unfold prev
  rw [if_neg (by omega), show i + 1 - 1 = i by omega, List.getD_eq_getElem?_getD, h]; rfl
set_option maxRecDepth 100000 in
set_option maxHeartbeats 1000000 in
/-- The same numbers in two rows. -/
theorem rfIntsG (l : List Int) (A : Option Addr) (c : Nat) (B : Option Addr) (d : Nat) (w : World) (hl : l.length ≤ 9223372036854775807) (hA : Row w A (iv l)) (hB : Row w B (iv l)) :
    Calls Try.prog 15 #[.slice A l.length c, .slice B l.length d] w fun e w' => e = .returned (.bool true) ∧ Below w.heap.size w w' := by
  have HA := Lib.hid hA
  have HB := Lib.hid hB
  clear hA hB
  go_enter Try.func15, Try.ntmps15
  go_wp2_with fail
  go_loopw [13] (fun i wr => ∃ k : Nat, i = .int .i64 k ∧ k ≤ l.length ∧ ∃ n, wr = w.drewN n) (fun i _ => l.length - (intOf i).toNat)
  case atStart => exact ⟨0, rfl, Nat.zero_le _, 0, rfl⟩
  case round =>
    obtain ⟨k, rfl, hk, n, rfl⟩ := hrel
    by_cases hlt : k < l.length
    · obtain ⟨x, hx⟩ : ∃ x, l[k]? = some x := ⟨_, List.getElem?_eq_getElem hlt⟩
      obtain ⟨b, off, rfl, c0⟩ := row_int HA.out hx
      obtain ⟨b', off', rfl, d0⟩ := row_int HB.out hx
      clear hx
      go_wp2_with fail
      go_quiet (fail)
      go_wp2_with fail
      go_roundw
      case rel => exact ⟨k + 1, by go_num, by omega, _, rfl⟩
      case measure => simp [intOf]; omega
    · have hge : l.length ≤ k := by omega
      go_wp2_with fail
      go_ret
      exact ⟨rfl, below_drewN (Below.refl _ _)⟩
end Rg
end Go.Proofs.Ytgoapkbpcfbipaa
