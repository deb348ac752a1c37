/- Right and Ints of the reference. -/
import Derived.Test.YtgpcbiballdioaaDoorRingMath
import Derived.Test.YtgpcbiballdioaaDoorMem
namespace Go.Proofs.YtgpcbiballdioaaDoor
open Go.RowKit
set_option linter.unusedVariables false
set_option maxRecDepth 8000
namespace Rg
abbrev iv (l : List Int) : List Value := l.map (Value.int .i64)
theorem row_int {w : World} {A : Option Addr} {l : List Int} (h : Row w A (iv l)) {k : Nat} {x : Int} (hx : l[k]? = some x) : ∃ b off, A = some ⟨b, off, none⟩ ∧ w.cell? ⟨b, off + k, none⟩ = some (.int .i64 x) := by
  have hk := (List.getElem?_eq_some_iff.1 hx).1
  obtain ⟨y, b, off, h1, h2, h3⟩ := h.ints hk
  rw [hx] at h2
  cases h2
  exact ⟨b, off, h1, h3⟩
theorem rise_bad {l : List Int} {k : Nat} {x : Int} (hx : l[k]? = some x) (h : ¬ (prev l k < x ∧ x ≤ 99)) : right l = false := by
  have h2 := rise_next hx
  rw [decide_eq_false h, Bool.and_false] at h2
  unfold right
  rw [rise_no h2, Bool.and_false]
theorem prev_le {l : List Int} {k : Nat} (hk : k ≤ l.length) (h : rise 0 (l.take k) = true) : 0 ≤ prev l k := by
  unfold prev
  by_cases h0 : k = 0
  · rw [if_pos h0]; exact Int.le_refl _
  · rw [if_neg h0, List.getD_eq_getElem?_getD, List.getElem?_eq_getElem (by omega)]
    have hm : l[k - 1] ∈ l.take k := List.mem_of_getElem? (i := k - 1) (by rw [List.getElem?_take, if_pos (by omega), List.getElem?_eq_getElem (by omega)])
    have := rise_mem h _ hm
    show 0 ≤ l[k - 1]
    omega
theorem prev_get {l : List Int} {i : Nat} {z : Int} (h : l[i]? = some z) : prev l (i + 1) = z := by
  unfold prev
  rw [if_neg (by omega), show i + 1 - 1 = i by omega, List.getD_eq_getElem?_getD, h]; rfl
set_option maxRecDepth 100000 in
set_option maxHeartbeats 2000000 in
theorem rfRightG (l : List Int) (A : Option Addr) (c : Nat) (w : World) (h : Row w A (iv l)) (hl : l.length ≤ 9223372036854775807) : Calls Tryd.prog 10 #[.slice A l.length c] w fun e w' => e = .returned (.bool (right l)) ∧ w' = w := by
  have H := Lib.hid h
  obtain ⟨r, hr⟩ : ∃ r, r = right l := ⟨_, rfl⟩
  have HR := Lib.hid hr
  rw [← hr]
  clear h hr
  go_enter Tryd.func10, Tryd.ntmps10
  go_wp2_with fail
  go_loopw [3, 4, 7] (fun s3 s4 s7 wr => ∃ k : Nat, s7 = .int .i64 k ∧ k ≤ l.length ∧ rise 0 (l.take k) = true ∧ wr = w) (fun _ _ s7 _ => l.length - (intOf s7).toNat)
  case atStart => exact ⟨0, rfl, Nat.zero_le _, rfl, rfl⟩
  case round =>
    obtain ⟨k, rfl, hk, hri, rfl⟩ := hrel
    have HRI := Lib.hid hri
    clear hri
    by_cases hlt : k < l.length
    · obtain ⟨x, hx⟩ : ∃ x, l[k]? = some x := ⟨_, List.getElem?_eq_getElem hlt⟩
      obtain ⟨b, off, rfl, c0⟩ := row_int H.out hx
      have HX := Lib.hid hx
      have hpl := prev_le hk HRI.out
      clear hx
      by_cases b1 : x < 1
      · have er := HR.out.trans (rise_bad HX.out (by omega))
        subst er
        go_wp2_with fail
        go_ret
        exact ⟨rfl, rfl⟩
      · by_cases b2 : (99 : Int) < x
        · have er := HR.out.trans (rise_bad HX.out (by omega))
          subst er
          go_wp2_with fail
          go_ret
          exact ⟨rfl, rfl⟩
        · rcases k with _ | i
          · have c00 : wr.cell? ⟨b, off, none⟩ = some (.int .i64 x) := c0
            have HN := Lib.hid (show rise 0 (l.take 1) = true from by rw [rise_next HX.out, HRI.out, show prev l 0 = 0 from rfl, decide_eq_true ⟨by omega, by omega⟩]; rfl)
            go_wp2_with fail
            go_roundw
            case rel => exact ⟨1, by go_num, by omega, HN.out, by first | trivial | rfl⟩
            case measure => simp [intOf]; omega
          · obtain ⟨z, hz⟩ : ∃ z, l[i]? = some z := ⟨_, List.getElem?_eq_getElem (by omega)⟩
            obtain ⟨b', off', e', c1⟩ := row_int H.out hz
            cases e'
            have HPE := Lib.hid (prev_get hz)
            have e1 : IntKind.i64.wrap (i : Int) = (i : Int) := by simp [IntKind.wrap, IntKind.bits, IntKind.signed]; omega
            have e2 : (0 : Int) ≤ i := by omega
            have e3 : (i : Int) < l.length := by omega
            have e4 : i < l.length := by omega
            have e5 : (0 : Int) < ((i + 1 : Nat) : Int) := by omega
            clear hz
            by_cases b3 : x ≤ z
            · have er := HR.out.trans (rise_bad HX.out (by rw [HPE.out]; omega))
              subst er
              go_wp2_with fail
              go_ret
              exact ⟨rfl, rfl⟩
            · have HN := Lib.hid (show rise 0 (l.take (i + 1 + 1)) = true from by rw [rise_next HX.out, HRI.out, HPE.out, decide_eq_true ⟨by omega, by omega⟩]; rfl)
              go_wp2_with fail
              go_roundw
              case rel => exact ⟨i + 1 + 1, by go_num, by omega, HN.out, by first | trivial | rfl⟩
              case measure => simp [intOf]; omega
    · have hke : l.take k = l := List.take_of_length_le (by omega)
      have HE := Lib.hid (show r = decide (1 ≤ l.length ∧ l.length ≤ 8) from by rw [HR.out]; unfold right; rw [← hke, HRI.out, hke, Bool.and_true])
      have hge : l.length ≤ k := by omega
      clear hke
      have hway : ((l.length : Int) < 1 ∧ r = false) ∨ (¬ (l.length : Int) < 1 ∧ (8 : Int) < l.length ∧ r = false) ∨ (¬ (l.length : Int) < 1 ∧ ¬ (8 : Int) < l.length ∧ r = true) := by
        rw [HE.out]
        by_cases h1 : (l.length : Int) < 1
        · left; exact ⟨h1, decide_eq_false (by omega)⟩
        · right
          by_cases h2 : (8 : Int) < l.length
          · left; exact ⟨h1, h2, decide_eq_false (by omega)⟩
          · right; exact ⟨h1, h2, decide_eq_true (by omega)⟩
      rcases hway with ⟨a1, rfl⟩ | ⟨a1, a2, rfl⟩ | ⟨a1, a2, rfl⟩
      all_goals (
        go_wp2_with fail
        go_ret
        refine ⟨?_, rfl⟩
        first | rfl | (simp; omega))
set_option maxRecDepth 100000 in
set_option maxHeartbeats 1000000 in
/-- The same numbers in two rows. -/
theorem rfIntsG (l : List Int) (A : Option Addr) (c : Nat) (B : Option Addr) (d : Nat) (w : World) (hl : l.length ≤ 9223372036854775807) (hA : Row w A (iv l)) (hB : Row w B (iv l)) :
    Calls Tryd.prog 11 #[.slice A l.length c, .slice B l.length d] w fun e w' => e = .returned (.bool true) ∧ Below w.heap.size w w' := by
  have HA := Lib.hid hA
  have HB := Lib.hid hB
  clear hA hB
  go_enter Tryd.func11, Tryd.ntmps11
  go_wp2_with fail
  go_loopw [13] (fun i wr => ∃ k : Nat, i = .int .i64 k ∧ k ≤ l.length ∧ ∃ n, wr = w.drewN n) (fun i _ => l.length - (intOf i).toNat)
  case atStart => exact ⟨0, rfl, Nat.zero_le _, 0, rfl⟩
  case round =>
    obtain ⟨k, rfl, hk, n, rfl⟩ := hrel
    by_cases hlt : k < l.length
    · obtain ⟨x, hx⟩ : ∃ x, l[k]? = some x := ⟨_, List.getElem?_eq_getElem hlt⟩
      obtain ⟨b, off, rfl, c0⟩ := row_int HA.out hx
      obtain ⟨b', off', rfl, d0⟩ := row_int HB.out hx
      clear hx
      go_wp2_with fail
      go_quiet (fail)
      go_wp2_with fail
      go_roundw
      case rel => exact ⟨k + 1, by go_num, by omega, _, rfl⟩
      case measure => simp [intOf]; omega
    · have hge : l.length ≤ k := by omega
      go_wp2_with fail
      go_ret
      exact ⟨rfl, below_drewN (Below.refl _ _)⟩
end Rg
end Go.Proofs.YtgpcbiballdioaaDoor
