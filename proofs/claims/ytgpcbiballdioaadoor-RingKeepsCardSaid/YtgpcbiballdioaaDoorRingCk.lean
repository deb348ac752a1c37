/- The code's Right; the law's alive. -/
import Derived.Test.YtgpcbiballdioaaDoorRingRightR
namespace Go.Proofs.YtgpcbiballdioaaDoor
open Go.RowKit
set_option linter.unusedVariables false
set_option maxRecDepth 8000
namespace Rg
def TellsR (b : Bool) (w : World) (e : Ending) (w' : World) : Prop := e = .returned (.bool b) ∧ Below w.heap.size w w'
theorem prev_next {l : List Int} {k : Nat} {x : Int} (h : l[k]? = some x) : prev l (k + 1) = x := prev_get h
set_option maxRecDepth 100000 in
set_option maxHeartbeats 2000000 in
theorem ckRight (l : List Int) (A : Option Addr) (c : Nat) (w : World) (h : Row w A (iv l)) (hl : l.length ≤ 9223372036854775807) : Calls Tryd.prog 9 #[.slice A l.length c] w fun e w' => e = .returned (.bool (right l)) ∧ w' = w := by
  have H := Lib.hid h
  obtain ⟨r, hr⟩ : ∃ r, r = right l := ⟨_, rfl⟩
  have HR := Lib.hid hr
  rw [← hr]
  clear h hr
  go_enter Tryd.func9, Tryd.ntmps9
  go_wp2_with fail
  go_loopw [3, 5, 8] (fun s3 s5 s8 wr => ∃ (k : Nat) (p : Int), s8 = .int .i64 k ∧ s3 = .int .i64 p ∧ k ≤ l.length ∧ rise 0 (l.take k) = true ∧ p = prev l k ∧ wr = w) (fun _ _ s8 _ => l.length - (intOf s8).toNat)
  case atStart => exact ⟨0, 0, rfl, rfl, Nat.zero_le _, rfl, rfl, rfl⟩
  case round =>
    obtain ⟨k, p, rfl, rfl, hk, hri, hp, rfl⟩ := hrel
    have HRI := Lib.hid hri
    have HP := Lib.hid hp
    clear hri hp
    by_cases hlt : k < l.length
    · obtain ⟨x, hx⟩ : ∃ x, l[k]? = some x := ⟨_, List.getElem?_eq_getElem hlt⟩
      obtain ⟨b, off, rfl, c0⟩ := row_int H.out hx
      have HX := Lib.hid hx
      clear hx
      by_cases b1 : x ≤ p
      · have er := HR.out.trans (rise_bad HX.out (by rw [← HP.out]; omega))
        subst er
        go_wp2_with fail
        go_ret
        exact ⟨rfl, rfl⟩
      · by_cases b2 : (99 : Int) < x
        · have er := HR.out.trans (rise_bad HX.out (by omega))
          subst er
          go_wp2_with fail
          go_ret
          exact ⟨rfl, rfl⟩
        · have HN := Lib.hid (show rise 0 (l.take (k + 1)) = true from by rw [rise_next HX.out, HRI.out, ← HP.out, decide_eq_true ⟨by omega, by omega⟩]; rfl)
          have HQ := Lib.hid (show x = prev l (k + 1) from (prev_next HX.out).symm)
          go_wp2_with fail
          go_roundw
          case rel => exact ⟨k + 1, x, by go_num, rfl, by omega, HN.out, HQ.out, by first | trivial | rfl⟩
          case measure => simp [intOf]; omega
    · have hke : l.take k = l := List.take_of_length_le (by omega)
      have HE := Lib.hid (show r = decide (1 ≤ l.length ∧ l.length ≤ 8) from by rw [HR.out]; unfold right; rw [← hke, HRI.out, hke, Bool.and_true])
      have hge : l.length ≤ k := by omega
      clear hke
      have hway : ((l.length : Int) < 1 ∧ r = false) ∨ (¬ (l.length : Int) < 1 ∧ (8 : Int) < l.length ∧ r = false) ∨ (¬ (l.length : Int) < 1 ∧ ¬ (8 : Int) < l.length ∧ r = true) := by
        rw [HE.out]
        by_cases h1 : (l.length : Int) < 1
        · left; exact ⟨h1, decide_eq_false (by omega)⟩
        · right
          by_cases h2 : (8 : Int) < l.length
          · left; exact ⟨h1, h2, decide_eq_false (by omega)⟩
          · right; exact ⟨h1, h2, decide_eq_true (by omega)⟩
      rcases hway with ⟨a1, rfl⟩ | ⟨a1, a2, rfl⟩ | ⟨a1, a2, rfl⟩
      all_goals (
        go_wp2_with fail
        go_ret
        refine ⟨?_, rfl⟩
        first | rfl | (simp; done) | (simp; omega))
theorem lawAliveR (w : World) : Calls Tryd.prog 8 #[] w (TellsR true w) := by
  have HC := Lib.hid (fun A c w h => ckRight [1] A c w h (by decide))
  have e : right [1] = true := by decide
  rw [e] at HC
  have HRW := Lib.hid (show Row (w.alloc (.cells #[.int .i64 1] 3)) (some ⟨w.heap.size, 0, none⟩) (iv [1]) from .inr ⟨w.heap.size, 0, rfl, fun j u hu => (Lies.new w #[.int .i64 1] 3).cell (by simpa using hu)⟩)
  clear e
  go_enter Tryd.func8, Tryd.ntmps8
  go_wp2_with fail
  refine (HC.out _ 1 _ HRW.out).mono ?_
  rintro e w1 ⟨rfl, rfl⟩
  go_wp2_with fail
  go_ret
  exact ⟨rfl, below_al (Below.refl _ _)⟩
end Rg
end Go.Proofs.YtgpcbiballdioaaDoor
