/- Windows: which may be, whether one is closed, whether one holds a time; the makers of iterators. -/
import Derived.Test.YtehnhhkhnedgeaaWinMath
import Derived.Test.YtehnhhkhnedgeaaMem
namespace Go.Proofs.Ytehnhhkhnedgeaa
open Go.RowKit Tick
set_option linter.unusedVariables false
theorem ret_bool {a b : Bool} (h : a = b) : Ending.returned (.bool a) = .returned (.bool b) := by rw [h]
/-- A window as a value. -/
def winV (p : Int × Int) : Value := .agg #[.int .i64 p.1, .int .i64 p.2]
set_option maxHeartbeats 1000000 in
theorem winRight (a b : Int) (w : World) : Calls Try.prog 10 #[.int .i64 a, .int .i64 b] w fun e w' => e = .returned (.bool (Win.ok a b)) ∧ w = w' := by
  by_cases h : Win.ok a b = true
  · have h' := Win.ok_iff.1 h
    obtain ⟨h1, h2, h3, h4⟩ := h'
    have H := Lib.hid h; clear h
    go_enter Try.func10, Try.ntmps10
    go_wp2
    go_ret
    exact ⟨ret_bool (Eq.trans (by first | rfl | (simp; omega)) H.out.symm), rfl⟩
  · have h' := h
    rw [Win.ok_iff] at h'
    have H : Hid (Win.ok a b = false) := Lib.hid (by simpa using h)
    clear h
    by_cases h1 : 1 ≤ b
    · by_cases h2 : b ≤ a
      · by_cases h3 : a ≤ 1048576
        · have h4 : 16 * b < a := by omega
          clear h'
          go_enter Try.func10, Try.ntmps10
          go_wp2
          go_ret
          exact ⟨ret_bool (Eq.trans (by first | rfl | (simp; omega)) H.out.symm), rfl⟩
        · have h4 : 1048576 < a := by omega
          clear h' h3
          go_enter Try.func10, Try.ntmps10
          go_wp2
          go_ret
          exact ⟨ret_bool (Eq.trans (by first | rfl | (simp; omega)) H.out.symm), rfl⟩
      · have h4 : a < b := by omega
        clear h' h2
        go_enter Try.func10, Try.ntmps10
        go_wp2
        go_ret
        exact ⟨ret_bool (Eq.trans (by first | rfl | (simp; omega)) H.out.symm), rfl⟩
    · have h4 : b < 1 := by omega
      clear h' h1
      go_enter Try.func10, Try.ntmps10
      go_wp2
      go_ret
      exact ⟨ret_bool (Eq.trans (by first | rfl | (simp; omega)) H.out.symm), rfl⟩
set_option maxHeartbeats 1000000 in
theorem refRight (a b : Int) (w : World) : Calls Try.prog 11 #[.int .i64 a, .int .i64 b] w fun e w' => e = .returned (.bool (Win.ok a b)) ∧ w = w' := by
  by_cases h : Win.ok a b = true
  · have h' := Win.ok_iff.1 h
    obtain ⟨h1, h2, h3, h4⟩ := h'
    have h5 : (a + 15) / 16 ≤ b := by omega
    have H := Lib.hid h; clear h
    go_enter Try.func11, Try.ntmps11
    go_wp2
    go_ret
    exact ⟨ret_bool (Eq.trans (by first | rfl | (simp; omega)) H.out.symm), rfl⟩
  · have h' := h
    rw [Win.ok_iff] at h'
    have H : Hid (Win.ok a b = false) := Lib.hid (by simpa using h)
    clear h
    by_cases h1 : 1 ≤ b
    · by_cases h2 : b ≤ a
      · by_cases h3 : a ≤ 1048576
        · have h4 : b < (a + 15) / 16 := by omega
          clear h'
          go_enter Try.func11, Try.ntmps11
          go_wp2
          go_ret
          exact ⟨ret_bool (Eq.trans (by first | rfl | (simp; omega)) H.out.symm), rfl⟩
        · have h4 : 1048576 < a := by omega
          clear h' h3
          go_enter Try.func11, Try.ntmps11
          go_wp2
          go_ret
          exact ⟨ret_bool (Eq.trans (by first | rfl | (simp; omega)) H.out.symm), rfl⟩
      · have h4 : a < b := by omega
        clear h' h2
        go_enter Try.func11, Try.ntmps11
        go_wp2
        go_ret
        exact ⟨ret_bool (Eq.trans (by first | rfl | (simp; omega)) H.out.symm), rfl⟩
    · have h4 : b < 1 := by omega
      clear h' h1
      go_enter Try.func11, Try.ntmps11
      go_wp2
      go_ret
      exact ⟨ret_bool (Eq.trans (by first | rfl | (simp; omega)) H.out.symm), rfl⟩
theorem winClosed (a b m : Int) (w : World) : Calls Try.prog 15 #[.agg #[.int .i64 a, .int .i64 b], .int .i64 m] w
    fun e w' => e = .returned (.bool (decide (b ≤ m))) ∧ w' = w.alloc (.cells #[.int .i64 a, .int .i64 b] 29) := by
  go_enter Try.func15, Try.ntmps15
  go_wp2
  go_ret
  exact ⟨rfl, rfl⟩
theorem winHolds (a b t : Int) (w : World) (h : a ≤ t) (hb : t < b) : Calls Try.prog 27 #[.agg #[.int .i64 a, .int .i64 b], .int .i64 t] w
    fun e w' => e = .returned (.bool true) ∧ w' = w.alloc (.cells #[.int .i64 a, .int .i64 b] 29) := by
  go_enter Try.func27, Try.ntmps27
  go_wp2
  go_ret
  exact ⟨rfl, rfl⟩
theorem winMisses (a b t : Int) (w : World) (h : a ≤ t) (hb : b ≤ t) : Calls Try.prog 27 #[.agg #[.int .i64 a, .int .i64 b], .int .i64 t] w
    fun e w' => e = .returned (.bool false) ∧ w' = w.alloc (.cells #[.int .i64 a, .int .i64 b] 29) := by
  go_enter Try.func27, Try.ntmps27
  go_wp2
  go_ret
  exact ⟨ret_bool (by simp; omega), rfl⟩
theorem winBackwards (s d t : Int) (w : World) : Calls Try.prog 19 #[.int .i64 s, .int .i64 d, .int .i64 t] w
    fun e w' => e = .returned (.func (.func 24) #[] #[.pointer (some ⟨w.heap.size, 0, none⟩), .pointer (some ⟨w.heap.size + 1, 0, none⟩), .pointer (some ⟨w.heap.size + 2, 0, none⟩)]) ∧
      w' = ((w.alloc (.cells #[.int .i64 s] 2)).alloc (.cells #[.int .i64 d] 2)).alloc (.cells #[.int .i64 t] 2) := by
  go_enter Try.func19, Try.ntmps19
  go_wp2
  go_ret
  exact ⟨rfl, rfl⟩
theorem winUntil (g : Nat) (lb : Array Value) (m : Int) (w : World) : Calls Try.prog 21 #[.func (.func g) #[] lb, .int .i64 m] w
    fun e w' => e = .returned (.func (.func 29) #[] #[.pointer (some ⟨w.heap.size, 0, none⟩), .pointer (some ⟨w.heap.size + 1, 0, none⟩)]) ∧
      w' = (w.alloc (.cells #[.func (.func g) #[] lb] 37)).alloc (.cells #[.int .i64 m] 2) := by
  go_enter Try.func21, Try.ntmps21
  go_wp2
  go_ret
  exact ⟨rfl, rfl⟩
theorem lawAlive (w : World) : Calls Try.prog 9 #[] w fun e w' => e = .returned (.bool true) ∧ w = w' := by
  go_enter Try.func9, Try.ntmps9
  go_wp2_with (go_at_call 10; refine (winRight _ _ _).mono ?_; rintro e w' ⟨rfl, rfl⟩)
  go_ret
  exact ⟨by simp [Win.ok], rfl⟩
end Go.Proofs.Ytehnhhkhnedgeaa
