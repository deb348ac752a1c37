/- Contracts of package fold: what is no loop. -/
import Derived.Test.YtklpfifellghlaaFoldMath
import Derived.Test.YtklpfifellghlaaStill
import Derived.Test.YtklpfifellghlaaChecked
namespace Go.Proofs.Ytklpfifellghlaa
open Go.RowKit
open Acm
set_option linter.unusedVariables false
/-- Hands back an accumulator; what was stays. -/
def GivesAc (x : Ac) (w : World) (e : Ending) (w' : World) : Prop := e = .returned (acV x) ∧ Below w.heap.size w w'
theorem foldRight (k : Int) (w : World) : Calls Try.prog 36 #[.int .i64 k] w fun e w' => e = .returned (.bool (isK k)) ∧ w = w' := by
  by_cases h1 : 1 ≤ k
  · by_cases h2 : k ≤ 5
    · have hc := Lib.hid (show isK k = true from decide_eq_true ⟨h1, h2⟩)
      go_enter Try.func36, Try.ntmps36
      go_wp2
      go_ret
      exact ⟨by rw [hc.out]; rfl, rfl⟩
    · have hc := Lib.hid (show isK k = false from decide_eq_false fun h => h2 h.2)
      go_enter Try.func36, Try.ntmps36
      go_wp2
      go_ret
      exact ⟨by rw [hc.out]; rfl, rfl⟩
  · have hc := Lib.hid (show isK k = false from decide_eq_false fun h => h1 h.1)
    go_enter Try.func36, Try.ntmps36
    go_wp2
    go_ret
    exact ⟨by rw [hc.out]; rfl, rfl⟩
abbrev fnU : Value := .func (.func 54) #[] #[]
abbrev fnP : Value := .func (.func 55) #[] #[]
abbrev fnL : Value := .func (.func 56) #[] #[]
abbrev fnG : Value := .func (.func 57) #[] #[]
theorem ofU (a b : Int) (w : World) : Calls Try.prog 49 #[fnU, .int .i64 a, .int .i64 b] w fun e w' => e = .returned (.int .i64 0) ∧ w = w' := by
  go_enter Try.func49, Try.ntmps49
  go_wp2
  go_ret
  exact ⟨rfl, rfl⟩
theorem ofP (a b : Int) (w : World) : Calls Try.prog 49 #[fnP, .int .i64 a, .int .i64 b] w fun e w' => e = .returned (.int .i64 (wr (a + b))) ∧ w = w' := by
  have hc := Lib.hid (show wr (a + b) = wrap64 (a + b) from rfl)
  go_enter Try.func49, Try.ntmps49
  go_wp2
  go_ret
  exact ⟨by rw [hc.out]; rfl, rfl⟩
theorem ofL (a b : Int) (w : World) : Calls Try.prog 49 #[fnL, .int .i64 a, .int .i64 b] w fun e w' => e = .returned (.int .i64 (lo a b)) ∧ w = w' := by
  by_cases h : b < a
  all_goals
    have hc := Lib.hid (show lo a b = _ from by unfold lo; first | exact if_pos h | exact if_neg h)
    go_enter Try.func49, Try.ntmps49
    go_wp2
    go_ret
    exact ⟨by rw [hc.out]; rfl, rfl⟩
theorem ofG (a b : Int) (w : World) : Calls Try.prog 49 #[fnG, .int .i64 a, .int .i64 b] w fun e w' => e = .returned (.int .i64 (hi a b)) ∧ w = w' := by
  by_cases h : a < b
  all_goals
    have hc := Lib.hid (show hi a b = _ from by unfold hi; first | exact if_pos h | exact if_neg h)
    go_enter Try.func49, Try.ntmps49
    go_wp2
    go_ret
    exact ⟨by rw [hc.out]; rfl, rfl⟩
abbrev combA (k : Int) : Value := if k = 1 then fnU else if k = 2 then fnP else if k = 3 then fnL else if k = 4 then fnG else fnL
abbrev combB (k : Int) : Value := if k = 5 then fnG else fnU
theorem combos {k : Int} (h : k = 1 ∨ k = 2 ∨ k = 3 ∨ k = 4 ∨ k = 5) (w : World) :
    Calls Try.prog 48 #[.int .i64 k] w fun e w' => e = .returned (.tuple #[combA k, combB k]) ∧ w = w' := by
  rcases h with rfl | rfl | rfl | rfl | rfl
  all_goals
    go_enter Try.func48, Try.ntmps48
    go_wp2
    go_ret2
    exact ⟨rfl, rfl⟩
theorem foldVal (k : Int) (x : Ac) (w : World) : Calls Try.prog 37 #[.int .i64 k, acV x] w fun e w' => e = .returned (.int .i64 (val k x)) ∧ w' = w.alloc (.cells (acC x) 50) := by
  by_cases h0 : x.n = 0
  · have hb := eq_b h0
    have hc := Lib.hid (show val k x = 0 from if_pos h0)
    clear h0
    go_enter Try.func37, Try.ntmps37
    go_wp2
    go_ret
    exact ⟨by rw [hc.out]; rfl, rfl⟩
  · have hb := ne_b h0
    by_cases h1 : k = 1
    · subst h1
      have hc := Lib.hid (show val 1 x = x.n from by unfold val; rw [if_neg h0]; rfl)
      clear h0
      go_enter Try.func37, Try.ntmps37
      go_wp2
      go_ret
      exact ⟨by rw [hc.out]; rfl, rfl⟩
    · by_cases h2 : k = 2
      · subst h2
        have hc := Lib.hid (show val 2 x = x.a from by unfold val; rw [if_neg h0]; rfl)
        clear h0
        go_enter Try.func37, Try.ntmps37
        go_wp2
        go_ret
        exact ⟨by rw [hc.out]; rfl, rfl⟩
      · by_cases h3 : k = 3
        · subst h3
          have hc := Lib.hid (show val 3 x = x.a from by unfold val; rw [if_neg h0]; rfl)
          clear h0
          go_enter Try.func37, Try.ntmps37
          go_wp2
          go_ret
          exact ⟨by rw [hc.out]; rfl, rfl⟩
        · by_cases h4 : k = 4
          · subst h4
            have hc := Lib.hid (show val 4 x = x.a from by unfold val; rw [if_neg h0]; rfl)
            clear h0
            go_enter Try.func37, Try.ntmps37
            go_wp2
            go_ret
            exact ⟨by rw [hc.out]; rfl, rfl⟩
          · by_cases h5 : k = 5
            · subst h5
              have hc := Lib.hid (show val 5 x = wrap64 (x.b - x.a) from by unfold val; rw [if_neg h0]; rfl)
              clear h0
              go_enter Try.func37, Try.ntmps37
              go_wp2
              go_ret
              exact ⟨by rw [hc.out]; rfl, rfl⟩
            · have hc := Lib.hid (show val k x = 0 from by unfold val; rw [if_neg h0, if_neg h1, if_neg (by omega), if_neg h5])
              have e1 := ne_b h1
              have e2 := ne_b h2
              have e3 := ne_b h3
              have e4 := ne_b h4
              have e5 := ne_b h5
              clear h0 h1 h2 h3 h4 h5
              go_enter Try.func37, Try.ntmps37
              go_wp2
              go_ret
              exact ⟨by rw [hc.out]; rfl, rfl⟩
theorem refVal (k : Int) (x : Ac) (w : World) : Calls Try.prog 38 #[.int .i64 k, acV x] w fun e w' => e = .returned (.int .i64 (val k x)) ∧ w' = w.alloc (.cells (acC x) 50) := by
  by_cases h0 : x.n = 0
  · have hb := eq_b h0
    have hc := Lib.hid (show val k x = 0 from if_pos h0)
    clear h0
    go_enter Try.func38, Try.ntmps38
    go_wp2
    go_ret
    exact ⟨by rw [hc.out]; rfl, rfl⟩
  · have hb := ne_b h0
    by_cases h1 : k = 1
    · subst h1
      have hc := Lib.hid (show val 1 x = x.n from by unfold val; rw [if_neg h0]; rfl)
      clear h0
      go_enter Try.func38, Try.ntmps38
      go_wp2
      go_ret
      exact ⟨by rw [hc.out]; rfl, rfl⟩
    · by_cases h2 : k = 2
      · subst h2
        have hc := Lib.hid (show val 2 x = x.a from by unfold val; rw [if_neg h0]; rfl)
        clear h0
        go_enter Try.func38, Try.ntmps38
        go_wp2
        go_ret
        exact ⟨by rw [hc.out]; rfl, rfl⟩
      · by_cases h3 : k = 3
        · subst h3
          have hc := Lib.hid (show val 3 x = x.a from by unfold val; rw [if_neg h0]; rfl)
          clear h0
          go_enter Try.func38, Try.ntmps38
          go_wp2
          go_ret
          exact ⟨by rw [hc.out]; rfl, rfl⟩
        · by_cases h4 : k = 4
          · subst h4
            have hc := Lib.hid (show val 4 x = x.a from by unfold val; rw [if_neg h0]; rfl)
            clear h0
            go_enter Try.func38, Try.ntmps38
            go_wp2
            go_ret
            exact ⟨by rw [hc.out]; rfl, rfl⟩
          · by_cases h5 : k = 5
            · subst h5
              have hc := Lib.hid (show val 5 x = wrap64 (x.b - x.a) from by unfold val; rw [if_neg h0]; rfl)
              clear h0
              go_enter Try.func38, Try.ntmps38
              go_wp2
              go_ret
              exact ⟨by rw [hc.out]; rfl, rfl⟩
            · have hc := Lib.hid (show val k x = 0 from by unfold val; rw [if_neg h0, if_neg h1, if_neg (by omega), if_neg h5])
              have e1 := ne_b h1
              have e2 := ne_b h2
              have e3 := ne_b h3
              have e4 := ne_b h4
              have e5 := ne_b h5
              clear h0 h1 h2 h3 h4 h5
              go_enter Try.func38, Try.ntmps38
              go_wp2
              go_ret
              exact ⟨by rw [hc.out]; rfl, rfl⟩
theorem foldOne (k v : Int) (w : World) : Calls Try.prog 25 #[.int .i64 k, .int .i64 v] w (GivesAc (one k v) w) := by
  by_cases h1 : k = 1
  · subst h1
    rw [show one 1 v = ⟨1, 0, 0⟩ from rfl]
    go_enter Try.func25, Try.ntmps25
    go_wp2
    exact bodyPost_ret (v := acV ⟨1, 0, 0⟩) (by simp [results, Try.results25, go_sem]) rfl ⟨rfl, (Below.refl _ _).alloc (Nat.le_refl _) _⟩
  · by_cases h2 : k = 2
    · subst h2
      rw [show one 2 v = ⟨1, v, 0⟩ from rfl]
      go_enter Try.func25, Try.ntmps25
      go_wp2
      exact bodyPost_ret (v := acV ⟨1, v, 0⟩) (by simp [results, Try.results25, go_sem]) rfl ⟨rfl, (Below.refl _ _).alloc (Nat.le_refl _) _⟩
    · by_cases h3 : k = 3
      · subst h3
        rw [show one 3 v = ⟨1, v, 0⟩ from rfl]
        go_enter Try.func25, Try.ntmps25
        go_wp2
        exact bodyPost_ret (v := acV ⟨1, v, 0⟩) (by simp [results, Try.results25, go_sem]) rfl ⟨rfl, (Below.refl _ _).alloc (Nat.le_refl _) _⟩
      · by_cases h4 : k = 4
        · subst h4
          rw [show one 4 v = ⟨1, v, 0⟩ from rfl]
          go_enter Try.func25, Try.ntmps25
          go_wp2
          exact bodyPost_ret (v := acV ⟨1, v, 0⟩) (by simp [results, Try.results25, go_sem]) rfl ⟨rfl, (Below.refl _ _).alloc (Nat.le_refl _) _⟩
        · by_cases h5 : k = 5
          · subst h5
            rw [show one 5 v = ⟨1, v, v⟩ from rfl]
            go_enter Try.func25, Try.ntmps25
            go_wp2
            exact bodyPost_ret (v := acV ⟨1, v, v⟩) (by simp [results, Try.results25, go_sem]) rfl ⟨rfl, (Below.refl _ _).alloc (Nat.le_refl _) _⟩
          · rw [show one k v = zero from by unfold one; rw [if_neg h1, if_neg (by omega), if_neg h5]]
            have e1 := ne_b h1
            have e2 := ne_b h2
            have e3 := ne_b h3
            have e4 := ne_b h4
            have e5 := ne_b h5
            clear h1 h2 h3 h4 h5
            go_enter Try.func25, Try.ntmps25
            go_wp2
            exact bodyPost_ret (v := acV zero) (by simp [results, Try.results25, go_sem]) rfl ⟨rfl, (Below.refl _ _).alloc (Nat.le_refl _) _⟩
end Go.Proofs.Ytklpfifellghlaa
