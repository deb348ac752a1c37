/- Fold, FoldJoin, put together. -/
import Derived.Test.YtipmphkmeiogoaaZ6
import Derived.Test.YtipmphkmeiogoaaZ7
import Derived.Test.YtipmphkmeiogoaaChecked
/- Contracts of package fold: what is no loop. -/
namespace Go.Proofs.Ytipmphkmeiogoaa
open Go.RowKit
open Acm
set_option linter.unusedVariables false
set_option maxRecDepth 8000
/-- Hands back an accumulator; what was stays. -/
def GivesAc (x : Ac) (w : World) (e : Ending) (w' : World) : Prop := e = .returned (acV x) ∧ Below w.heap.size w w'
theorem foldRight (k : Int) (w : World) : Calls Try.prog 53 #[.int .i64 k] w fun e w' => e = .returned (.bool (isK k)) ∧ w = w' := by
  by_cases h1 : 1 ≤ k
  · by_cases h2 : k ≤ 5
    · have hc := Lib.hid (show isK k = true from decide_eq_true ⟨h1, h2⟩)
      go_enter Try.func53, Try.ntmps53
      go_wp2
      go_ret
      exact ⟨by rw [hc.out]; rfl, rfl⟩
    · have hc := Lib.hid (show isK k = false from decide_eq_false fun h => h2 h.2)
      go_enter Try.func53, Try.ntmps53
      go_wp2
      go_ret
      exact ⟨by rw [hc.out]; rfl, rfl⟩
  · have hc := Lib.hid (show isK k = false from decide_eq_false fun h => h1 h.1)
    go_enter Try.func53, Try.ntmps53
    go_wp2
    go_ret
    exact ⟨by rw [hc.out]; rfl, rfl⟩
abbrev fnU : Value := .func (.func 100) #[] #[]
abbrev fnP : Value := .func (.func 101) #[] #[]
abbrev fnL : Value := .func (.func 102) #[] #[]
abbrev fnG : Value := .func (.func 103) #[] #[]
theorem ofU (a b : Int) (w : World) : Calls Try.prog 88 #[fnU, .int .i64 a, .int .i64 b] w fun e w' => e = .returned (.int .i64 0) ∧ w = w' := by
  go_enter Try.func88, Try.ntmps88
  go_wp2
  go_ret
  exact ⟨rfl, rfl⟩
theorem ofP (a b : Int) (w : World) : Calls Try.prog 88 #[fnP, .int .i64 a, .int .i64 b] w fun e w' => e = .returned (.int .i64 (wr (a + b))) ∧ w = w' := by
  have hc := Lib.hid (show wr (a + b) = wrap64 (a + b) from rfl)
  go_enter Try.func88, Try.ntmps88
  go_wp2
  go_ret
  exact ⟨by rw [hc.out]; rfl, rfl⟩
theorem ofL (a b : Int) (w : World) : Calls Try.prog 88 #[fnL, .int .i64 a, .int .i64 b] w fun e w' => e = .returned (.int .i64 (lo a b)) ∧ w = w' := by
  by_cases h : b < a
  all_goals
    have hc := Lib.hid (show lo a b = _ from by unfold lo; first | exact if_pos h | exact if_neg h)
    go_enter Try.func88, Try.ntmps88
    go_wp2
    go_ret
    exact ⟨by rw [hc.out]; rfl, rfl⟩
theorem ofG (a b : Int) (w : World) : Calls Try.prog 88 #[fnG, .int .i64 a, .int .i64 b] w fun e w' => e = .returned (.int .i64 (hi a b)) ∧ w = w' := by
  by_cases h : a < b
  all_goals
    have hc := Lib.hid (show hi a b = _ from by unfold hi; first | exact if_pos h | exact if_neg h)
    go_enter Try.func88, Try.ntmps88
    go_wp2
    go_ret
    exact ⟨by rw [hc.out]; rfl, rfl⟩
abbrev combA (k : Int) : Value := if k = 1 then fnU else if k = 2 then fnP else if k = 3 then fnL else if k = 4 then fnG else fnL
abbrev combB (k : Int) : Value := if k = 5 then fnG else fnU
theorem combos {k : Int} (h : k = 1 ∨ k = 2 ∨ k = 3 ∨ k = 4 ∨ k = 5) (w : World) :
    Calls Try.prog 87 #[.int .i64 k] w fun e w' => e = .returned (.tuple #[combA k, combB k]) ∧ w = w' := by
  rcases h with rfl | rfl | rfl | rfl | rfl
  all_goals
    go_enter Try.func87, Try.ntmps87
    go_wp2
    go_ret2
    exact ⟨rfl, rfl⟩
theorem foldVal (k : Int) (x : Ac) (w : World) : Calls Try.prog 54 #[.int .i64 k, acV x] w fun e w' => e = .returned (.int .i64 (val k x)) ∧ w' = w.alloc (.cells (acC x) 77) := by
  by_cases h0 : x.n = 0
  · have hb := eq_b h0
    have hc := Lib.hid (show val k x = 0 from if_pos h0)
    clear h0
    go_enter Try.func54, Try.ntmps54
    go_wp2
    go_ret
    exact ⟨by rw [hc.out]; rfl, rfl⟩
  · have hb := ne_b h0
    by_cases h1 : k = 1
    · subst h1
      have hc := Lib.hid (show val 1 x = x.n from by unfold val; rw [if_neg h0]; rfl)
      clear h0
      go_enter Try.func54, Try.ntmps54
      go_wp2
      go_ret
      exact ⟨by rw [hc.out]; rfl, rfl⟩
    · by_cases h2 : k = 2
      · subst h2
        have hc := Lib.hid (show val 2 x = x.a from by unfold val; rw [if_neg h0]; rfl)
        clear h0
        go_enter Try.func54, Try.ntmps54
        go_wp2
        go_ret
        exact ⟨by rw [hc.out]; rfl, rfl⟩
      · by_cases h3 : k = 3
        · subst h3
          have hc := Lib.hid (show val 3 x = x.a from by unfold val; rw [if_neg h0]; rfl)
          clear h0
          go_enter Try.func54, Try.ntmps54
          go_wp2
          go_ret
          exact ⟨by rw [hc.out]; rfl, rfl⟩
        · by_cases h4 : k = 4
          · subst h4
            have hc := Lib.hid (show val 4 x = x.a from by unfold val; rw [if_neg h0]; rfl)
            clear h0
            go_enter Try.func54, Try.ntmps54
            go_wp2
            go_ret
            exact ⟨by rw [hc.out]; rfl, rfl⟩
          · by_cases h5 : k = 5
            · subst h5
              have hc := Lib.hid (show val 5 x = wrap64 (x.b - x.a) from by unfold val; rw [if_neg h0]; rfl)
              clear h0
              go_enter Try.func54, Try.ntmps54
              go_wp2
              go_ret
              exact ⟨by rw [hc.out]; rfl, rfl⟩
            · have hc := Lib.hid (show val k x = 0 from by unfold val; rw [if_neg h0, if_neg h1, if_neg (by omega), if_neg h5])
              have e1 := ne_b h1
              have e2 := ne_b h2
              have e3 := ne_b h3
              have e4 := ne_b h4
              have e5 := ne_b h5
              clear h0 h1 h2 h3 h4 h5
              go_enter Try.func54, Try.ntmps54
              go_wp2
              go_ret
              exact ⟨by rw [hc.out]; rfl, rfl⟩
theorem refVal (k : Int) (x : Ac) (w : World) : Calls Try.prog 62 #[.int .i64 k, acV x] w fun e w' => e = .returned (.int .i64 (val k x)) ∧ w' = w.alloc (.cells (acC x) 77) := by
  by_cases h0 : x.n = 0
  · have hb := eq_b h0
    have hc := Lib.hid (show val k x = 0 from if_pos h0)
    clear h0
    go_enter Try.func62, Try.ntmps62
    go_wp2
    go_ret
    exact ⟨by rw [hc.out]; rfl, rfl⟩
  · have hb := ne_b h0
    by_cases h1 : k = 1
    · subst h1
      have hc := Lib.hid (show val 1 x = x.n from by unfold val; rw [if_neg h0]; rfl)
      clear h0
      go_enter Try.func62, Try.ntmps62
      go_wp2
      go_ret
      exact ⟨by rw [hc.out]; rfl, rfl⟩
    · by_cases h2 : k = 2
      · subst h2
        have hc := Lib.hid (show val 2 x = x.a from by unfold val; rw [if_neg h0]; rfl)
        clear h0
        go_enter Try.func62, Try.ntmps62
        go_wp2
        go_ret
        exact ⟨by rw [hc.out]; rfl, rfl⟩
      · by_cases h3 : k = 3
        · subst h3
          have hc := Lib.hid (show val 3 x = x.a from by unfold val; rw [if_neg h0]; rfl)
          clear h0
          go_enter Try.func62, Try.ntmps62
          go_wp2
          go_ret
          exact ⟨by rw [hc.out]; rfl, rfl⟩
        · by_cases h4 : k = 4
          · subst h4
            have hc := Lib.hid (show val 4 x = x.a from by unfold val; rw [if_neg h0]; rfl)
            clear h0
            go_enter Try.func62, Try.ntmps62
            go_wp2
            go_ret
            exact ⟨by rw [hc.out]; rfl, rfl⟩
          · by_cases h5 : k = 5
            · subst h5
              have hc := Lib.hid (show val 5 x = wrap64 (x.b - x.a) from by unfold val; rw [if_neg h0]; rfl)
              clear h0
              go_enter Try.func62, Try.ntmps62
              go_wp2
              go_ret
              exact ⟨by rw [hc.out]; rfl, rfl⟩
            · have hc := Lib.hid (show val k x = 0 from by unfold val; rw [if_neg h0, if_neg h1, if_neg (by omega), if_neg h5])
              have e1 := ne_b h1
              have e2 := ne_b h2
              have e3 := ne_b h3
              have e4 := ne_b h4
              have e5 := ne_b h5
              clear h0 h1 h2 h3 h4 h5
              go_enter Try.func62, Try.ntmps62
              go_wp2
              go_ret
              exact ⟨by rw [hc.out]; rfl, rfl⟩
theorem foldOne (k v : Int) (w : World) : Calls Try.prog 91 #[.int .i64 k, .int .i64 v] w (GivesAc (one k v) w) := by
  by_cases h1 : k = 1
  · subst h1
    rw [show one 1 v = ⟨1, 0, 0⟩ from rfl]
    go_enter Try.func91, Try.ntmps91
    go_wp2
    exact bodyPost_ret (v := acV ⟨1, 0, 0⟩) (by simp [results, Try.results91, go_sem]) rfl ⟨rfl, (Below.refl _ _).alloc (Nat.le_refl _) _⟩
  · by_cases h2 : k = 2
    · subst h2
      rw [show one 2 v = ⟨1, v, 0⟩ from rfl]
      go_enter Try.func91, Try.ntmps91
      go_wp2
      exact bodyPost_ret (v := acV ⟨1, v, 0⟩) (by simp [results, Try.results91, go_sem]) rfl ⟨rfl, (Below.refl _ _).alloc (Nat.le_refl _) _⟩
    · by_cases h3 : k = 3
      · subst h3
        rw [show one 3 v = ⟨1, v, 0⟩ from rfl]
        go_enter Try.func91, Try.ntmps91
        go_wp2
        exact bodyPost_ret (v := acV ⟨1, v, 0⟩) (by simp [results, Try.results91, go_sem]) rfl ⟨rfl, (Below.refl _ _).alloc (Nat.le_refl _) _⟩
      · by_cases h4 : k = 4
        · subst h4
          rw [show one 4 v = ⟨1, v, 0⟩ from rfl]
          go_enter Try.func91, Try.ntmps91
          go_wp2
          exact bodyPost_ret (v := acV ⟨1, v, 0⟩) (by simp [results, Try.results91, go_sem]) rfl ⟨rfl, (Below.refl _ _).alloc (Nat.le_refl _) _⟩
        · by_cases h5 : k = 5
          · subst h5
            rw [show one 5 v = ⟨1, v, v⟩ from rfl]
            go_enter Try.func91, Try.ntmps91
            go_wp2
            exact bodyPost_ret (v := acV ⟨1, v, v⟩) (by simp [results, Try.results91, go_sem]) rfl ⟨rfl, (Below.refl _ _).alloc (Nat.le_refl _) _⟩
          · rw [show one k v = zero from by unfold one; rw [if_neg h1, if_neg (by omega), if_neg h5]]
            have e1 := ne_b h1
            have e2 := ne_b h2
            have e3 := ne_b h3
            have e4 := ne_b h4
            have e5 := ne_b h5
            clear h1 h2 h3 h4 h5
            go_enter Try.func91, Try.ntmps91
            go_wp2
            exact bodyPost_ret (v := acV zero) (by simp [results, Try.results91, go_sem]) rfl ⟨rfl, (Below.refl _ _).alloc (Nat.le_refl _) _⟩
end Go.Proofs.Ytipmphkmeiogoaa
/- Contracts of Join, in fold and in its reference. -/
namespace Go.Proofs.Ytipmphkmeiogoaa
open Go.RowKit
open Acm
set_option linter.unusedVariables false
set_option maxRecDepth 8000
theorem foldJoin_bad {k : Int} (h : ¬ (1 ≤ k ∧ k ≤ 5)) (x y : Ac) (w : World) : Calls Try.prog 73 #[.int .i64 k, acV x, acV y] w (GivesAc zero w) := by
  have hk := Lib.hid (show isK k = false from decide_eq_false h)
  clear h
  go_enter Try.func73, Try.ntmps73
  go_wp2_with fail
  refine (foldRight _ _).mono ?_
  rw [hk.out]
  rintro e w' ⟨rfl, rfl⟩
  go_wp2_with fail
  exact bodyPost_ret (v := acV zero) (by simp [results, Try.results73, go_sem]) rfl ⟨rfl, (((Below.refl _ _).alloc (Nat.le_refl _) _).alloc (by simp) _).alloc (by simp; omega) _⟩
theorem foldJoin_l {k : Int} (h : 1 ≤ k ∧ k ≤ 5) (x y : Ac) (hx : x.n = 0) (w : World) : Calls Try.prog 73 #[.int .i64 k, acV x, acV y] w (GivesAc y w) := by
  have hk := Lib.hid (show isK k = true from decide_eq_true h)
  have hb := eq_b hx
  clear h hx
  go_enter Try.func73, Try.ntmps73
  go_wp2_with fail
  refine (foldRight _ _).mono ?_
  rw [hk.out]
  rintro e w' ⟨rfl, rfl⟩
  go_wp2_with fail
  exact bodyPost_ret (v := acV y) (by simp [results, Try.results73, go_sem]) rfl ⟨rfl, (((Below.refl _ _).alloc (Nat.le_refl _) _).alloc (by simp) _).alloc (by simp; omega) _⟩
theorem foldJoin_r {k : Int} (h : 1 ≤ k ∧ k ≤ 5) (x y : Ac) (hx : x.n ≠ 0) (hy : y.n = 0) (w : World) : Calls Try.prog 73 #[.int .i64 k, acV x, acV y] w (GivesAc x w) := by
  have hk := Lib.hid (show isK k = true from decide_eq_true h)
  have hb := ne_b hx
  have hc := eq_b hy
  clear h hx hy
  go_enter Try.func73, Try.ntmps73
  go_wp2_with fail
  refine (foldRight _ _).mono ?_
  rw [hk.out]
  rintro e w' ⟨rfl, rfl⟩
  go_wp2_with fail
  exact bodyPost_ret (v := acV x) (by simp [results, Try.results73, go_sem]) rfl ⟨rfl, (((Below.refl _ _).alloc (Nat.le_refl _) _).alloc (by simp) _).alloc (by simp; omega) _⟩
theorem fj_ret {w wF : World} {R : Nat} {x : Ac} {act : Act} (ht : act.tmps.getD 6 undef = .pointer (some ⟨R, 0, none⟩)) (hd : act.defers = []) (hL : Lies R (acC x) 77 wF) (hB : Below w.heap.size w wF) :
    bodyPost Try.prog Try.f73 (GivesAc x w) .ret act wF := by
  have c0 := hL.cell (j := 0) rfl
  have c1 := hL.cell (j := 1) rfl
  have c2 := hL.cell (j := 2) rfl
  refine bodyPost_ret (v := acV x) ?_ hd ⟨rfl, hB⟩
  have ht2 : act.tmps[6]?.getD undef = .pointer (some ⟨R, 0, none⟩) := by simpa using ht
  simp [results, Try.results73, go_sem, ht2, c0, c1, c2]
theorem foldJoin_1 (x y : Ac) (hx : x.n ≠ 0) (hy : y.n ≠ 0) (w : World) : Calls Try.prog 73 #[.int .i64 1, acV x, acV y] w (GivesAc (both 1 x y) w) := by
  have hk := Lib.hid (show isK 1 = true from rfl)
  have hb := ne_b hx
  have hc := ne_b hy
  clear hx hy
  go_enter Try.func73, Try.ntmps73
  go_wp2_with fail
  refine (foldRight _ _).mono ?_
  rw [hk.out]
  rintro e w' ⟨rfl, rfl⟩
  go_wp2_with fail
  refine (combos (by decide) _).mono ?_
  rintro e w' ⟨rfl, rfl⟩
  go_wp2_with fail
  have x1 := Lib.hid ((((Lies.new w (acC x) 77).al (o := .cells (acC y) 77)).al (o := .cells (acC zero) 77)).drew)
  have y1 := Lib.hid (((Lies.new (w.alloc (.cells (acC x) 77)) (acC y) 77).al (o := .cells (acC zero) 77)).drew)
  have z1 := Lib.hid ((Lies.new ((w.alloc (.cells (acC x) 77)).alloc (.cells (acC y) 77)) (acC zero) 77).drew)
  have B1 := Lib.hid (below_drewOf ((((Below.refl w.heap.size w).alloc (Nat.le_refl _) (.cells (acC x) 77)).alloc (by simp) (.cells (acC y) 77)).alloc (by simp; omega) (.cells (acC zero) 77)))
  refine still_tail 18 (by kernel_rfl) (by kernel_rfl) ?_
  intro w1 hw1
  simp only [List.take_succ_cons, List.take_zero, List.drop_succ_cons, List.drop_zero]
  rw [hw1] at x1 y1 z1 B1
  clear hw1
  have c0 := x1.out.cell (j := 0) rfl; have c1 := x1.out.cell (j := 1) rfl; have c2 := x1.out.cell (j := 2) rfl
  have d0 := y1.out.cell (j := 0) rfl; have d1 := y1.out.cell (j := 1) rfl; have d2 := y1.out.cell (j := 2) rfl
  simp only [World.size_alloc] at d0 d1 d2
  repeat still_step
  still_call (still_of (ofU _ _ _))
  repeat still_step
  still_call (still_of (ofU _ _ _))
  repeat still_step
  refine wpStill_nil ?_
  have z0 := z1.out.cell (j := 0) rfl; have z01 := z1.out.cell (j := 1) rfl; have z2 := z1.out.cell (j := 2) rfl
  have f0 := z1.out.free 0; have f1 := z1.out.free 1; have f2 := z1.out.free 2
  simp only [World.size_alloc] at z0 z01 z2 f0 f1 f2
  go_wp2_with fail
  exact fj_ret (R := w.heap.size + 1 + 1) (x := both 1 x y) rfl rfl ((by simpa only [World.size_alloc] using z1.out : Lies (w.heap.size + 1 + 1) (acC zero) 77 w1).set3 _ _ _) (below_set3 B1.out (by omega) _ _ _)
theorem foldJoin_2 (x y : Ac) (hx : x.n ≠ 0) (hy : y.n ≠ 0) (w : World) : Calls Try.prog 73 #[.int .i64 2, acV x, acV y] w (GivesAc (both 2 x y) w) := by
  have hk := Lib.hid (show isK 2 = true from rfl)
  have hb := ne_b hx
  have hc := ne_b hy
  clear hx hy
  go_enter Try.func73, Try.ntmps73
  go_wp2_with fail
  refine (foldRight _ _).mono ?_
  rw [hk.out]
  rintro e w' ⟨rfl, rfl⟩
  go_wp2_with fail
  refine (combos (by decide) _).mono ?_
  rintro e w' ⟨rfl, rfl⟩
  go_wp2_with fail
  have x1 := Lib.hid ((((Lies.new w (acC x) 77).al (o := .cells (acC y) 77)).al (o := .cells (acC zero) 77)).drew)
  have y1 := Lib.hid (((Lies.new (w.alloc (.cells (acC x) 77)) (acC y) 77).al (o := .cells (acC zero) 77)).drew)
  have z1 := Lib.hid ((Lies.new ((w.alloc (.cells (acC x) 77)).alloc (.cells (acC y) 77)) (acC zero) 77).drew)
  have B1 := Lib.hid (below_drewOf ((((Below.refl w.heap.size w).alloc (Nat.le_refl _) (.cells (acC x) 77)).alloc (by simp) (.cells (acC y) 77)).alloc (by simp; omega) (.cells (acC zero) 77)))
  refine still_tail 18 (by kernel_rfl) (by kernel_rfl) ?_
  intro w1 hw1
  simp only [List.take_succ_cons, List.take_zero, List.drop_succ_cons, List.drop_zero]
  rw [hw1] at x1 y1 z1 B1
  clear hw1
  have c0 := x1.out.cell (j := 0) rfl; have c1 := x1.out.cell (j := 1) rfl; have c2 := x1.out.cell (j := 2) rfl
  have d0 := y1.out.cell (j := 0) rfl; have d1 := y1.out.cell (j := 1) rfl; have d2 := y1.out.cell (j := 2) rfl
  simp only [World.size_alloc] at d0 d1 d2
  repeat still_step
  still_call (still_of (ofP _ _ _))
  repeat still_step
  still_call (still_of (ofU _ _ _))
  repeat still_step
  refine wpStill_nil ?_
  have z0 := z1.out.cell (j := 0) rfl; have z01 := z1.out.cell (j := 1) rfl; have z2 := z1.out.cell (j := 2) rfl
  have f0 := z1.out.free 0; have f1 := z1.out.free 1; have f2 := z1.out.free 2
  simp only [World.size_alloc] at z0 z01 z2 f0 f1 f2
  go_wp2_with fail
  exact fj_ret (R := w.heap.size + 1 + 1) (x := both 2 x y) rfl rfl ((by simpa only [World.size_alloc] using z1.out : Lies (w.heap.size + 1 + 1) (acC zero) 77 w1).set3 _ _ _) (below_set3 B1.out (by omega) _ _ _)
theorem foldJoin_3 (x y : Ac) (hx : x.n ≠ 0) (hy : y.n ≠ 0) (w : World) : Calls Try.prog 73 #[.int .i64 3, acV x, acV y] w (GivesAc (both 3 x y) w) := by
  have hk := Lib.hid (show isK 3 = true from rfl)
  have hb := ne_b hx
  have hc := ne_b hy
  clear hx hy
  go_enter Try.func73, Try.ntmps73
  go_wp2_with fail
  refine (foldRight _ _).mono ?_
  rw [hk.out]
  rintro e w' ⟨rfl, rfl⟩
  go_wp2_with fail
  refine (combos (by decide) _).mono ?_
  rintro e w' ⟨rfl, rfl⟩
  go_wp2_with fail
  have x1 := Lib.hid ((((Lies.new w (acC x) 77).al (o := .cells (acC y) 77)).al (o := .cells (acC zero) 77)).drew)
  have y1 := Lib.hid (((Lies.new (w.alloc (.cells (acC x) 77)) (acC y) 77).al (o := .cells (acC zero) 77)).drew)
  have z1 := Lib.hid ((Lies.new ((w.alloc (.cells (acC x) 77)).alloc (.cells (acC y) 77)) (acC zero) 77).drew)
  have B1 := Lib.hid (below_drewOf ((((Below.refl w.heap.size w).alloc (Nat.le_refl _) (.cells (acC x) 77)).alloc (by simp) (.cells (acC y) 77)).alloc (by simp; omega) (.cells (acC zero) 77)))
  refine still_tail 18 (by kernel_rfl) (by kernel_rfl) ?_
  intro w1 hw1
  simp only [List.take_succ_cons, List.take_zero, List.drop_succ_cons, List.drop_zero]
  rw [hw1] at x1 y1 z1 B1
  clear hw1
  have c0 := x1.out.cell (j := 0) rfl; have c1 := x1.out.cell (j := 1) rfl; have c2 := x1.out.cell (j := 2) rfl
  have d0 := y1.out.cell (j := 0) rfl; have d1 := y1.out.cell (j := 1) rfl; have d2 := y1.out.cell (j := 2) rfl
  simp only [World.size_alloc] at d0 d1 d2
  repeat still_step
  still_call (still_of (ofL _ _ _))
  repeat still_step
  still_call (still_of (ofU _ _ _))
  repeat still_step
  refine wpStill_nil ?_
  have z0 := z1.out.cell (j := 0) rfl; have z01 := z1.out.cell (j := 1) rfl; have z2 := z1.out.cell (j := 2) rfl
  have f0 := z1.out.free 0; have f1 := z1.out.free 1; have f2 := z1.out.free 2
  simp only [World.size_alloc] at z0 z01 z2 f0 f1 f2
  go_wp2_with fail
  exact fj_ret (R := w.heap.size + 1 + 1) (x := both 3 x y) rfl rfl ((by simpa only [World.size_alloc] using z1.out : Lies (w.heap.size + 1 + 1) (acC zero) 77 w1).set3 _ _ _) (below_set3 B1.out (by omega) _ _ _)
theorem foldJoin_4 (x y : Ac) (hx : x.n ≠ 0) (hy : y.n ≠ 0) (w : World) : Calls Try.prog 73 #[.int .i64 4, acV x, acV y] w (GivesAc (both 4 x y) w) := by
  have hk := Lib.hid (show isK 4 = true from rfl)
  have hb := ne_b hx
  have hc := ne_b hy
  clear hx hy
  go_enter Try.func73, Try.ntmps73
  go_wp2_with fail
  refine (foldRight _ _).mono ?_
  rw [hk.out]
  rintro e w' ⟨rfl, rfl⟩
  go_wp2_with fail
  refine (combos (by decide) _).mono ?_
  rintro e w' ⟨rfl, rfl⟩
  go_wp2_with fail
  have x1 := Lib.hid ((((Lies.new w (acC x) 77).al (o := .cells (acC y) 77)).al (o := .cells (acC zero) 77)).drew)
  have y1 := Lib.hid (((Lies.new (w.alloc (.cells (acC x) 77)) (acC y) 77).al (o := .cells (acC zero) 77)).drew)
  have z1 := Lib.hid ((Lies.new ((w.alloc (.cells (acC x) 77)).alloc (.cells (acC y) 77)) (acC zero) 77).drew)
  have B1 := Lib.hid (below_drewOf ((((Below.refl w.heap.size w).alloc (Nat.le_refl _) (.cells (acC x) 77)).alloc (by simp) (.cells (acC y) 77)).alloc (by simp; omega) (.cells (acC zero) 77)))
  refine still_tail 18 (by kernel_rfl) (by kernel_rfl) ?_
  intro w1 hw1
  simp only [List.take_succ_cons, List.take_zero, List.drop_succ_cons, List.drop_zero]
  rw [hw1] at x1 y1 z1 B1
  clear hw1
  have c0 := x1.out.cell (j := 0) rfl; have c1 := x1.out.cell (j := 1) rfl; have c2 := x1.out.cell (j := 2) rfl
  have d0 := y1.out.cell (j := 0) rfl; have d1 := y1.out.cell (j := 1) rfl; have d2 := y1.out.cell (j := 2) rfl
  simp only [World.size_alloc] at d0 d1 d2
  repeat still_step
  still_call (still_of (ofG _ _ _))
  repeat still_step
  still_call (still_of (ofU _ _ _))
  repeat still_step
  refine wpStill_nil ?_
  have z0 := z1.out.cell (j := 0) rfl; have z01 := z1.out.cell (j := 1) rfl; have z2 := z1.out.cell (j := 2) rfl
  have f0 := z1.out.free 0; have f1 := z1.out.free 1; have f2 := z1.out.free 2
  simp only [World.size_alloc] at z0 z01 z2 f0 f1 f2
  go_wp2_with fail
  exact fj_ret (R := w.heap.size + 1 + 1) (x := both 4 x y) rfl rfl ((by simpa only [World.size_alloc] using z1.out : Lies (w.heap.size + 1 + 1) (acC zero) 77 w1).set3 _ _ _) (below_set3 B1.out (by omega) _ _ _)
theorem foldJoin_5 (x y : Ac) (hx : x.n ≠ 0) (hy : y.n ≠ 0) (w : World) : Calls Try.prog 73 #[.int .i64 5, acV x, acV y] w (GivesAc (both 5 x y) w) := by
  have hk := Lib.hid (show isK 5 = true from rfl)
  have hb := ne_b hx
  have hc := ne_b hy
  clear hx hy
  go_enter Try.func73, Try.ntmps73
  go_wp2_with fail
  refine (foldRight _ _).mono ?_
  rw [hk.out]
  rintro e w' ⟨rfl, rfl⟩
  go_wp2_with fail
  refine (combos (by decide) _).mono ?_
  rintro e w' ⟨rfl, rfl⟩
  go_wp2_with fail
  have x1 := Lib.hid ((((Lies.new w (acC x) 77).al (o := .cells (acC y) 77)).al (o := .cells (acC zero) 77)).drew)
  have y1 := Lib.hid (((Lies.new (w.alloc (.cells (acC x) 77)) (acC y) 77).al (o := .cells (acC zero) 77)).drew)
  have z1 := Lib.hid ((Lies.new ((w.alloc (.cells (acC x) 77)).alloc (.cells (acC y) 77)) (acC zero) 77).drew)
  have B1 := Lib.hid (below_drewOf ((((Below.refl w.heap.size w).alloc (Nat.le_refl _) (.cells (acC x) 77)).alloc (by simp) (.cells (acC y) 77)).alloc (by simp; omega) (.cells (acC zero) 77)))
  refine still_tail 18 (by kernel_rfl) (by kernel_rfl) ?_
  intro w1 hw1
  simp only [List.take_succ_cons, List.take_zero, List.drop_succ_cons, List.drop_zero]
  rw [hw1] at x1 y1 z1 B1
  clear hw1
  have c0 := x1.out.cell (j := 0) rfl; have c1 := x1.out.cell (j := 1) rfl; have c2 := x1.out.cell (j := 2) rfl
  have d0 := y1.out.cell (j := 0) rfl; have d1 := y1.out.cell (j := 1) rfl; have d2 := y1.out.cell (j := 2) rfl
  simp only [World.size_alloc] at d0 d1 d2
  repeat still_step
  still_call (still_of (ofL _ _ _))
  repeat still_step
  still_call (still_of (ofG _ _ _))
  repeat still_step
  refine wpStill_nil ?_
  have z0 := z1.out.cell (j := 0) rfl; have z01 := z1.out.cell (j := 1) rfl; have z2 := z1.out.cell (j := 2) rfl
  have f0 := z1.out.free 0; have f1 := z1.out.free 1; have f2 := z1.out.free 2
  simp only [World.size_alloc] at z0 z01 z2 f0 f1 f2
  go_wp2_with fail
  exact fj_ret (R := w.heap.size + 1 + 1) (x := both 5 x y) rfl rfl ((by simpa only [World.size_alloc] using z1.out : Lies (w.heap.size + 1 + 1) (acC zero) 77 w1).set3 _ _ _) (below_set3 B1.out (by omega) _ _ _)
theorem foldJoin (k : Int) (x y : Ac) (w : World) : Calls Try.prog 73 #[.int .i64 k, acV x, acV y] w (GivesAc (join k x y) w) := by
  by_cases h : 1 ≤ k ∧ k ≤ 5
  · by_cases hx : x.n = 0
    · rw [join_l h hx]; exact foldJoin_l h x y hx w
    · by_cases hy : y.n = 0
      · rw [join_r h hx hy]; exact foldJoin_r h x y hx hy w
      · rw [join_b h hx hy]
        rcases kinds h with rfl | rfl | rfl | rfl | rfl
        · exact foldJoin_1 x y hx hy w
        · exact foldJoin_2 x y hx hy w
        · exact foldJoin_3 x y hx hy w
        · exact foldJoin_4 x y hx hy w
        · exact foldJoin_5 x y hx hy w
  · rw [join_bad h]; exact foldJoin_bad h x y w
end Go.Proofs.Ytipmphkmeiogoaa
