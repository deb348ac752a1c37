/- Contracts of Join, in fold and in its reference. -/
import Derived.Test.YtklpfifellghlaaFold
namespace Go.Proofs.Ytklpfifellghlaa
open Go.RowKit
open Acm
set_option linter.unusedVariables false
theorem foldJoin_bad {k : Int} (h : ¬ (1 ≤ k ∧ k ≤ 5)) (x y : Ac) (w : World) : Calls Try.prog 40 #[.int .i64 k, acV x, acV y] w (GivesAc zero w) := by
  have hk := Lib.hid (show isK k = false from decide_eq_false h)
  clear h
  go_enter Try.func40, Try.ntmps40
  go_wp2_with fail
  refine (foldRight _ _).mono ?_
  rw [hk.out]
  rintro e w' ⟨rfl, rfl⟩
  go_wp2_with fail
  exact bodyPost_ret (v := acV zero) (by simp [results, Try.results40, go_sem]) rfl ⟨rfl, (((Below.refl _ _).alloc (Nat.le_refl _) _).alloc (by simp) _).alloc (by simp; omega) _⟩
theorem foldJoin_l {k : Int} (h : 1 ≤ k ∧ k ≤ 5) (x y : Ac) (hx : x.n = 0) (w : World) : Calls Try.prog 40 #[.int .i64 k, acV x, acV y] w (GivesAc y w) := by
  have hk := Lib.hid (show isK k = true from decide_eq_true h)
  have hb := eq_b hx
  clear h hx
  go_enter Try.func40, Try.ntmps40
  go_wp2_with fail
  refine (foldRight _ _).mono ?_
  rw [hk.out]
  rintro e w' ⟨rfl, rfl⟩
  go_wp2_with fail
  exact bodyPost_ret (v := acV y) (by simp [results, Try.results40, go_sem]) rfl ⟨rfl, (((Below.refl _ _).alloc (Nat.le_refl _) _).alloc (by simp) _).alloc (by simp; omega) _⟩
theorem foldJoin_r {k : Int} (h : 1 ≤ k ∧ k ≤ 5) (x y : Ac) (hx : x.n ≠ 0) (hy : y.n = 0) (w : World) : Calls Try.prog 40 #[.int .i64 k, acV x, acV y] w (GivesAc x w) := by
  have hk := Lib.hid (show isK k = true from decide_eq_true h)
  have hb := ne_b hx
  have hc := eq_b hy
  clear h hx hy
  go_enter Try.func40, Try.ntmps40
  go_wp2_with fail
  refine (foldRight _ _).mono ?_
  rw [hk.out]
  rintro e w' ⟨rfl, rfl⟩
  go_wp2_with fail
  exact bodyPost_ret (v := acV x) (by simp [results, Try.results40, go_sem]) rfl ⟨rfl, (((Below.refl _ _).alloc (Nat.le_refl _) _).alloc (by simp) _).alloc (by simp; omega) _⟩
theorem fj_ret {w wF : World} {R : Nat} {x : Ac} {act : Act} (ht : act.tmps.getD 6 undef = .pointer (some ⟨R, 0, none⟩)) (hd : act.defers = []) (hL : Lies R (acC x) 50 wF) (hB : Below w.heap.size w wF) :
    bodyPost Try.prog Try.f40 (GivesAc x w) .ret act wF := by
  have c0 := hL.cell (j := 0) rfl
  have c1 := hL.cell (j := 1) rfl
  have c2 := hL.cell (j := 2) rfl
  refine bodyPost_ret (v := acV x) ?_ hd ⟨rfl, hB⟩
  have ht2 : act.tmps[6]?.getD undef = .pointer (some ⟨R, 0, none⟩) := by simpa using ht
  simp [results, Try.results40, go_sem, ht2, c0, c1, c2]
theorem foldJoin_1 (x y : Ac) (hx : x.n ≠ 0) (hy : y.n ≠ 0) (w : World) : Calls Try.prog 40 #[.int .i64 1, acV x, acV y] w (GivesAc (both 1 x y) w) := by
  have hk := Lib.hid (show isK 1 = true from rfl)
  have hb := ne_b hx
  have hc := ne_b hy
  clear hx hy
  go_enter Try.func40, Try.ntmps40
  go_wp2_with fail
  refine (foldRight _ _).mono ?_
  rw [hk.out]
  rintro e w' ⟨rfl, rfl⟩
  go_wp2_with fail
  refine (combos (by decide) _).mono ?_
  rintro e w' ⟨rfl, rfl⟩
  go_wp2_with fail
  have x1 := Lib.hid ((((Lies.new w (acC x) 50).al (o := .cells (acC y) 50)).al (o := .cells (acC zero) 50)).drew)
  have y1 := Lib.hid (((Lies.new (w.alloc (.cells (acC x) 50)) (acC y) 50).al (o := .cells (acC zero) 50)).drew)
  have z1 := Lib.hid ((Lies.new ((w.alloc (.cells (acC x) 50)).alloc (.cells (acC y) 50)) (acC zero) 50).drew)
  have B1 := Lib.hid (below_drewOf ((((Below.refl w.heap.size w).alloc (Nat.le_refl _) (.cells (acC x) 50)).alloc (by simp) (.cells (acC y) 50)).alloc (by simp; omega) (.cells (acC zero) 50)))
  refine still_tail 18 (by kernel_rfl) (by kernel_rfl) ?_
  intro w1 hw1
  simp only [List.take_succ_cons, List.take_zero, List.drop_succ_cons, List.drop_zero]
  rw [hw1] at x1 y1 z1 B1
  clear hw1
  have c0 := x1.out.cell (j := 0) rfl; have c1 := x1.out.cell (j := 1) rfl; have c2 := x1.out.cell (j := 2) rfl
  have d0 := y1.out.cell (j := 0) rfl; have d1 := y1.out.cell (j := 1) rfl; have d2 := y1.out.cell (j := 2) rfl
  simp only [World.size_alloc] at d0 d1 d2
  repeat still_step
  still_call (still_of (ofU _ _ _))
  repeat still_step
  still_call (still_of (ofU _ _ _))
  repeat still_step
  refine wpStill_nil ?_
  have z0 := z1.out.cell (j := 0) rfl; have z01 := z1.out.cell (j := 1) rfl; have z2 := z1.out.cell (j := 2) rfl
  have f0 := z1.out.free 0; have f1 := z1.out.free 1; have f2 := z1.out.free 2
  simp only [World.size_alloc] at z0 z01 z2 f0 f1 f2
  go_wp2_with fail
  exact fj_ret (R := w.heap.size + 1 + 1) (x := both 1 x y) rfl rfl ((by simpa only [World.size_alloc] using z1.out : Lies (w.heap.size + 1 + 1) (acC zero) 50 w1).set3 _ _ _) (below_set3 B1.out (by omega) _ _ _)
theorem foldJoin_2 (x y : Ac) (hx : x.n ≠ 0) (hy : y.n ≠ 0) (w : World) : Calls Try.prog 40 #[.int .i64 2, acV x, acV y] w (GivesAc (both 2 x y) w) := by
  have hk := Lib.hid (show isK 2 = true from rfl)
  have hb := ne_b hx
  have hc := ne_b hy
  clear hx hy
  go_enter Try.func40, Try.ntmps40
  go_wp2_with fail
  refine (foldRight _ _).mono ?_
  rw [hk.out]
  rintro e w' ⟨rfl, rfl⟩
  go_wp2_with fail
  refine (combos (by decide) _).mono ?_
  rintro e w' ⟨rfl, rfl⟩
  go_wp2_with fail
  have x1 := Lib.hid ((((Lies.new w (acC x) 50).al (o := .cells (acC y) 50)).al (o := .cells (acC zero) 50)).drew)
  have y1 := Lib.hid (((Lies.new (w.alloc (.cells (acC x) 50)) (acC y) 50).al (o := .cells (acC zero) 50)).drew)
  have z1 := Lib.hid ((Lies.new ((w.alloc (.cells (acC x) 50)).alloc (.cells (acC y) 50)) (acC zero) 50).drew)
  have B1 := Lib.hid (below_drewOf ((((Below.refl w.heap.size w).alloc (Nat.le_refl _) (.cells (acC x) 50)).alloc (by simp) (.cells (acC y) 50)).alloc (by simp; omega) (.cells (acC zero) 50)))
  refine still_tail 18 (by kernel_rfl) (by kernel_rfl) ?_
  intro w1 hw1
  simp only [List.take_succ_cons, List.take_zero, List.drop_succ_cons, List.drop_zero]
  rw [hw1] at x1 y1 z1 B1
  clear hw1
  have c0 := x1.out.cell (j := 0) rfl; have c1 := x1.out.cell (j := 1) rfl; have c2 := x1.out.cell (j := 2) rfl
  have d0 := y1.out.cell (j := 0) rfl; have d1 := y1.out.cell (j := 1) rfl; have d2 := y1.out.cell (j := 2) rfl
  simp only [World.size_alloc] at d0 d1 d2
  repeat still_step
  still_call (still_of (ofP _ _ _))
  repeat still_step
  still_call (still_of (ofU _ _ _))
  repeat still_step
  refine wpStill_nil ?_
  have z0 := z1.out.cell (j := 0) rfl; have z01 := z1.out.cell (j := 1) rfl; have z2 := z1.out.cell (j := 2) rfl
  have f0 := z1.out.free 0; have f1 := z1.out.free 1; have f2 := z1.out.free 2
  simp only [World.size_alloc] at z0 z01 z2 f0 f1 f2
  go_wp2_with fail
  exact fj_ret (R := w.heap.size + 1 + 1) (x := both 2 x y) rfl rfl ((by simpa only [World.size_alloc] using z1.out : Lies (w.heap.size + 1 + 1) (acC zero) 50 w1).set3 _ _ _) (below_set3 B1.out (by omega) _ _ _)
theorem foldJoin_3 (x y : Ac) (hx : x.n ≠ 0) (hy : y.n ≠ 0) (w : World) : Calls Try.prog 40 #[.int .i64 3, acV x, acV y] w (GivesAc (both 3 x y) w) := by
  have hk := Lib.hid (show isK 3 = true from rfl)
  have hb := ne_b hx
  have hc := ne_b hy
  clear hx hy
  go_enter Try.func40, Try.ntmps40
  go_wp2_with fail
  refine (foldRight _ _).mono ?_
  rw [hk.out]
  rintro e w' ⟨rfl, rfl⟩
  go_wp2_with fail
  refine (combos (by decide) _).mono ?_
  rintro e w' ⟨rfl, rfl⟩
  go_wp2_with fail
  have x1 := Lib.hid ((((Lies.new w (acC x) 50).al (o := .cells (acC y) 50)).al (o := .cells (acC zero) 50)).drew)
  have y1 := Lib.hid (((Lies.new (w.alloc (.cells (acC x) 50)) (acC y) 50).al (o := .cells (acC zero) 50)).drew)
  have z1 := Lib.hid ((Lies.new ((w.alloc (.cells (acC x) 50)).alloc (.cells (acC y) 50)) (acC zero) 50).drew)
  have B1 := Lib.hid (below_drewOf ((((Below.refl w.heap.size w).alloc (Nat.le_refl _) (.cells (acC x) 50)).alloc (by simp) (.cells (acC y) 50)).alloc (by simp; omega) (.cells (acC zero) 50)))
  refine still_tail 18 (by kernel_rfl) (by kernel_rfl) ?_
  intro w1 hw1
  simp only [List.take_succ_cons, List.take_zero, List.drop_succ_cons, List.drop_zero]
  rw [hw1] at x1 y1 z1 B1
  clear hw1
  have c0 := x1.out.cell (j := 0) rfl; have c1 := x1.out.cell (j := 1) rfl; have c2 := x1.out.cell (j := 2) rfl
  have d0 := y1.out.cell (j := 0) rfl; have d1 := y1.out.cell (j := 1) rfl; have d2 := y1.out.cell (j := 2) rfl
  simp only [World.size_alloc] at d0 d1 d2
  repeat still_step
  still_call (still_of (ofL _ _ _))
  repeat still_step
  still_call (still_of (ofU _ _ _))
  repeat still_step
  refine wpStill_nil ?_
  have z0 := z1.out.cell (j := 0) rfl; have z01 := z1.out.cell (j := 1) rfl; have z2 := z1.out.cell (j := 2) rfl
  have f0 := z1.out.free 0; have f1 := z1.out.free 1; have f2 := z1.out.free 2
  simp only [World.size_alloc] at z0 z01 z2 f0 f1 f2
  go_wp2_with fail
  exact fj_ret (R := w.heap.size + 1 + 1) (x := both 3 x y) rfl rfl ((by simpa only [World.size_alloc] using z1.out : Lies (w.heap.size + 1 + 1) (acC zero) 50 w1).set3 _ _ _) (below_set3 B1.out (by omega) _ _ _)
theorem foldJoin_4 (x y : Ac) (hx : x.n ≠ 0) (hy : y.n ≠ 0) (w : World) : Calls Try.prog 40 #[.int .i64 4, acV x, acV y] w (GivesAc (both 4 x y) w) := by
  have hk := Lib.hid (show isK 4 = true from rfl)
  have hb := ne_b hx
  have hc := ne_b hy
  clear hx hy
  go_enter Try.func40, Try.ntmps40
  go_wp2_with fail
  refine (foldRight _ _).mono ?_
  rw [hk.out]
  rintro e w' ⟨rfl, rfl⟩
  go_wp2_with fail
  refine (combos (by decide) _).mono ?_
  rintro e w' ⟨rfl, rfl⟩
  go_wp2_with fail
  have x1 := Lib.hid ((((Lies.new w (acC x) 50).al (o := .cells (acC y) 50)).al (o := .cells (acC zero) 50)).drew)
  have y1 := Lib.hid (((Lies.new (w.alloc (.cells (acC x) 50)) (acC y) 50).al (o := .cells (acC zero) 50)).drew)
  have z1 := Lib.hid ((Lies.new ((w.alloc (.cells (acC x) 50)).alloc (.cells (acC y) 50)) (acC zero) 50).drew)
  have B1 := Lib.hid (below_drewOf ((((Below.refl w.heap.size w).alloc (Nat.le_refl _) (.cells (acC x) 50)).alloc (by simp) (.cells (acC y) 50)).alloc (by simp; omega) (.cells (acC zero) 50)))
  refine still_tail 18 (by kernel_rfl) (by kernel_rfl) ?_
  intro w1 hw1
  simp only [List.take_succ_cons, List.take_zero, List.drop_succ_cons, List.drop_zero]
  rw [hw1] at x1 y1 z1 B1
  clear hw1
  have c0 := x1.out.cell (j := 0) rfl; have c1 := x1.out.cell (j := 1) rfl; have c2 := x1.out.cell (j := 2) rfl
  have d0 := y1.out.cell (j := 0) rfl; have d1 := y1.out.cell (j := 1) rfl; have d2 := y1.out.cell (j := 2) rfl
  simp only [World.size_alloc] at d0 d1 d2
  repeat still_step
  still_call (still_of (ofG _ _ _))
  repeat still_step
  still_call (still_of (ofU _ _ _))
  repeat still_step
  refine wpStill_nil ?_
  have z0 := z1.out.cell (j := 0) rfl; have z01 := z1.out.cell (j := 1) rfl; have z2 := z1.out.cell (j := 2) rfl
  have f0 := z1.out.free 0; have f1 := z1.out.free 1; have f2 := z1.out.free 2
  simp only [World.size_alloc] at z0 z01 z2 f0 f1 f2
  go_wp2_with fail
  exact fj_ret (R := w.heap.size + 1 + 1) (x := both 4 x y) rfl rfl ((by simpa only [World.size_alloc] using z1.out : Lies (w.heap.size + 1 + 1) (acC zero) 50 w1).set3 _ _ _) (below_set3 B1.out (by omega) _ _ _)
theorem foldJoin_5 (x y : Ac) (hx : x.n ≠ 0) (hy : y.n ≠ 0) (w : World) : Calls Try.prog 40 #[.int .i64 5, acV x, acV y] w (GivesAc (both 5 x y) w) := by
  have hk := Lib.hid (show isK 5 = true from rfl)
  have hb := ne_b hx
  have hc := ne_b hy
  clear hx hy
  go_enter Try.func40, Try.ntmps40
  go_wp2_with fail
  refine (foldRight _ _).mono ?_
  rw [hk.out]
  rintro e w' ⟨rfl, rfl⟩
  go_wp2_with fail
  refine (combos (by decide) _).mono ?_
  rintro e w' ⟨rfl, rfl⟩
  go_wp2_with fail
  have x1 := Lib.hid ((((Lies.new w (acC x) 50).al (o := .cells (acC y) 50)).al (o := .cells (acC zero) 50)).drew)
  have y1 := Lib.hid (((Lies.new (w.alloc (.cells (acC x) 50)) (acC y) 50).al (o := .cells (acC zero) 50)).drew)
  have z1 := Lib.hid ((Lies.new ((w.alloc (.cells (acC x) 50)).alloc (.cells (acC y) 50)) (acC zero) 50).drew)
  have B1 := Lib.hid (below_drewOf ((((Below.refl w.heap.size w).alloc (Nat.le_refl _) (.cells (acC x) 50)).alloc (by simp) (.cells (acC y) 50)).alloc (by simp; omega) (.cells (acC zero) 50)))
  refine still_tail 18 (by kernel_rfl) (by kernel_rfl) ?_
  intro w1 hw1
  simp only [List.take_succ_cons, List.take_zero, List.drop_succ_cons, List.drop_zero]
  rw [hw1] at x1 y1 z1 B1
  clear hw1
  have c0 := x1.out.cell (j := 0) rfl; have c1 := x1.out.cell (j := 1) rfl; have c2 := x1.out.cell (j := 2) rfl
  have d0 := y1.out.cell (j := 0) rfl; have d1 := y1.out.cell (j := 1) rfl; have d2 := y1.out.cell (j := 2) rfl
  simp only [World.size_alloc] at d0 d1 d2
  repeat still_step
  still_call (still_of (ofL _ _ _))
  repeat still_step
  still_call (still_of (ofG _ _ _))
  repeat still_step
  refine wpStill_nil ?_
  have z0 := z1.out.cell (j := 0) rfl; have z01 := z1.out.cell (j := 1) rfl; have z2 := z1.out.cell (j := 2) rfl
  have f0 := z1.out.free 0; have f1 := z1.out.free 1; have f2 := z1.out.free 2
  simp only [World.size_alloc] at z0 z01 z2 f0 f1 f2
  go_wp2_with fail
  exact fj_ret (R := w.heap.size + 1 + 1) (x := both 5 x y) rfl rfl ((by simpa only [World.size_alloc] using z1.out : Lies (w.heap.size + 1 + 1) (acC zero) 50 w1).set3 _ _ _) (below_set3 B1.out (by omega) _ _ _)
theorem foldJoin (k : Int) (x y : Ac) (w : World) : Calls Try.prog 40 #[.int .i64 k, acV x, acV y] w (GivesAc (join k x y) w) := by
  by_cases h : 1 ≤ k ∧ k ≤ 5
  · by_cases hx : x.n = 0
    · rw [join_l h hx]; exact foldJoin_l h x y hx w
    · by_cases hy : y.n = 0
      · rw [join_r h hx hy]; exact foldJoin_r h x y hx hy w
      · rw [join_b h hx hy]
        rcases kinds h with rfl | rfl | rfl | rfl | rfl
        · exact foldJoin_1 x y hx hy w
        · exact foldJoin_2 x y hx hy w
        · exact foldJoin_3 x y hx hy w
        · exact foldJoin_4 x y hx hy w
        · exact foldJoin_5 x y hx hy w
  · rw [join_bad h]; exact foldJoin_bad h x y w
end Go.Proofs.Ytklpfifellghlaa
