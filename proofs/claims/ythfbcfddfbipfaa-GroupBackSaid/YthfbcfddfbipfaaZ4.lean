/- FoldJoin, Pane, put together. -/
import Derived.Test.YthfbcfddfbipfaaZ3
import Derived.Test.YthfbcfddfbipfaaZ2
import Derived.Laws.StructEq
import Derived.Deep.RegionHeld3
import Derived.BigQuiet
import Derived.Laws.Cover1
/- Contracts of Join, in fold and in its reference. -/
namespace Go.Proofs.Ythfbcfddfbipfaa
open Go.RowKit
open Acm
set_option linter.unusedVariables false
set_option maxRecDepth 8000
theorem foldJoin_bad {k : Int} (h : ¬ (1 ≤ k ∧ k ≤ 5)) (x y : Ac) (w : World) : Calls Try.prog 104 #[.int .i64 k, acV x, acV y] w (GivesAc zero w) := by
  have hk := Lib.hid (show isK k = false from decide_eq_false h)
  clear h
  go_enter Try.func104, Try.ntmps104
  go_wp2_with fail
  refine (foldRight _ _).mono ?_
  rw [hk.out]
  rintro e w' ⟨rfl, rfl⟩
  go_wp2_with fail
  exact bodyPost_ret (v := acV zero) (by simp [results, Try.results104, go_sem]) rfl ⟨rfl, (((Below.refl _ _).alloc (Nat.le_refl _) _).alloc (by simp) _).alloc (by simp; omega) _⟩
theorem foldJoin_l {k : Int} (h : 1 ≤ k ∧ k ≤ 5) (x y : Ac) (hx : x.n = 0) (w : World) : Calls Try.prog 104 #[.int .i64 k, acV x, acV y] w (GivesAc y w) := by
  have hk := Lib.hid (show isK k = true from decide_eq_true h)
  have hb := eq_b hx
  clear h hx
  go_enter Try.func104, Try.ntmps104
  go_wp2_with fail
  refine (foldRight _ _).mono ?_
  rw [hk.out]
  rintro e w' ⟨rfl, rfl⟩
  go_wp2_with fail
  exact bodyPost_ret (v := acV y) (by simp [results, Try.results104, go_sem]) rfl ⟨rfl, (((Below.refl _ _).alloc (Nat.le_refl _) _).alloc (by simp) _).alloc (by simp; omega) _⟩
theorem foldJoin_r {k : Int} (h : 1 ≤ k ∧ k ≤ 5) (x y : Ac) (hx : x.n ≠ 0) (hy : y.n = 0) (w : World) : Calls Try.prog 104 #[.int .i64 k, acV x, acV y] w (GivesAc x w) := by
  have hk := Lib.hid (show isK k = true from decide_eq_true h)
  have hb := ne_b hx
  have hc := eq_b hy
  clear h hx hy
  go_enter Try.func104, Try.ntmps104
  go_wp2_with fail
  refine (foldRight _ _).mono ?_
  rw [hk.out]
  rintro e w' ⟨rfl, rfl⟩
  go_wp2_with fail
  exact bodyPost_ret (v := acV x) (by simp [results, Try.results104, go_sem]) rfl ⟨rfl, (((Below.refl _ _).alloc (Nat.le_refl _) _).alloc (by simp) _).alloc (by simp; omega) _⟩
theorem fj_ret {w wF : World} {R : Nat} {x : Ac} {act : Act} (ht : act.tmps.getD 6 undef = .pointer (some ⟨R, 0, none⟩)) (hd : act.defers = []) (hL : Lies R (acC x) 57 wF) (hB : Below w.heap.size w wF) :
    bodyPost Try.prog Try.f104 (GivesAc x w) .ret act wF := by
  have c0 := hL.cell (j := 0) rfl
  have c1 := hL.cell (j := 1) rfl
  have c2 := hL.cell (j := 2) rfl
  refine bodyPost_ret (v := acV x) ?_ hd ⟨rfl, hB⟩
  have ht2 : act.tmps[6]?.getD undef = .pointer (some ⟨R, 0, none⟩) := by simpa using ht
  simp [results, Try.results104, go_sem, ht2, c0, c1, c2]
theorem foldJoin_1 (x y : Ac) (hx : x.n ≠ 0) (hy : y.n ≠ 0) (w : World) : Calls Try.prog 104 #[.int .i64 1, acV x, acV y] w (GivesAc (both 1 x y) w) := by
  have hk := Lib.hid (show isK 1 = true from rfl)
  have hb := ne_b hx
  have hc := ne_b hy
  clear hx hy
  go_enter Try.func104, Try.ntmps104
  go_wp2_with fail
  refine (foldRight _ _).mono ?_
  rw [hk.out]
  rintro e w' ⟨rfl, rfl⟩
  go_wp2_with fail
  refine (combos (by decide) _).mono ?_
  rintro e w' ⟨rfl, rfl⟩
  go_wp2_with fail
  have x1 := Lib.hid ((((Lies.new w (acC x) 57).al (o := .cells (acC y) 57)).al (o := .cells (acC zero) 57)).drew)
  have y1 := Lib.hid (((Lies.new (w.alloc (.cells (acC x) 57)) (acC y) 57).al (o := .cells (acC zero) 57)).drew)
  have z1 := Lib.hid ((Lies.new ((w.alloc (.cells (acC x) 57)).alloc (.cells (acC y) 57)) (acC zero) 57).drew)
  have B1 := Lib.hid (below_drewOf ((((Below.refl w.heap.size w).alloc (Nat.le_refl _) (.cells (acC x) 57)).alloc (by simp) (.cells (acC y) 57)).alloc (by simp; omega) (.cells (acC zero) 57)))
  refine still_tail 18 (by kernel_rfl) (by kernel_rfl) ?_
  intro w1 hw1
  simp only [List.take_succ_cons, List.take_zero, List.drop_succ_cons, List.drop_zero]
  rw [hw1] at x1 y1 z1 B1
  clear hw1
  have c0 := x1.out.cell (j := 0) rfl; have c1 := x1.out.cell (j := 1) rfl; have c2 := x1.out.cell (j := 2) rfl
  have d0 := y1.out.cell (j := 0) rfl; have d1 := y1.out.cell (j := 1) rfl; have d2 := y1.out.cell (j := 2) rfl
  simp only [World.size_alloc] at d0 d1 d2
  repeat still_step
  still_call (still_of (ofU _ _ _))
  repeat still_step
  still_call (still_of (ofU _ _ _))
  repeat still_step
  refine wpStill_nil ?_
  have z0 := z1.out.cell (j := 0) rfl; have z01 := z1.out.cell (j := 1) rfl; have z2 := z1.out.cell (j := 2) rfl
  have f0 := z1.out.free 0; have f1 := z1.out.free 1; have f2 := z1.out.free 2
  simp only [World.size_alloc] at z0 z01 z2 f0 f1 f2
  go_wp2_with fail
  exact fj_ret (R := w.heap.size + 1 + 1) (x := both 1 x y) rfl rfl ((by simpa only [World.size_alloc] using z1.out : Lies (w.heap.size + 1 + 1) (acC zero) 57 w1).set3 _ _ _) (below_set3 B1.out (by omega) _ _ _)
theorem foldJoin_2 (x y : Ac) (hx : x.n ≠ 0) (hy : y.n ≠ 0) (w : World) : Calls Try.prog 104 #[.int .i64 2, acV x, acV y] w (GivesAc (both 2 x y) w) := by
  have hk := Lib.hid (show isK 2 = true from rfl)
  have hb := ne_b hx
  have hc := ne_b hy
  clear hx hy
  go_enter Try.func104, Try.ntmps104
  go_wp2_with fail
  refine (foldRight _ _).mono ?_
  rw [hk.out]
  rintro e w' ⟨rfl, rfl⟩
  go_wp2_with fail
  refine (combos (by decide) _).mono ?_
  rintro e w' ⟨rfl, rfl⟩
  go_wp2_with fail
  have x1 := Lib.hid ((((Lies.new w (acC x) 57).al (o := .cells (acC y) 57)).al (o := .cells (acC zero) 57)).drew)
  have y1 := Lib.hid (((Lies.new (w.alloc (.cells (acC x) 57)) (acC y) 57).al (o := .cells (acC zero) 57)).drew)
  have z1 := Lib.hid ((Lies.new ((w.alloc (.cells (acC x) 57)).alloc (.cells (acC y) 57)) (acC zero) 57).drew)
  have B1 := Lib.hid (below_drewOf ((((Below.refl w.heap.size w).alloc (Nat.le_refl _) (.cells (acC x) 57)).alloc (by simp) (.cells (acC y) 57)).alloc (by simp; omega) (.cells (acC zero) 57)))
  refine still_tail 18 (by kernel_rfl) (by kernel_rfl) ?_
  intro w1 hw1
  simp only [List.take_succ_cons, List.take_zero, List.drop_succ_cons, List.drop_zero]
  rw [hw1] at x1 y1 z1 B1
  clear hw1
  have c0 := x1.out.cell (j := 0) rfl; have c1 := x1.out.cell (j := 1) rfl; have c2 := x1.out.cell (j := 2) rfl
  have d0 := y1.out.cell (j := 0) rfl; have d1 := y1.out.cell (j := 1) rfl; have d2 := y1.out.cell (j := 2) rfl
  simp only [World.size_alloc] at d0 d1 d2
  repeat still_step
  still_call (still_of (ofP _ _ _))
  repeat still_step
  still_call (still_of (ofU _ _ _))
  repeat still_step
  refine wpStill_nil ?_
  have z0 := z1.out.cell (j := 0) rfl; have z01 := z1.out.cell (j := 1) rfl; have z2 := z1.out.cell (j := 2) rfl
  have f0 := z1.out.free 0; have f1 := z1.out.free 1; have f2 := z1.out.free 2
  simp only [World.size_alloc] at z0 z01 z2 f0 f1 f2
  go_wp2_with fail
  exact fj_ret (R := w.heap.size + 1 + 1) (x := both 2 x y) rfl rfl ((by simpa only [World.size_alloc] using z1.out : Lies (w.heap.size + 1 + 1) (acC zero) 57 w1).set3 _ _ _) (below_set3 B1.out (by omega) _ _ _)
theorem foldJoin_3 (x y : Ac) (hx : x.n ≠ 0) (hy : y.n ≠ 0) (w : World) : Calls Try.prog 104 #[.int .i64 3, acV x, acV y] w (GivesAc (both 3 x y) w) := by
  have hk := Lib.hid (show isK 3 = true from rfl)
  have hb := ne_b hx
  have hc := ne_b hy
  clear hx hy
  go_enter Try.func104, Try.ntmps104
  go_wp2_with fail
  refine (foldRight _ _).mono ?_
  rw [hk.out]
  rintro e w' ⟨rfl, rfl⟩
  go_wp2_with fail
  refine (combos (by decide) _).mono ?_
  rintro e w' ⟨rfl, rfl⟩
  go_wp2_with fail
  have x1 := Lib.hid ((((Lies.new w (acC x) 57).al (o := .cells (acC y) 57)).al (o := .cells (acC zero) 57)).drew)
  have y1 := Lib.hid (((Lies.new (w.alloc (.cells (acC x) 57)) (acC y) 57).al (o := .cells (acC zero) 57)).drew)
  have z1 := Lib.hid ((Lies.new ((w.alloc (.cells (acC x) 57)).alloc (.cells (acC y) 57)) (acC zero) 57).drew)
  have B1 := Lib.hid (below_drewOf ((((Below.refl w.heap.size w).alloc (Nat.le_refl _) (.cells (acC x) 57)).alloc (by simp) (.cells (acC y) 57)).alloc (by simp; omega) (.cells (acC zero) 57)))
  refine still_tail 18 (by kernel_rfl) (by kernel_rfl) ?_
  intro w1 hw1
  simp only [List.take_succ_cons, List.take_zero, List.drop_succ_cons, List.drop_zero]
  rw [hw1] at x1 y1 z1 B1
  clear hw1
  have c0 := x1.out.cell (j := 0) rfl; have c1 := x1.out.cell (j := 1) rfl; have c2 := x1.out.cell (j := 2) rfl
  have d0 := y1.out.cell (j := 0) rfl; have d1 := y1.out.cell (j := 1) rfl; have d2 := y1.out.cell (j := 2) rfl
  simp only [World.size_alloc] at d0 d1 d2
  repeat still_step
  still_call (still_of (ofL _ _ _))
  repeat still_step
  still_call (still_of (ofU _ _ _))
  repeat still_step
  refine wpStill_nil ?_
  have z0 := z1.out.cell (j := 0) rfl; have z01 := z1.out.cell (j := 1) rfl; have z2 := z1.out.cell (j := 2) rfl
  have f0 := z1.out.free 0; have f1 := z1.out.free 1; have f2 := z1.out.free 2
  simp only [World.size_alloc] at z0 z01 z2 f0 f1 f2
  go_wp2_with fail
  exact fj_ret (R := w.heap.size + 1 + 1) (x := both 3 x y) rfl rfl ((by simpa only [World.size_alloc] using z1.out : Lies (w.heap.size + 1 + 1) (acC zero) 57 w1).set3 _ _ _) (below_set3 B1.out (by omega) _ _ _)
theorem foldJoin_4 (x y : Ac) (hx : x.n ≠ 0) (hy : y.n ≠ 0) (w : World) : Calls Try.prog 104 #[.int .i64 4, acV x, acV y] w (GivesAc (both 4 x y) w) := by
  have hk := Lib.hid (show isK 4 = true from rfl)
  have hb := ne_b hx
  have hc := ne_b hy
  clear hx hy
  go_enter Try.func104, Try.ntmps104
  go_wp2_with fail
  refine (foldRight _ _).mono ?_
  rw [hk.out]
  rintro e w' ⟨rfl, rfl⟩
  go_wp2_with fail
  refine (combos (by decide) _).mono ?_
  rintro e w' ⟨rfl, rfl⟩
  go_wp2_with fail
  have x1 := Lib.hid ((((Lies.new w (acC x) 57).al (o := .cells (acC y) 57)).al (o := .cells (acC zero) 57)).drew)
  have y1 := Lib.hid (((Lies.new (w.alloc (.cells (acC x) 57)) (acC y) 57).al (o := .cells (acC zero) 57)).drew)
  have z1 := Lib.hid ((Lies.new ((w.alloc (.cells (acC x) 57)).alloc (.cells (acC y) 57)) (acC zero) 57).drew)
  have B1 := Lib.hid (below_drewOf ((((Below.refl w.heap.size w).alloc (Nat.le_refl _) (.cells (acC x) 57)).alloc (by simp) (.cells (acC y) 57)).alloc (by simp; omega) (.cells (acC zero) 57)))
  refine still_tail 18 (by kernel_rfl) (by kernel_rfl) ?_
  intro w1 hw1
  simp only [List.take_succ_cons, List.take_zero, List.drop_succ_cons, List.drop_zero]
  rw [hw1] at x1 y1 z1 B1
  clear hw1
  have c0 := x1.out.cell (j := 0) rfl; have c1 := x1.out.cell (j := 1) rfl; have c2 := x1.out.cell (j := 2) rfl
  have d0 := y1.out.cell (j := 0) rfl; have d1 := y1.out.cell (j := 1) rfl; have d2 := y1.out.cell (j := 2) rfl
  simp only [World.size_alloc] at d0 d1 d2
  repeat still_step
  still_call (still_of (ofG _ _ _))
  repeat still_step
  still_call (still_of (ofU _ _ _))
  repeat still_step
  refine wpStill_nil ?_
  have z0 := z1.out.cell (j := 0) rfl; have z01 := z1.out.cell (j := 1) rfl; have z2 := z1.out.cell (j := 2) rfl
  have f0 := z1.out.free 0; have f1 := z1.out.free 1; have f2 := z1.out.free 2
  simp only [World.size_alloc] at z0 z01 z2 f0 f1 f2
  go_wp2_with fail
  exact fj_ret (R := w.heap.size + 1 + 1) (x := both 4 x y) rfl rfl ((by simpa only [World.size_alloc] using z1.out : Lies (w.heap.size + 1 + 1) (acC zero) 57 w1).set3 _ _ _) (below_set3 B1.out (by omega) _ _ _)
theorem foldJoin_5 (x y : Ac) (hx : x.n ≠ 0) (hy : y.n ≠ 0) (w : World) : Calls Try.prog 104 #[.int .i64 5, acV x, acV y] w (GivesAc (both 5 x y) w) := by
  have hk := Lib.hid (show isK 5 = true from rfl)
  have hb := ne_b hx
  have hc := ne_b hy
  clear hx hy
  go_enter Try.func104, Try.ntmps104
  go_wp2_with fail
  refine (foldRight _ _).mono ?_
  rw [hk.out]
  rintro e w' ⟨rfl, rfl⟩
  go_wp2_with fail
  refine (combos (by decide) _).mono ?_
  rintro e w' ⟨rfl, rfl⟩
  go_wp2_with fail
  have x1 := Lib.hid ((((Lies.new w (acC x) 57).al (o := .cells (acC y) 57)).al (o := .cells (acC zero) 57)).drew)
  have y1 := Lib.hid (((Lies.new (w.alloc (.cells (acC x) 57)) (acC y) 57).al (o := .cells (acC zero) 57)).drew)
  have z1 := Lib.hid ((Lies.new ((w.alloc (.cells (acC x) 57)).alloc (.cells (acC y) 57)) (acC zero) 57).drew)
  have B1 := Lib.hid (below_drewOf ((((Below.refl w.heap.size w).alloc (Nat.le_refl _) (.cells (acC x) 57)).alloc (by simp) (.cells (acC y) 57)).alloc (by simp; omega) (.cells (acC zero) 57)))
  refine still_tail 18 (by kernel_rfl) (by kernel_rfl) ?_
  intro w1 hw1
  simp only [List.take_succ_cons, List.take_zero, List.drop_succ_cons, List.drop_zero]
  rw [hw1] at x1 y1 z1 B1
  clear hw1
  have c0 := x1.out.cell (j := 0) rfl; have c1 := x1.out.cell (j := 1) rfl; have c2 := x1.out.cell (j := 2) rfl
  have d0 := y1.out.cell (j := 0) rfl; have d1 := y1.out.cell (j := 1) rfl; have d2 := y1.out.cell (j := 2) rfl
  simp only [World.size_alloc] at d0 d1 d2
  repeat still_step
  still_call (still_of (ofL _ _ _))
  repeat still_step
  still_call (still_of (ofG _ _ _))
  repeat still_step
  refine wpStill_nil ?_
  have z0 := z1.out.cell (j := 0) rfl; have z01 := z1.out.cell (j := 1) rfl; have z2 := z1.out.cell (j := 2) rfl
  have f0 := z1.out.free 0; have f1 := z1.out.free 1; have f2 := z1.out.free 2
  simp only [World.size_alloc] at z0 z01 z2 f0 f1 f2
  go_wp2_with fail
  exact fj_ret (R := w.heap.size + 1 + 1) (x := both 5 x y) rfl rfl ((by simpa only [World.size_alloc] using z1.out : Lies (w.heap.size + 1 + 1) (acC zero) 57 w1).set3 _ _ _) (below_set3 B1.out (by omega) _ _ _)
theorem foldJoin (k : Int) (x y : Ac) (w : World) : Calls Try.prog 104 #[.int .i64 k, acV x, acV y] w (GivesAc (join k x y) w) := by
  by_cases h : 1 ≤ k ∧ k ≤ 5
  · by_cases hx : x.n = 0
    · rw [join_l h hx]; exact foldJoin_l h x y hx w
    · by_cases hy : y.n = 0
      · rw [join_r h hx hy]; exact foldJoin_r h x y hx hy w
      · rw [join_b h hx hy]
        rcases kinds h with rfl | rfl | rfl | rfl | rfl
        · exact foldJoin_1 x y hx hy w
        · exact foldJoin_2 x y hx hy w
        · exact foldJoin_3 x y hx hy w
        · exact foldJoin_4 x y hx hy w
        · exact foldJoin_5 x y hx hy w
  · rw [join_bad h]; exact foldJoin_bad h x y w
end Go.Proofs.Ythfbcfddfbipfaa
/- Panes in memory; the comparisons of package cmp; which pane may be, whose place comes first. -/
namespace Go.Proofs.Ythfbcfddfbipfaa
open Go.RowKit
open Pan
set_option linter.unusedVariables false
set_option maxRecDepth 8000
def kS (l : List UInt8) : ByteArray := ⟨l.toArray⟩
theorem kS_size (l : List UInt8) : (kS l).size = l.length := by show l.toArray.size = _; simp
theorem kS_list (l : List UInt8) : (kS l).toList = l := by rw [ByteArray.toList_eq]; rfl
theorem kS_of (s : ByteArray) : kS s.toList = s := by rw [ByteArray.toList_eq]; rfl
abbrev paC (x : Pn) : Array Value := #[.int .i64 x.p.lo, .int .i64 x.p.hi, .string (kS x.p.key), .int .i64 x.acc.n, .int .i64 x.acc.a, .int .i64 x.acc.b]
abbrev paV (x : Pn) : Value := .agg (paC x)
/-- Hands back a truth; nothing is touched. -/
def SaysB (b : Bool) (w : World) (e : Ending) (w' : World) : Prop := e = .returned (.bool b) ∧ w = w'
def SaysI (n : Int) (w : World) (e : Ending) (w' : World) : Prop := e = .returned (.int .i64 n) ∧ w = w'
/-- Hands back a truth, a number; what was stays. -/
def TellsB (b : Bool) (w : World) (e : Ending) (w' : World) : Prop := e = .returned (.bool b) ∧ Below w.heap.size w w'
def TellsI (n : Int) (w : World) (e : Ending) (w' : World) : Prop := e = .returned (.int .i64 n) ∧ Below w.heap.size w w'
namespace Pan
def cmI (a b : Int) : Int := if a < b then -1 else if b < a then 1 else 0
def cmK (a b : List UInt8) : Int := if less a b then -1 else if less b a then 1 else 0
def or3 (x y z : Int) : Int := if x ≠ 0 then x else if y ≠ 0 then y else z
def ordN (a b : Pl) : Int := or3 (cmI a.hi b.hi) (cmI a.lo b.lo) (cmK a.key b.key)
theorem ordN_lt (a b : Pl) : ordN a b < 0 ↔ ahead a b = true := by
  rw [ahead_iff]
  unfold ordN or3 cmI cmK
  by_cases h1 : a.hi < b.hi
  · simp [h1]
  · by_cases h2 : b.hi < a.hi
    · simp [h1, h2]; omega
    · have e : a.hi = b.hi := by omega
      by_cases h3 : a.lo < b.lo
      · simp [e, h3]
      · by_cases h4 : b.lo < a.lo
        · simp [e, h3, h4]; omega
        · have e2 : a.lo = b.lo := by omega
          simp [e, e2]
          cases h5 : less a.key b.key <;> cases h6 : less b.key a.key <;> simp
theorem ordN_eq (a b : Pl) : ordN a b = 0 ↔ a = b := by
  constructor
  · intro h
    rcases ahead_total a b with h1 | h1 | h1
    · rw [← ordN_lt] at h1; omega
    · exact h1
    · exfalso
      have h2 := (ahead_iff b a).1 h1
      revert h
      unfold ordN or3 cmI cmK
      by_cases h3 : a.hi = b.hi
      · by_cases h4 : a.lo = b.lo
        · have h5 : less b.key a.key = true := by
            rcases h2 with h2 | ⟨_, h2 | ⟨_, h2⟩⟩
            · omega
            · omega
            · exact h2
          have h6 : less a.key b.key = false := by
            cases h7 : less a.key b.key with
            | false => rfl
            | true => have := less_trans _ _ _ h5 h7; rw [less_irrefl] at this; cases this
          simp [h3, h4, h5, h6]
        · have h5 : b.lo < a.lo := by omega
          have h6 : ¬ a.lo < b.lo := by omega
          simp [h3, h5, h6]
      · have h5 : b.hi < a.hi := by omega
        have h6 : ¬ a.hi < b.hi := by omega
        simp [h5, h6]
  · rintro rfl
    unfold ordN or3 cmI cmK
    simp [less_irrefl]
/-- May it be? -/
def may (x : Pn) : Bool := decide (1 ≤ x.p.key.length ∧ x.p.key.length ≤ 16 ∧ 0 ≤ x.p.lo ∧ x.p.lo < x.p.hi ∧ x.p.hi ≤ 1099511627776 ∧ 1 ≤ x.acc.n)
end Pan
theorem nanI (a : Int) (w : World) : Calls Try.prog 127 #[.int .i64 a] w (SaysB false w) := by
  go_enter Try.func127, Try.ntmps127
  go_wp2_with fail
  go_ret
  exact ⟨by simp, rfl⟩
theorem nanS (a : ByteArray) (w : World) : Calls Try.prog 128 #[.string a] w (SaysB false w) := by
  go_enter Try.func128, Try.ntmps128
  go_wp2_with fail
  go_ret
  exact ⟨by simp, rfl⟩
theorem cmpI (a b : Int) (w : World) : Calls Try.prog 109 #[.int .i64 a, .int .i64 b] w (SaysI (cmI a b) w) := by
  by_cases h1 : a < b
  · have hc := Lib.hid (show cmI a b = -1 from if_pos h1)
    go_enter Try.func109, Try.ntmps109
    go_wp2_with (go_at_call 127; refine (nanI _ _).mono ?_; rintro e w' ⟨rfl, rfl⟩)
    go_ret
    exact ⟨by rw [hc.out]; rfl, rfl⟩
  · by_cases h2 : b < a
    · have hc := Lib.hid (show cmI a b = 1 from by unfold cmI; rw [if_neg h1, if_pos h2])
      go_enter Try.func109, Try.ntmps109
      go_wp2_with (go_at_call 127; refine (nanI _ _).mono ?_; rintro e w' ⟨rfl, rfl⟩)
      go_ret
      exact ⟨by rw [hc.out]; rfl, rfl⟩
    · have hc := Lib.hid (show cmI a b = 0 from by unfold cmI; rw [if_neg h1, if_neg h2])
      go_enter Try.func109, Try.ntmps109
      go_wp2_with (go_at_call 127; refine (nanI _ _).mono ?_; rintro e w' ⟨rfl, rfl⟩)
      go_ret
      exact ⟨by rw [hc.out]; rfl, rfl⟩
theorem cmpS (a b : List UInt8) (w : World) : Calls Try.prog 110 #[.string (kS a), .string (kS b)] w (SaysI (cmK a b) w) := by
  by_cases h1 : less a b = true
  · have hc := Lib.hid (show cmK a b = -1 from if_pos h1)
    have h3 : Op.bytesLess (kS a).toList (kS b).toList = true := by rw [kS_list, kS_list]; exact h1
    clear h1
    go_enter Try.func110, Try.ntmps110
    go_wp2_with (go_at_call 128; refine (nanS _ _).mono ?_; rintro e w' ⟨rfl, rfl⟩)
    go_ret
    exact ⟨by rw [hc.out]; rfl, rfl⟩
  · have h1' : less a b = false := by simpa using h1
    have h3 : Op.bytesLess (kS a).toList (kS b).toList = false := by rw [kS_list, kS_list]; exact h1'
    by_cases h2 : less b a = true
    · have hc := Lib.hid (show cmK a b = 1 from by unfold cmK; rw [if_neg h1, if_pos h2])
      have h4 : ((kS a).toList == (kS b).toList) = false := by
        rw [kS_list, kS_list, beq_eq_false_iff_ne]
        rintro rfl
        rw [h1'] at h2; cases h2
      clear h1 h1' h2
      go_enter Try.func110, Try.ntmps110
      go_wp2_with (go_at_call 128; refine (nanS _ _).mono ?_; rintro e w' ⟨rfl, rfl⟩)
      go_ret
      exact ⟨by rw [hc.out]; rfl, rfl⟩
    · have h2' : less b a = false := by simpa using h2
      have hc := Lib.hid (show cmK a b = 0 from by unfold cmK; rw [if_neg h1, if_neg h2])
      have h4 : ((kS a).toList == (kS b).toList) = true := by
        rw [kS_list, kS_list, beq_iff_eq]
        rcases less_total a b with h | h | h
        · rw [h1'] at h; cases h
        · exact h
        · rw [h2'] at h; cases h
      clear h1 h1' h2 h2'
      go_enter Try.func110, Try.ntmps110
      go_wp2_with (go_at_call 128; refine (nanS _ _).mono ?_; rintro e w' ⟨rfl, rfl⟩)
      go_ret
      exact ⟨by rw [hc.out]; rfl, rfl⟩
/-- Where a loop over three stands. -/
def OrAt (x y z : Int) (w : World) (v : Value) (wr : World) : Prop := ∃ k : Nat, v = .int .i64 k ∧ wr = w ∧ (k = 0 ∨ (k = 1 ∧ x = 0) ∨ (k = 2 ∧ x = 0 ∧ y = 0) ∨ (k = 3 ∧ x = 0 ∧ y = 0 ∧ z = 0))
theorem cmpOr (x y z : Int) (b off c : Nat) (w : World) (c0 : w.cell? ⟨b, off, none⟩ = some (.int .i64 x)) (c1 : w.cell? ⟨b, off + 1, none⟩ = some (.int .i64 y)) (c2 : w.cell? ⟨b, off + 2, none⟩ = some (.int .i64 z)) :
    Calls Try.prog 108 #[.slice (some ⟨b, off, none⟩) 3 c] w (SaysI (or3 x y z) w) := by
  go_enter Try.func108, Try.ntmps108
  go_wp2_with fail
  go_loopw [8] (fun i wr => OrAt x y z w i wr) (fun i _ => 3 - (intOf i).toNat)
  case atStart => exact ⟨0, rfl, rfl, .inl rfl⟩
  case round =>
    obtain ⟨k, rfl, rfl, h⟩ := hrel
    rcases h with rfl | ⟨rfl, rfl⟩ | ⟨rfl, rfl, rfl⟩ | ⟨rfl, rfl, rfl, rfl⟩
    · by_cases h : x = 0
      · subst h
        go_wp2_with fail
        go_roundw
        case rel => exact ⟨1, rfl, rfl, .inr (.inl ⟨rfl, rfl⟩)⟩
        case measure => simp [intOf]
      · have hb := nb h
        have hc := Lib.hid (show or3 x y z = x from if_pos h)
        clear h
        go_wp2_with fail
        go_ret
        exact ⟨by rw [hc.out]; rfl, rfl⟩
    · by_cases h : y = 0
      · subst h
        go_wp2_with fail
        go_roundw
        case rel => exact ⟨2, rfl, rfl, .inr (.inr (.inl ⟨rfl, rfl, rfl⟩))⟩
        case measure => simp [intOf]
      · have hb := nb h
        have hc := Lib.hid (show or3 0 y z = y from by unfold or3; rw [if_neg (by simp), if_pos h])
        clear h
        go_wp2_with fail
        go_ret
        exact ⟨by rw [hc.out]; rfl, rfl⟩
    · by_cases h : z = 0
      · subst h
        go_wp2_with fail
        go_roundw
        case rel => exact ⟨3, rfl, rfl, .inr (.inr (.inr ⟨rfl, rfl, rfl, rfl⟩))⟩
        case measure => simp [intOf]
      · have hb := nb h
        have hc := Lib.hid (show or3 0 0 z = z from by unfold or3; rw [if_neg (by simp), if_neg (by simp)])
        clear h
        go_wp2_with fail
        go_ret
        exact ⟨by rw [hc.out]; rfl, rfl⟩
    · go_wp2_with fail
      go_ret
      exact ⟨rfl, rfl⟩
end Go.Proofs.Ythfbcfddfbipfaa
