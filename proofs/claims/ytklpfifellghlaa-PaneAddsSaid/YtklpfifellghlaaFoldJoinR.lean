/- Contract of the reference's Join. -/
import Derived.Test.YtklpfifellghlaaFold
namespace Go.Proofs.Ytklpfifellghlaa
open Go.RowKit
open Acm
set_option linter.unusedVariables false
theorem rfLeast (a b : Int) (w : World) : Calls Try.prog 50 #[.int .i64 a, .int .i64 b] w fun e w' => e = .returned (.int .i64 (lo a b)) ∧ w = w' := by
  by_cases h : b < a
  all_goals
    have hc := Lib.hid (show lo a b = _ from by unfold lo; first | exact if_pos h | exact if_neg h)
    go_enter Try.func50, Try.ntmps50
    go_wp2
    go_ret
    exact ⟨by rw [hc.out]; rfl, rfl⟩
theorem rfMost (a b : Int) (w : World) : Calls Try.prog 51 #[.int .i64 a, .int .i64 b] w fun e w' => e = .returned (.int .i64 (hi a b)) ∧ w = w' := by
  by_cases h : a < b
  all_goals
    have hc := Lib.hid (show hi a b = _ from by unfold hi; first | exact if_pos h | exact if_neg h)
    go_enter Try.func51, Try.ntmps51
    go_wp2
    go_ret
    exact ⟨by rw [hc.out]; rfl, rfl⟩
theorem lies_third (w : World) (a b o : Obj) (c : Array Value) (T : TypeId) : Lies (w.heap.size + 1 + 1) c T ((((w.alloc a).alloc b).alloc (.cells c T)).alloc o) := by
  simpa only [World.size_alloc] using (Lies.new ((w.alloc a).alloc b) c T).al (o := o)
theorem below_al4 (w : World) (a b c d : Obj) : Below w.heap.size w ((((w.alloc a).alloc b).alloc c).alloc d) := below_al (below_al (below_al (below_al (Below.refl _ _))))
theorem rj_ret {w wF : World} {R : Nat} {x : Ac} {act : Act} (ht : act.tmps.getD 6 undef = .pointer (some ⟨R, 0, none⟩)) (hd : act.defers = []) (hL : Lies R (acC x) 50 wF) (hB : Below w.heap.size w wF) :
    bodyPost Try.prog Try.f43 (GivesAc x w) .ret act wF := by
  have c0 := hL.cell (j := 0) rfl
  have c1 := hL.cell (j := 1) rfl
  have c2 := hL.cell (j := 2) rfl
  refine bodyPost_ret (v := acV x) ?_ hd ⟨rfl, hB⟩
  have ht2 : act.tmps[6]?.getD undef = .pointer (some ⟨R, 0, none⟩) := by simpa using ht
  simp [results, Try.results43, go_sem, ht2, c0, c1, c2]
theorem rfJoin_bad {k : Int} (h : ¬ (1 ≤ k ∧ k ≤ 5)) (x y : Ac) (w : World) : Calls Try.prog 43 #[.int .i64 k, acV x, acV y] w (GivesAc zero w) := by
  by_cases h1 : k < 1
  · clear h
    go_enter Try.func43, Try.ntmps43
    go_wp2_with fail
    exact bodyPost_ret (v := acV zero) (by simp [results, Try.results43, go_sem]) rfl ⟨rfl, (((Below.refl _ _).alloc (Nat.le_refl _) _).alloc (by simp) _).alloc (by simp; omega) _⟩
  · have h5 : 5 < k := by omega
    have h1' : decide (k < 1) = false := decide_eq_false h1
    clear h h1
    go_enter Try.func43, Try.ntmps43
    go_wp2_with fail
    exact bodyPost_ret (v := acV zero) (by simp [results, Try.results43, go_sem]) rfl ⟨rfl, (((Below.refl _ _).alloc (Nat.le_refl _) _).alloc (by simp) _).alloc (by simp; omega) _⟩
theorem rfJoin_l {k : Int} (h : 1 ≤ k ∧ k ≤ 5) (x y : Ac) (hx : x.n = 0) (w : World) : Calls Try.prog 43 #[.int .i64 k, acV x, acV y] w (GivesAc y w) := by
  have h1 : decide (k < 1) = false := decide_eq_false (by omega)
  have h2 : decide (5 < k) = false := decide_eq_false (by omega)
  clear h
  have hb := eq_b hx
  clear hx
  go_enter Try.func43, Try.ntmps43
  go_wp2_with fail
  exact bodyPost_ret (v := acV y) (by simp [results, Try.results43, go_sem]) rfl ⟨rfl, (((Below.refl _ _).alloc (Nat.le_refl _) _).alloc (by simp) _).alloc (by simp; omega) _⟩
theorem rfJoin_r {k : Int} (h : 1 ≤ k ∧ k ≤ 5) (x y : Ac) (hx : x.n ≠ 0) (hy : y.n = 0) (w : World) : Calls Try.prog 43 #[.int .i64 k, acV x, acV y] w (GivesAc x w) := by
  have h1 : decide (k < 1) = false := decide_eq_false (by omega)
  have h2 : decide (5 < k) = false := decide_eq_false (by omega)
  clear h
  have hb := ne_b hx
  have hc := eq_b hy
  clear hx hy
  go_enter Try.func43, Try.ntmps43
  go_wp2_with fail
  exact bodyPost_ret (v := acV x) (by simp [results, Try.results43, go_sem]) rfl ⟨rfl, (((Below.refl _ _).alloc (Nat.le_refl _) _).alloc (by simp) _).alloc (by simp; omega) _⟩
theorem rfJoin_1 (x y : Ac) (hx : x.n ≠ 0) (hy : y.n ≠ 0) (w : World) : Calls Try.prog 43 #[.int .i64 1, acV x, acV y] w (GivesAc (both 1 x y) w) := by
  have hb := ne_b hx
  have hc := ne_b hy
  clear hx hy
  go_enter Try.func43, Try.ntmps43
  go_wp2_with (first | (go_at_call 50; refine (rfLeast _ _ _).mono ?_; rintro e w5 ⟨rfl, rfl⟩) | (go_at_call 51; refine (rfMost _ _ _).mono ?_; rintro e w5 ⟨rfl, rfl⟩))
  exact rj_ret (R := w.heap.size + 1 + 1) (x := both 1 x y) rfl rfl (lies_third _ _ _ _ _ _) (below_al4 _ _ _ _ _)
theorem rfJoin_2 (x y : Ac) (hx : x.n ≠ 0) (hy : y.n ≠ 0) (w : World) : Calls Try.prog 43 #[.int .i64 2, acV x, acV y] w (GivesAc (both 2 x y) w) := by
  have hb := ne_b hx
  have hc := ne_b hy
  clear hx hy
  go_enter Try.func43, Try.ntmps43
  go_wp2_with (first | (go_at_call 50; refine (rfLeast _ _ _).mono ?_; rintro e w5 ⟨rfl, rfl⟩) | (go_at_call 51; refine (rfMost _ _ _).mono ?_; rintro e w5 ⟨rfl, rfl⟩))
  exact rj_ret (R := w.heap.size + 1 + 1) (x := both 2 x y) rfl rfl (lies_third _ _ _ _ _ _) (below_al4 _ _ _ _ _)
theorem rfJoin_3 (x y : Ac) (hx : x.n ≠ 0) (hy : y.n ≠ 0) (w : World) : Calls Try.prog 43 #[.int .i64 3, acV x, acV y] w (GivesAc (both 3 x y) w) := by
  have hb := ne_b hx
  have hc := ne_b hy
  clear hx hy
  go_enter Try.func43, Try.ntmps43
  go_wp2_with (first | (go_at_call 50; refine (rfLeast _ _ _).mono ?_; rintro e w5 ⟨rfl, rfl⟩) | (go_at_call 51; refine (rfMost _ _ _).mono ?_; rintro e w5 ⟨rfl, rfl⟩))
  exact rj_ret (R := w.heap.size + 1 + 1) (x := both 3 x y) rfl rfl (lies_third _ _ _ _ _ _) (below_al4 _ _ _ _ _)
theorem rfJoin_4 (x y : Ac) (hx : x.n ≠ 0) (hy : y.n ≠ 0) (w : World) : Calls Try.prog 43 #[.int .i64 4, acV x, acV y] w (GivesAc (both 4 x y) w) := by
  have hb := ne_b hx
  have hc := ne_b hy
  clear hx hy
  go_enter Try.func43, Try.ntmps43
  go_wp2_with (first | (go_at_call 50; refine (rfLeast _ _ _).mono ?_; rintro e w5 ⟨rfl, rfl⟩) | (go_at_call 51; refine (rfMost _ _ _).mono ?_; rintro e w5 ⟨rfl, rfl⟩))
  exact rj_ret (R := w.heap.size + 1 + 1) (x := both 4 x y) rfl rfl (lies_third _ _ _ _ _ _) (below_al4 _ _ _ _ _)
theorem rfJoin_5 (x y : Ac) (hx : x.n ≠ 0) (hy : y.n ≠ 0) (w : World) : Calls Try.prog 43 #[.int .i64 5, acV x, acV y] w (GivesAc (both 5 x y) w) := by
  have hb := ne_b hx
  have hc := ne_b hy
  clear hx hy
  go_enter Try.func43, Try.ntmps43
  go_wp2_with (first | (go_at_call 50; refine (rfLeast _ _ _).mono ?_; rintro e w5 ⟨rfl, rfl⟩) | (go_at_call 51; refine (rfMost _ _ _).mono ?_; rintro e w5 ⟨rfl, rfl⟩))
  exact rj_ret (R := w.heap.size + 1 + 1) (x := both 5 x y) rfl rfl (lies_third _ _ _ _ _ _) (below_al4 _ _ _ _ _)
theorem rfJoin (k : Int) (x y : Ac) (w : World) : Calls Try.prog 43 #[.int .i64 k, acV x, acV y] w (GivesAc (join k x y) w) := by
  by_cases h : 1 ≤ k ∧ k ≤ 5
  · by_cases hx : x.n = 0
    · rw [join_l h hx]; exact rfJoin_l h x y hx w
    · by_cases hy : y.n = 0
      · rw [join_r h hx hy]; exact rfJoin_r h x y hx hy w
      · rw [join_b h hx hy]
        rcases kinds h with rfl | rfl | rfl | rfl | rfl
        · exact rfJoin_1 x y hx hy w
        · exact rfJoin_2 x y hx hy w
        · exact rfJoin_3 x y hx hy w
        · exact rfJoin_4 x y hx hy w
        · exact rfJoin_5 x y hx hy w
  · rw [join_bad h]; exact rfJoin_bad h x y w
end Go.Proofs.Ytklpfifellghlaa
