/- The walks of the tick laws over integers: each returns true, whatever the input. -/
import Derived.Test.YthmjdlhpfnkhoaaTick
import Derived.Test.YthmjdlhpfnkhoaaLift
namespace Go.Proofs.Ythmjdlhpfnkhoaa
open Go.ChangeShapes Go.WideShapes Go.ChangeAt Go.RowKit
open Tick
set_option linter.unusedVariables false

theorem walkTickAdds (a b : Int) (w : World) : Calls Try.prog 3 #[.int .i64 a, .int .i64 b] w fun e w' => e = .returned (.bool true) ∧ w = w' := by
  have h7 : (cl 7 == 7) = true := by decide
  go_enter Try.func3, Try.ntmps3
  go_wp2_with (first | (go_at_call 10; refine (tickClamp _ _).mono ?_; rintro e w' ⟨rfl, rfl⟩) | (go_at_call 11; refine (refClamp _ _).mono ?_; rintro e w' ⟨rfl, rfl⟩) | (go_at_call 12; refine (tickAdd _ _ _).mono ?_; rintro e w' ⟨rfl, rfl⟩) | (go_at_call 13; refine (refAdd _ _ _).mono ?_; rintro e w' ⟨rfl, rfl⟩) | (go_at_call 14; refine (tickSub _ _ _).mono ?_; rintro e w' ⟨rfl, rfl⟩) | (go_at_call 15; refine (refSub _ _ _).mono ?_; rintro e w' ⟨rfl, rfl⟩))
  go_ret
  exact ⟨rfl, rfl⟩

theorem lawTickAdds : Lift.Owes 3 [2, 2] := by
  intro H enc W base args ds ps hval hA _ _
  obtain ⟨v0, v1, d0, d1, p0, p1, rfl, rfl, rfl, h0, h1⟩ := trodAll_two hA
  obtain ⟨a, rfl, rfl, rfl, w0⟩ := open_int Try.underlying2 (hval 0 _ v0 rfl rfl) h0
  obtain ⟨b, rfl, rfl, rfl, w1⟩ := open_int Try.underlying2 (hval 1 _ v1 rfl rfl) h1
  exact (walkTickAdds a b W).mono fun e w' ⟨he, hw⟩ => ⟨he, hw ▸ Below.refl _ _⟩

theorem walkTickFloors (a b : Int) (w : World) : Calls Try.prog 4 #[.int .i64 a, .int .i64 b] w fun e w' => e = .returned (.bool true) ∧ w = w' := by
  have h7 : (floorT 7 2 == 6) = true := by decide
  go_enter Try.func4, Try.ntmps4
  go_wp2_with (first | (go_at_call 16; refine (tickFloor _ _ _).mono ?_; rintro e w' ⟨rfl, rfl⟩) | (go_at_call 17; refine (refFloor _ _ _).mono ?_; rintro e w' ⟨rfl, rfl⟩))
  go_ret
  exact ⟨rfl, rfl⟩

theorem lawTickFloors : Lift.Owes 4 [2, 2] := by
  intro H enc W base args ds ps hval hA _ _
  obtain ⟨v0, v1, d0, d1, p0, p1, rfl, rfl, rfl, h0, h1⟩ := trodAll_two hA
  obtain ⟨a, rfl, rfl, rfl, w0⟩ := open_int Try.underlying2 (hval 0 _ v0 rfl rfl) h0
  obtain ⟨b, rfl, rfl, rfl, w1⟩ := open_int Try.underlying2 (hval 1 _ v1 rfl rfl) h1
  exact (walkTickFloors a b W).mono fun e w' ⟨he, hw⟩ => ⟨he, hw ▸ Below.refl _ _⟩

theorem addT_eq (a b : Int) : addT a b = if 1099511627776 < cl a + cl b then 1099511627776 else cl a + cl b := by
  have h1 := cl_lo a
  have h3 := cl_lo b
  unfold addT
  generalize cl a = x at *
  generalize cl b = y at *
  unfold cl
  rw [if_neg (by omega)]
theorem subT_eq (a b : Int) : subT a b = if cl a < cl b then 0 else cl a - cl b := by
  have h1 := cl_lo a
  have h2 := cl_hi a
  have h3 := cl_lo b
  unfold subT
  generalize cl a = x at *
  generalize cl b = y at *
  unfold cl
  split
  · rw [if_pos (by omega)]
  · rw [if_neg (by omega), if_neg (by omega)]
theorem cl_addT (a b : Int) : cl (addT a b) = addT a b := by
  unfold addT
  exact cl_mid (cl_lo _) (cl_hi _)
theorem cl_subT (a b : Int) : cl (subT a b) = subT a b := by
  unfold subT
  exact cl_mid (cl_lo _) (cl_hi _)
theorem addT_comm (a b : Int) : addT a b = addT b a := by unfold addT; rw [Int.add_comm]
theorem addT_assoc (a b c : Int) : addT (addT a b) c = addT a (addT b c) := by
  rw [addT_eq (addT a b), addT_eq a (addT b c), cl_addT, cl_addT, addT_eq a b, addT_eq b c]
  have h1 := cl_lo a
  have h2 := cl_lo b
  have h3 := cl_lo c
  repeat' split
  all_goals omega
theorem addT_top (a : Int) : addT 1099511627776 a = 1099511627776 := by
  rw [addT_eq, show cl 1099511627776 = 1099511627776 from by decide]
  have h1 := cl_lo a
  split <;> omega
theorem cl_mono {a b : Int} (h : a ≤ b) : cl a ≤ cl b := by
  unfold cl
  repeat' split
  all_goals omega
theorem addT_mono {a b : Int} (h : a ≤ b) (c : Int) : addT a c ≤ addT b c := by unfold addT; exact cl_mono (by have := cl_mono h; omega)
theorem subT_mono {a b : Int} (h : a ≤ b) (c : Int) : subT a c ≤ subT b c := by unfold subT; exact cl_mono (by have := cl_mono h; omega)
theorem subT_anti {a b : Int} (h : a ≤ b) (c : Int) : subT c b ≤ subT c a := by unfold subT; exact cl_mono (by have := cl_mono h; omega)

theorem walkTickOrder (a b c : Int) (w : World) : Calls Try.prog 6 #[.int .i64 a, .int .i64 b, .int .i64 c] w fun e w' => e = .returned (.bool true) ∧ w = w' := by
  have h7 : (cl 7 == 7) = true := by decide
  have e1 : (addT a b != addT b a) = false := by rw [addT_comm]; simp
  have e2 : (addT (addT a b) c != addT a (addT b c)) = false := by rw [addT_assoc]; simp
  have e3 : (addT 1099511627776 a != 1099511627776) = false := by rw [addT_top]; rfl
  have b1 : 0 ≤ addT a b := cl_lo _
  have b2 : addT a b ≤ 1099511627776 := cl_hi _
  have b3 : 0 ≤ subT a b := cl_lo _
  by_cases h : a ≤ b
  · have m1 := addT_mono h c
    have m2 := subT_mono h c
    have m3 := subT_anti h c
    go_enter Try.func6, Try.ntmps6
    go_wp2_with (first | (go_at_call 10; refine (tickClamp _ _).mono ?_; rintro e w' ⟨rfl, rfl⟩) | (go_at_call 12; refine (tickAdd _ _ _).mono ?_; rintro e w' ⟨rfl, rfl⟩) | (go_at_call 14; refine (tickSub _ _ _).mono ?_; rintro e w' ⟨rfl, rfl⟩))
    go_ret
    exact ⟨rfl, rfl⟩
  · go_enter Try.func6, Try.ntmps6
    go_wp2_with (first | (go_at_call 10; refine (tickClamp _ _).mono ?_; rintro e w' ⟨rfl, rfl⟩) | (go_at_call 12; refine (tickAdd _ _ _).mono ?_; rintro e w' ⟨rfl, rfl⟩) | (go_at_call 14; refine (tickSub _ _ _).mono ?_; rintro e w' ⟨rfl, rfl⟩))
    go_ret
    exact ⟨rfl, rfl⟩

theorem lawTickOrder : Lift.Owes 6 [2, 2, 2] := by
  intro H enc W base args ds ps hval hA _ _
  obtain ⟨v0, v1, v2, d0, d1, d2, p0, p1, p2, rfl, rfl, rfl, h0, h1, h2⟩ := trodAll_three hA
  obtain ⟨a, rfl, rfl, rfl, w0⟩ := open_int Try.underlying2 (hval 0 _ v0 rfl rfl) h0
  obtain ⟨b, rfl, rfl, rfl, w1⟩ := open_int Try.underlying2 (hval 1 _ v1 rfl rfl) h1
  obtain ⟨c, rfl, rfl, rfl, w2⟩ := open_int Try.underlying2 (hval 2 _ v2 rfl rfl) h2
  exact (walkTickOrder a b c W).mono fun e w' ⟨he, hw⟩ => ⟨he, hw ▸ Below.refl _ _⟩

theorem walkTickBack (a b : Int) (w : World) : Calls Try.prog 7 #[.int .i64 a, .int .i64 b] w fun e w' => e = .returned (.bool true) ∧ w = w' := by
  have h7 : (cl 7 == 7) = true := by decide
  have l1 := cl_lo a
  have l2 := cl_hi a
  have l3 := cl_lo b
  have l4 := cl_hi b
  have f1 : cl a ≤ 1099511627776 - cl b → subT (addT a b) b = cl a := fun h => by
    rw [subT_eq, cl_addT, addT_eq, if_neg (show ¬ 1099511627776 < cl a + cl b by omega), if_neg (by omega)]; omega
  have f2 : cl b ≤ cl a → addT (subT a b) b = cl a := fun h => by
    rw [addT_eq, cl_subT, subT_eq, if_neg (show ¬ cl a < cl b by omega), if_neg (by omega)]; omega
  by_cases h : cl a ≤ 1099511627776 - cl b
  · have e1 : (subT (addT a b) b != cl a) = false := by rw [f1 h]; simp
    by_cases h' : cl a < cl b
    · clear f1 f2
      go_enter Try.func7, Try.ntmps7
      go_wp2_with (first | (go_at_call 10; refine (tickClamp _ _).mono ?_; rintro e w' ⟨rfl, rfl⟩) | (go_at_call 12; refine (tickAdd _ _ _).mono ?_; rintro e w' ⟨rfl, rfl⟩) | (go_at_call 14; refine (tickSub _ _ _).mono ?_; rintro e w' ⟨rfl, rfl⟩))
      go_ret
      exact ⟨rfl, rfl⟩
    · have e2 : (addT (subT a b) b == cl a) = true := by rw [f2 (by omega)]; simp
      clear f1 f2
      go_enter Try.func7, Try.ntmps7
      go_wp2_with (first | (go_at_call 10; refine (tickClamp _ _).mono ?_; rintro e w' ⟨rfl, rfl⟩) | (go_at_call 12; refine (tickAdd _ _ _).mono ?_; rintro e w' ⟨rfl, rfl⟩) | (go_at_call 14; refine (tickSub _ _ _).mono ?_; rintro e w' ⟨rfl, rfl⟩))
      go_ret
      exact ⟨rfl, rfl⟩
  · by_cases h' : cl a < cl b
    · clear f1 f2
      go_enter Try.func7, Try.ntmps7
      go_wp2_with (first | (go_at_call 10; refine (tickClamp _ _).mono ?_; rintro e w' ⟨rfl, rfl⟩) | (go_at_call 12; refine (tickAdd _ _ _).mono ?_; rintro e w' ⟨rfl, rfl⟩) | (go_at_call 14; refine (tickSub _ _ _).mono ?_; rintro e w' ⟨rfl, rfl⟩))
      go_ret
      exact ⟨rfl, rfl⟩
    · have e2 : (addT (subT a b) b == cl a) = true := by rw [f2 (by omega)]; simp
      clear f1 f2
      go_enter Try.func7, Try.ntmps7
      go_wp2_with (first | (go_at_call 10; refine (tickClamp _ _).mono ?_; rintro e w' ⟨rfl, rfl⟩) | (go_at_call 12; refine (tickAdd _ _ _).mono ?_; rintro e w' ⟨rfl, rfl⟩) | (go_at_call 14; refine (tickSub _ _ _).mono ?_; rintro e w' ⟨rfl, rfl⟩))
      go_ret
      exact ⟨rfl, rfl⟩

theorem lawTickBack : Lift.Owes 7 [2, 2] := by
  intro H enc W base args ds ps hval hA _ _
  obtain ⟨v0, v1, d0, d1, p0, p1, rfl, rfl, rfl, h0, h1⟩ := trodAll_two hA
  obtain ⟨a, rfl, rfl, rfl, w0⟩ := open_int Try.underlying2 (hval 0 _ v0 rfl rfl) h0
  obtain ⟨b, rfl, rfl, rfl, w1⟩ := open_int Try.underlying2 (hval 1 _ v1 rfl rfl) h1
  exact (walkTickBack a b W).mono fun e w' ⟨he, hw⟩ => ⟨he, hw ▸ Below.refl _ _⟩

theorem walkTickSteps (t s : Int) (w : World) : Calls Try.prog 8 #[.int .i64 t, .int .i64 s] w fun e w' => e = .returned (.bool true) ∧ w = w' := by
  have h7 : (cl 7 == 7) = true := by decide
  have l1 := cl_lo t
  have l2 := cl_hi t
  rcases Int.lt_or_le s 1 with h | h
  · have z : (floorT t s == 0) = true := by unfold floorT; rw [if_pos (Or.inl h)]; rfl
    go_enter Try.func8, Try.ntmps8
    go_wp2_with (first | (go_at_call 10; refine (tickClamp _ _).mono ?_; rintro e w' ⟨rfl, rfl⟩) | (go_at_call 16; refine (tickFloor _ _ _).mono ?_; rintro e w' ⟨rfl, rfl⟩))
    go_ret
    exact ⟨rfl, rfl⟩
  rcases Int.lt_or_le 1099511627776 s with h' | h'
  · have z : (floorT t s == 0) = true := by unfold floorT; rw [if_pos (Or.inr h')]; rfl
    go_enter Try.func8, Try.ntmps8
    go_wp2_with (first | (go_at_call 10; refine (tickClamp _ _).mono ?_; rintro e w' ⟨rfl, rfl⟩) | (go_at_call 16; refine (tickFloor _ _ _).mono ?_; rintro e w' ⟨rfl, rfl⟩))
    go_ret
    exact ⟨rfl, rfl⟩
  · obtain ⟨g1, g2, g3⟩ := floor_lo l1 h
    have f1 : floorT t s = cl t - cl t % s := if_neg (by omega)
    have f2 : (floorT t s) % s = 0 := by
      rw [f1]; exact Int.emod_eq_zero_of_dvd (Int.dvd_self_sub_emod)
    have f3 : 0 ≤ floorT t s := by omega
    have f4 : floorT t s ≤ cl t := by omega
    have f5 : cl t - floorT t s < s := by omega
    have f6 : floorT (floorT t s) s = floorT t s := by
      have e : cl (floorT t s) = floorT t s := cl_mid f3 (by omega)
      rw [show floorT (floorT t s) s = cl (floorT t s) - cl (floorT t s) % s from if_neg (by omega), e, f2]; omega
    have e1 : (floorT t s % s == 0) = true := by rw [f2]; rfl
    have e2 : (floorT (floorT t s) s == floorT t s) = true := by rw [f6]; simp
    have e3 : (s == 0) = false := by simp; omega
    clear f1 f2 f6 g1 g2 g3
    go_enter Try.func8, Try.ntmps8
    go_wp2_with (first | (go_at_call 10; refine (tickClamp _ _).mono ?_; rintro e w' ⟨rfl, rfl⟩) | (go_at_call 16; refine (tickFloor _ _ _).mono ?_; rintro e w' ⟨rfl, rfl⟩))
    go_ret
    exact ⟨rfl, rfl⟩

theorem lawTickSteps : Lift.Owes 8 [2, 2] := by
  intro H enc W base args ds ps hval hA _ _
  obtain ⟨v0, v1, d0, d1, p0, p1, rfl, rfl, rfl, h0, h1⟩ := trodAll_two hA
  obtain ⟨a, rfl, rfl, rfl, w0⟩ := open_int Try.underlying2 (hval 0 _ v0 rfl rfl) h0
  obtain ⟨b, rfl, rfl, rfl, w1⟩ := open_int Try.underlying2 (hval 1 _ v1 rfl rfl) h1
  exact (walkTickSteps a b W).mono fun e w' ⟨he, hw⟩ => ⟨he, hw ▸ Below.refl _ _⟩

end Go.Proofs.Ythmjdlhpfnkhoaa
