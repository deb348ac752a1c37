/- The walk of the law WindowMoves. -/
import Derived.Test.YtehnhhkhnedgeaaLawsWin
import Derived.Test.YtehnhhkhnedgeaaWinFactsB
namespace Go.Proofs.Ytehnhhkhnedgeaa
open Go.ChangeShapes Go.WideShapes Go.ChangeAt Go.RowKit
open Tick
set_option linter.unusedVariables false
set_option maxRecDepth 100000 in
set_option maxHeartbeats 2000000 in
theorem movesNone (s d t : Int) (w : World) (hg : ¬ (Win.ok s d = true ∧ s ≤ t ∧ t < 1099511627776 - s - d)) : Calls Try.prog 8 #[.int .i64 s, .int .i64 d, .int .i64 t] w fun e w' => e = .returned (.bool true) ∧ Below w.heap.size w w' := by
  by_cases h1 : Win.ok s d = true
  · have H := Lib.hid h1
    obtain ⟨o1, o2, o3, o4⟩ := Win.ok_iff.1 h1
    by_cases h2 : t < s
    · clear h1 hg
      go_enter Try.func8, Try.ntmps8
      go_wp2_with (first
        | (go_at_call 10; refine (winRight _ _ _).mono ?_; rw [H.out]; rintro e w' ⟨rfl, rfl⟩)
        | (go_at_call 9; refine (lawAlive _).mono ?_; rintro e w' ⟨rfl, rfl⟩))
      go_ret
      exact ⟨rfl, Below.refl _ _⟩
    · have h3 : 1099511627776 - s - d ≤ t := by
        by_cases h4 : t < 1099511627776 - s - d
        · exact absurd ⟨h1, by omega, h4⟩ hg
        · omega
      have h4 : s ≤ t := by omega
      clear h1 hg h2
      go_enter Try.func8, Try.ntmps8
      go_wp2_with (first
        | (go_at_call 10; refine (winRight _ _ _).mono ?_; rw [H.out]; rintro e w' ⟨rfl, rfl⟩)
        | (go_at_call 9; refine (lawAlive _).mono ?_; rintro e w' ⟨rfl, rfl⟩))
      go_ret
      exact ⟨rfl, Below.refl _ _⟩
  · have H : Hid (Win.ok s d = false) := Lib.hid (by simpa using h1)
    clear h1 hg
    go_enter Try.func8, Try.ntmps8
    go_wp2_with (first
      | (go_at_call 10; refine (winRight _ _ _).mono ?_; rw [H.out]; rintro e w' ⟨rfl, rfl⟩)
      | (go_at_call 9; refine (lawAlive _).mono ?_; rintro e w' ⟨rfl, rfl⟩))
    go_ret
    exact ⟨rfl, Below.refl _ _⟩
set_option maxRecDepth 100000 in
set_option maxHeartbeats 2000000 in
theorem movesSome (s d t : Int) (w : World) (hg : Win.ok s d = true) (h1 : s ≤ t) (h2 : t < 1099511627776 - s - d) : Calls Try.prog 8 #[.int .i64 s, .int .i64 d, .int .i64 t] w
    fun e w' => e = .returned (.bool true) ∧ Below w.heap.size w w' := by
  have H := Lib.hid hg
  obtain ⟨o1, o2, o3, o4⟩ := Win.ok_iff.1 hg
  obtain ⟨g1, g2⟩ := Win.good_mv hg h1 h2
  have HO : GivesF 13 #[.int .i64 s, .int .i64 d, .int .i64 t] (Win.of s d t) := ⟨winOf s d t⟩
  have HP : GivesF 13 #[.int .i64 s, .int .i64 d, .int .i64 (t + d)] (Win.of s d (t + d)) := ⟨winOf s d (t + d)⟩
  have HL := Lib.hid (Win.of_len g1)
  have HL2 := Lib.hid ((Win.of_len g2).trans (Win.cnt_mv hg h1))
  have HMV := Lib.hid fun (i : Nat) => Win.of_mv hg h1 h2 (i := i)
  have n1 := Win.cnt_pos (size := s) o1 o2 (show 0 ≤ t by omega)
  have n16 := Win.cnt_le (size := s) o1 o4 (show 0 ≤ t by omega)
  obtain ⟨xs, hxs⟩ : ∃ xs, xs = Win.of s d t := ⟨_, rfl⟩
  obtain ⟨ys, hys⟩ : ∃ ys, ys = Win.of s d (t + d) := ⟨_, rfl⟩
  obtain ⟨n, hn⟩ : ∃ n, n = Win.cnt s d t := ⟨_, rfl⟩
  rw [← hn] at HL HL2 HMV n1 n16
  rw [← hxs] at HO HL HMV
  rw [← hys] at HP HL2 HMV
  have hlx := HL.out
  have hly := HL2.out
  clear hg g1 g2 hxs hys hn
  go_enter Try.func8, Try.ntmps8
  go_wp2_with (first | (go_at_call 10; refine (winRight _ _ _).mono ?_; rw [H.out]; rintro e w' ⟨rfl, rfl⟩) | fail)
  refine (HO.run _).mono ?_
  rintro e w1 ⟨A, c, rfl, k1, k2, k3, k4⟩
  have K3 := Lib.hid k3
  have K4 := Lib.hid k4
  rw [hlx] at k1
  rw [hlx]
  clear k3 k4
  go_wp2_with fail
  refine (HP.run _).mono ?_
  rintro e w2 ⟨A', c', rfl, m1, m2, m3, m4⟩
  have R1 := Lib.hid (K3.out.below m4)
  have R2 := Lib.hid m3
  have R3 := Lib.hid (below_next K4.out m4)
  rw [hly] at m1
  rw [hly]
  clear m3 m4
  go_wp2_with fail
  go_loopw [51] (fun i wr => ∃ k : Nat, i = .int .i64 k ∧ k ≤ n ∧ Row wr A (wc xs) ∧ Row wr A' (wc ys) ∧ Below w.heap.size w wr) (fun i _ => n - (intOf i).toNat)
  case atStart => exact ⟨0, rfl, Nat.zero_le _, R1.out, R2.out, R3.out⟩
  case round =>
    obtain ⟨k, rfl, hk, hr, hr2, hb⟩ := hrel
    have hbz := hb.size
    have HR := Lib.hid hr
    have HR2 := Lib.hid hr2
    have HB := Lib.hid hb
    clear hr hr2 hb
    by_cases hlt : k < n
    · obtain ⟨a, b, e1, e2, a0, a1, b0, b1⟩ := HMV.out k hlt
      obtain ⟨p, off, rfl, c0, c1⟩ := HR.out.win e1
      obtain ⟨q, off2, rfl, d0, d1⟩ := HR2.out.win e2
      have hp := lt_of_cell c0
      have hq := lt_of_cell d0
      simp only at hp hq c0 c1 d0 d1
      have he : ∀ w : World, (binOp .neq 29 (.agg #[.int .i64 (a + d), .int .i64 (b + d)]) (.agg #[.int .i64 (a + d), .int .i64 (b + d)])).run Try.prog w = .ok (.bool false) w := fun w => by rw [run_neWin]; simp
      have E1 := Lib.hid e1
      have E2 := Lib.hid e2
      clear e1 e2
      go_wp2_with fail
      go_quiet (fail)
      go_wp2_with fail
      go_roundw
      case rel => exact ⟨k + 1, by go_num, by omega, HR.out.below (below_drewN ((Below.refl _ _).alloc (Nat.le_refl _) _)), HR2.out.below (below_drewN ((Below.refl _ _).alloc (Nat.le_refl _) _)), below_drewN (HB.out.alloc hbz _)⟩
      case measure => simp [intOf]; omega
    · have hge : n ≤ k := by omega
      clear hlt
      go_wp2_with (go_at_call 9; refine (lawAlive _).mono ?_; rintro e w' ⟨rfl, rfl⟩)
      go_ret
      exact ⟨rfl, HB.out⟩
theorem lawWindowMoves : Lift.Owes 8 [2, 2, 2] := by
  intro H enc W base args ds ps hval hA _ _
  obtain ⟨v0, v1, v2, d0, d1, d2, p0, p1, p2, rfl, rfl, rfl, h0, h1, h2⟩ := trodAll_three hA
  obtain ⟨a, rfl, rfl, rfl, w0⟩ := open_int Try.underlying2 (hval 0 _ v0 rfl rfl) h0
  obtain ⟨b, rfl, rfl, rfl, w1⟩ := open_int Try.underlying2 (hval 1 _ v1 rfl rfl) h1
  obtain ⟨c, rfl, rfl, rfl, w2⟩ := open_int Try.underlying2 (hval 2 _ v2 rfl rfl) h2
  by_cases hg : Win.ok a b = true ∧ a ≤ c ∧ c < 1099511627776 - a - b
  · exact movesSome a b c W hg.1 hg.2.1 hg.2.2
  · exact movesNone a b c W hg
end Go.Proofs.Ytehnhhkhnedgeaa
