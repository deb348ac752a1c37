/- The walk of the law WindowCounts. -/
import Derived.Test.YtehnhhkhnedgeaaLawsWin
import Derived.Test.YtehnhhkhnedgeaaWinFacts
namespace Go.Proofs.Ytehnhhkhnedgeaa
open Go.ChangeShapes Go.WideShapes Go.ChangeAt Go.RowKit
open Tick
set_option linter.unusedVariables false
set_option maxRecDepth 100000 in
set_option maxHeartbeats 2000000 in
theorem countsNone (s d t : Int) (w : World) (hg : Win.good s d t = false) : Calls Try.prog 5 #[.int .i64 s, .int .i64 d, .int .i64 t] w fun e w' => e = .returned (.bool true) ∧ Below w.heap.size w w' := by
  have HO := Lib.hid (winOf s d t)
  rw [Win.of_not hg] at HO
  by_cases h1 : Win.ok s d = true
  · have H := Lib.hid h1
    by_cases h2 : t < 0
    · clear h1 hg
      go_enter Try.func5, Try.ntmps5
      go_wp2_with fail
      refine (HO.out _).mono ?_
      rintro e w1 ⟨A, c, rfl, g1, g2, g3, g4⟩
      go_wp2_with (first
        | (go_at_call 10; refine (winRight _ _ _).mono ?_; rw [H.out]; rintro e w' ⟨rfl, rfl⟩)
        | (go_at_call 9; refine (lawAlive _).mono ?_; rintro e w' ⟨rfl, rfl⟩))
      go_ret
      exact ⟨rfl, g4⟩
    · have h3 : 1099511627776 ≤ t := by
        by_cases h4 : t < 1099511627776
        · simp [Win.good, h1] at hg; omega
        · omega
      have h4 : 0 ≤ t := by omega
      clear h1 hg h2
      go_enter Try.func5, Try.ntmps5
      go_wp2_with fail
      refine (HO.out _).mono ?_
      rintro e w1 ⟨A, c, rfl, g1, g2, g3, g4⟩
      go_wp2_with (first
        | (go_at_call 10; refine (winRight _ _ _).mono ?_; rw [H.out]; rintro e w' ⟨rfl, rfl⟩)
        | (go_at_call 9; refine (lawAlive _).mono ?_; rintro e w' ⟨rfl, rfl⟩))
      go_ret
      exact ⟨rfl, g4⟩
  · have H : Hid (Win.ok s d = false) := Lib.hid (by simpa using h1)
    clear h1 hg
    go_enter Try.func5, Try.ntmps5
    go_wp2_with fail
    refine (HO.out _).mono ?_
    rintro e w1 ⟨A, c, rfl, g1, g2, g3, g4⟩
    go_wp2_with (first
      | (go_at_call 10; refine (winRight _ _ _).mono ?_; rw [H.out]; rintro e w' ⟨rfl, rfl⟩)
      | (go_at_call 9; refine (lawAlive _).mono ?_; rintro e w' ⟨rfl, rfl⟩))
    go_ret
    exact ⟨rfl, g4⟩
set_option maxRecDepth 100000 in
set_option maxHeartbeats 4000000 in
theorem countsSome11 (s d t : Int) (w : World) (hg : Win.good s d t = true) (hA : s - 1 ≤ t) (hB : s = d) : Calls Try.prog 5 #[.int .i64 s, .int .i64 d, .int .i64 t] w fun e w' => e = .returned (.bool true) ∧ Below w.heap.size w w' := by
  obtain ⟨⟨o1, o2, o3, o4⟩, g1, g2⟩ := Win.good_iff.1 hg
  have H := Lib.hid (Win.ok_iff.2 ⟨o1, o2, o3, o4⟩)
  have G := Lib.hid hg
  obtain ⟨n1, n2, n3, n4⟩ := Win.cnt_facts hg
  have HO := Lib.hid (winOf s d t)
  have HL := Lib.hid (Win.of_len hg)
  have n16 := Win.cnt_le (size := s) o1 o4 g1
  obtain ⟨xs, hxs⟩ : ∃ xs, xs = Win.of s d t := ⟨_, rfl⟩
  obtain ⟨n, hn⟩ : ∃ n, n = Win.cnt s d t := ⟨_, rfl⟩
  rw [← hxs] at HO HL
  rw [← hn] at HL n1 n2 n3 n4 n16
  have HX := Lib.hid hxs
  have HN := Lib.hid hn
  have N3 := Lib.hid n3
  have N4 := Lib.hid n4
  have hlen : xs.length = n := HL.out
  clear hg hxs hn n3 n4
  obtain ⟨a1, a2⟩ := (⟨hA, N3.out hA⟩ : s - 1 ≤ t ∧ s / d ≤ n)
  clear hA
  obtain ⟨b1, b2⟩ : (s == d) = true ∧ ((n : Int) != 1) = false := ⟨eq_b hB, nb0 (by have := N4.out hB; omega)⟩
  clear hB
  have hq1 : s / d ≤ s := Int.ediv_le_self _ (by omega)
  go_enter Try.func5, Try.ntmps5
  go_wp2_with fail
  refine (HO.out _).mono ?_
  rintro e w1 ⟨A, c, rfl, k1, k2, k3, k4⟩
  have K3 := Lib.hid k3
  have K4 := Lib.hid k4
  rw [hlen] at k1
  rw [hlen]
  clear k3 k4
  go_wp2_with (go_at_call 10; refine (winRight _ _ _).mono ?_; rw [H.out]; rintro e w' ⟨rfl, rfl⟩)
  clear a1 b1
  go_loopw [69] (fun i wr => ∃ k : Nat, i = .int .i64 k ∧ k ≤ n ∧ Row wr A (wc xs) ∧ Below w.heap.size w wr) (fun i _ => n - (intOf i).toNat)
  case atStart => exact ⟨0, rfl, Nat.zero_le _, K3.out, K4.out⟩
  case round =>
    obtain ⟨k, rfl, hk, hr, hb⟩ := hrel
    have HRW := Lib.hid hr
    have HB := Lib.hid hb
    have hbz := hb.size
    clear hr hb
    by_cases hlt : k < n
    · have hat := Win.of_at G.out (i := k) (by rw [← HN.out]; exact hlt)
      have hbd := Win.lo_bd G.out (i := k) (by rw [← HN.out]; exact hlt)
      rw [← HX.out] at hat
      have HPREV : Hid (∀ j, k = j + 1 → ∃ h', xs[j]? = some (Win.lo s d t k - d, h')) := Lib.hid fun j hj => by
        have h1 := Win.of_at G.out (i := j) (by rw [← HN.out]; omega)
        rw [← HX.out] at h1
        have h2 := Win.lo_next (s := s) (d := d) (t := t) (i := j) (by rw [← HN.out]; omega)
        subst hj
        exact ⟨Win.hiOf s (Win.lo s d t j), by rw [h1, h2, Int.add_sub_cancel]⟩
      obtain ⟨lo, hlo⟩ : ∃ lo, lo = Win.lo s d t k := ⟨_, rfl⟩
      rw [← hlo] at hat hbd HPREV
      obtain ⟨l0, l1, l2, l3⟩ := hbd
      obtain ⟨q1, q2, q3⟩ := Win.hi_bd l2 g2
      obtain ⟨hi, hhi⟩ : ∃ hi, hi = Win.hiOf s lo := ⟨_, rfl⟩
      rw [← hhi] at hat q1 q2 q3
      obtain ⟨b, off, rfl, c0, c1⟩ := HRW.out.win hat
      have t1 : (lo % d != 0) = false := nb0 l3
      have t2 : decide (t < lo) = false := decide_eq_false (by omega)
      have t3 : decide (hi ≤ t) = false := decide_eq_false (by omega)
      have t4 : decide (1099511627776 < hi) = false := decide_eq_false (by omega)
      have t5 : (hi != 1099511627776) = false ∨ ((hi != 1099511627776) = true ∧ (hi - lo != s) = false) := by
        rcases q3 with h | h
        · exact .inl (nb0 h)
        · by_cases h2 : hi = 1099511627776
          · exact .inl (nb0 h2)
          · exact .inr ⟨nb h2, nb0 h⟩
      have HLO := Lib.hid hlo
      have HHI := Lib.hid hhi
      have L3 := Lib.hid l3
      have Q3 := Lib.hid q3
      have HAT := Lib.hid hat
      clear hlo hhi l3 q3 hat
      cases k with
      | zero =>
        have t6 : decide ((0 : Int) < ((0 : Nat) : Int)) = false := by simp
        simp only [Nat.zero_mul, Nat.add_zero] at c0 c1
        rcases t5 with t5 | ⟨t5, t7⟩
        all_goals
          go_wp2_with fail
          go_quiet (fail)
          go_wp2_with fail
          go_roundw
          case rel => exact ⟨1, by go_num, by omega, HRW.out.below (below_drewN ((Below.refl _ _).alloc (Nat.le_refl _) _)), below_drewN (HB.out.alloc hbz _)⟩
          case measure => simp [intOf]; omega
      | succ j =>
        obtain ⟨h', hp⟩ := HPREV.out j rfl
        obtain ⟨b2, off2, e2, p0, p1⟩ := HRW.out.win hp
        cases e2
        have t6 : decide ((0 : Int) < ((j + 1 : Nat) : Int)) = true := by simp
        obtain ⟨pl, hpl⟩ : ∃ pl, pl = lo - d := ⟨_, rfl⟩
        rw [← hpl] at p0
        have t8 : (lo != pl + d) = false := nb0 (by omega)
        have pb1 : pl ≤ t := by omega
        have pb2 : -1048576 ≤ pl := by omega
        have hbw : b < wr.heap.size := lt_of_cell c0
        have HPL := Lib.hid hpl
        clear hpl
        have HP := Lib.hid hp
        clear hp p1
        rcases t5 with t5 | ⟨t5, t7⟩
        all_goals
          go_wp2_with fail
          go_quiet (fail)
          go_wp2_with fail
          go_roundw
          case rel => exact ⟨j + 2, by go_num, by omega, HRW.out.below (below_drewN ((Below.refl _ _).alloc (Nat.le_refl _) _)), below_drewN (HB.out.alloc hbz _)⟩
          case measure => simp [intOf]; omega
    · have hge : n ≤ k := by omega
      clear hlt
      go_wp2_with (go_at_call 9; refine (lawAlive _).mono ?_; rintro e w' ⟨rfl, rfl⟩)
      go_ret
      exact ⟨rfl, HB.out⟩
set_option maxRecDepth 100000 in
set_option maxHeartbeats 4000000 in
theorem countsSome12 (s d t : Int) (w : World) (hg : Win.good s d t = true) (hA : s - 1 ≤ t) (hB : s ≠ d) : Calls Try.prog 5 #[.int .i64 s, .int .i64 d, .int .i64 t] w fun e w' => e = .returned (.bool true) ∧ Below w.heap.size w w' := by
  obtain ⟨⟨o1, o2, o3, o4⟩, g1, g2⟩ := Win.good_iff.1 hg
  have H := Lib.hid (Win.ok_iff.2 ⟨o1, o2, o3, o4⟩)
  have G := Lib.hid hg
  obtain ⟨n1, n2, n3, n4⟩ := Win.cnt_facts hg
  have HO := Lib.hid (winOf s d t)
  have HL := Lib.hid (Win.of_len hg)
  have n16 := Win.cnt_le (size := s) o1 o4 g1
  obtain ⟨xs, hxs⟩ : ∃ xs, xs = Win.of s d t := ⟨_, rfl⟩
  obtain ⟨n, hn⟩ : ∃ n, n = Win.cnt s d t := ⟨_, rfl⟩
  rw [← hxs] at HO HL
  rw [← hn] at HL n1 n2 n3 n4 n16
  have HX := Lib.hid hxs
  have HN := Lib.hid hn
  have N3 := Lib.hid n3
  have N4 := Lib.hid n4
  have hlen : xs.length = n := HL.out
  clear hg hxs hn n3 n4
  obtain ⟨a1, a2⟩ := (⟨hA, N3.out hA⟩ : s - 1 ≤ t ∧ s / d ≤ n)
  clear hA
  have b1 : (s == d) = false := ne_b hB
  clear hB
  have hq1 : s / d ≤ s := Int.ediv_le_self _ (by omega)
  go_enter Try.func5, Try.ntmps5
  go_wp2_with fail
  refine (HO.out _).mono ?_
  rintro e w1 ⟨A, c, rfl, k1, k2, k3, k4⟩
  have K3 := Lib.hid k3
  have K4 := Lib.hid k4
  rw [hlen] at k1
  rw [hlen]
  clear k3 k4
  go_wp2_with (go_at_call 10; refine (winRight _ _ _).mono ?_; rw [H.out]; rintro e w' ⟨rfl, rfl⟩)
  clear a1 b1
  go_loopw [69] (fun i wr => ∃ k : Nat, i = .int .i64 k ∧ k ≤ n ∧ Row wr A (wc xs) ∧ Below w.heap.size w wr) (fun i _ => n - (intOf i).toNat)
  case atStart => exact ⟨0, rfl, Nat.zero_le _, K3.out, K4.out⟩
  case round =>
    obtain ⟨k, rfl, hk, hr, hb⟩ := hrel
    have HRW := Lib.hid hr
    have HB := Lib.hid hb
    have hbz := hb.size
    clear hr hb
    by_cases hlt : k < n
    · have hat := Win.of_at G.out (i := k) (by rw [← HN.out]; exact hlt)
      have hbd := Win.lo_bd G.out (i := k) (by rw [← HN.out]; exact hlt)
      rw [← HX.out] at hat
      have HPREV : Hid (∀ j, k = j + 1 → ∃ h', xs[j]? = some (Win.lo s d t k - d, h')) := Lib.hid fun j hj => by
        have h1 := Win.of_at G.out (i := j) (by rw [← HN.out]; omega)
        rw [← HX.out] at h1
        have h2 := Win.lo_next (s := s) (d := d) (t := t) (i := j) (by rw [← HN.out]; omega)
        subst hj
        exact ⟨Win.hiOf s (Win.lo s d t j), by rw [h1, h2, Int.add_sub_cancel]⟩
      obtain ⟨lo, hlo⟩ : ∃ lo, lo = Win.lo s d t k := ⟨_, rfl⟩
      rw [← hlo] at hat hbd HPREV
      obtain ⟨l0, l1, l2, l3⟩ := hbd
      obtain ⟨q1, q2, q3⟩ := Win.hi_bd l2 g2
      obtain ⟨hi, hhi⟩ : ∃ hi, hi = Win.hiOf s lo := ⟨_, rfl⟩
      rw [← hhi] at hat q1 q2 q3
      obtain ⟨b, off, rfl, c0, c1⟩ := HRW.out.win hat
      have t1 : (lo % d != 0) = false := nb0 l3
      have t2 : decide (t < lo) = false := decide_eq_false (by omega)
      have t3 : decide (hi ≤ t) = false := decide_eq_false (by omega)
      have t4 : decide (1099511627776 < hi) = false := decide_eq_false (by omega)
      have t5 : (hi != 1099511627776) = false ∨ ((hi != 1099511627776) = true ∧ (hi - lo != s) = false) := by
        rcases q3 with h | h
        · exact .inl (nb0 h)
        · by_cases h2 : hi = 1099511627776
          · exact .inl (nb0 h2)
          · exact .inr ⟨nb h2, nb0 h⟩
      have HLO := Lib.hid hlo
      have HHI := Lib.hid hhi
      have L3 := Lib.hid l3
      have Q3 := Lib.hid q3
      have HAT := Lib.hid hat
      clear hlo hhi l3 q3 hat
      cases k with
      | zero =>
        have t6 : decide ((0 : Int) < ((0 : Nat) : Int)) = false := by simp
        simp only [Nat.zero_mul, Nat.add_zero] at c0 c1
        rcases t5 with t5 | ⟨t5, t7⟩
        all_goals
          go_wp2_with fail
          go_quiet (fail)
          go_wp2_with fail
          go_roundw
          case rel => exact ⟨1, by go_num, by omega, HRW.out.below (below_drewN ((Below.refl _ _).alloc (Nat.le_refl _) _)), below_drewN (HB.out.alloc hbz _)⟩
          case measure => simp [intOf]; omega
      | succ j =>
        obtain ⟨h', hp⟩ := HPREV.out j rfl
        obtain ⟨b2, off2, e2, p0, p1⟩ := HRW.out.win hp
        cases e2
        have t6 : decide ((0 : Int) < ((j + 1 : Nat) : Int)) = true := by simp
        obtain ⟨pl, hpl⟩ : ∃ pl, pl = lo - d := ⟨_, rfl⟩
        rw [← hpl] at p0
        have t8 : (lo != pl + d) = false := nb0 (by omega)
        have pb1 : pl ≤ t := by omega
        have pb2 : -1048576 ≤ pl := by omega
        have hbw : b < wr.heap.size := lt_of_cell c0
        have HPL := Lib.hid hpl
        clear hpl
        have HP := Lib.hid hp
        clear hp p1
        rcases t5 with t5 | ⟨t5, t7⟩
        all_goals
          go_wp2_with fail
          go_quiet (fail)
          go_wp2_with fail
          go_roundw
          case rel => exact ⟨j + 2, by go_num, by omega, HRW.out.below (below_drewN ((Below.refl _ _).alloc (Nat.le_refl _) _)), below_drewN (HB.out.alloc hbz _)⟩
          case measure => simp [intOf]; omega
    · have hge : n ≤ k := by omega
      clear hlt
      go_wp2_with (go_at_call 9; refine (lawAlive _).mono ?_; rintro e w' ⟨rfl, rfl⟩)
      go_ret
      exact ⟨rfl, HB.out⟩
set_option maxRecDepth 100000 in
set_option maxHeartbeats 4000000 in
theorem countsSome21 (s d t : Int) (w : World) (hg : Win.good s d t = true) (hA : t < s - 1) (hB : s = d) : Calls Try.prog 5 #[.int .i64 s, .int .i64 d, .int .i64 t] w fun e w' => e = .returned (.bool true) ∧ Below w.heap.size w w' := by
  obtain ⟨⟨o1, o2, o3, o4⟩, g1, g2⟩ := Win.good_iff.1 hg
  have H := Lib.hid (Win.ok_iff.2 ⟨o1, o2, o3, o4⟩)
  have G := Lib.hid hg
  obtain ⟨n1, n2, n3, n4⟩ := Win.cnt_facts hg
  have HO := Lib.hid (winOf s d t)
  have HL := Lib.hid (Win.of_len hg)
  have n16 := Win.cnt_le (size := s) o1 o4 g1
  obtain ⟨xs, hxs⟩ : ∃ xs, xs = Win.of s d t := ⟨_, rfl⟩
  obtain ⟨n, hn⟩ : ∃ n, n = Win.cnt s d t := ⟨_, rfl⟩
  rw [← hxs] at HO HL
  rw [← hn] at HL n1 n2 n3 n4 n16
  have HX := Lib.hid hxs
  have HN := Lib.hid hn
  have N3 := Lib.hid n3
  have N4 := Lib.hid n4
  have hlen : xs.length = n := HL.out
  clear hg hxs hn n3 n4
  have a1 := hA
  clear hA
  obtain ⟨b1, b2⟩ : (s == d) = true ∧ ((n : Int) != 1) = false := ⟨eq_b hB, nb0 (by have := N4.out hB; omega)⟩
  clear hB
  have hq1 : s / d ≤ s := Int.ediv_le_self _ (by omega)
  go_enter Try.func5, Try.ntmps5
  go_wp2_with fail
  refine (HO.out _).mono ?_
  rintro e w1 ⟨A, c, rfl, k1, k2, k3, k4⟩
  have K3 := Lib.hid k3
  have K4 := Lib.hid k4
  rw [hlen] at k1
  rw [hlen]
  clear k3 k4
  go_wp2_with (go_at_call 10; refine (winRight _ _ _).mono ?_; rw [H.out]; rintro e w' ⟨rfl, rfl⟩)
  clear a1 b1
  go_loopw [69] (fun i wr => ∃ k : Nat, i = .int .i64 k ∧ k ≤ n ∧ Row wr A (wc xs) ∧ Below w.heap.size w wr) (fun i _ => n - (intOf i).toNat)
  case atStart => exact ⟨0, rfl, Nat.zero_le _, K3.out, K4.out⟩
  case round =>
    obtain ⟨k, rfl, hk, hr, hb⟩ := hrel
    have HRW := Lib.hid hr
    have HB := Lib.hid hb
    have hbz := hb.size
    clear hr hb
    by_cases hlt : k < n
    · have hat := Win.of_at G.out (i := k) (by rw [← HN.out]; exact hlt)
      have hbd := Win.lo_bd G.out (i := k) (by rw [← HN.out]; exact hlt)
      rw [← HX.out] at hat
      have HPREV : Hid (∀ j, k = j + 1 → ∃ h', xs[j]? = some (Win.lo s d t k - d, h')) := Lib.hid fun j hj => by
        have h1 := Win.of_at G.out (i := j) (by rw [← HN.out]; omega)
        rw [← HX.out] at h1
        have h2 := Win.lo_next (s := s) (d := d) (t := t) (i := j) (by rw [← HN.out]; omega)
        subst hj
        exact ⟨Win.hiOf s (Win.lo s d t j), by rw [h1, h2, Int.add_sub_cancel]⟩
      obtain ⟨lo, hlo⟩ : ∃ lo, lo = Win.lo s d t k := ⟨_, rfl⟩
      rw [← hlo] at hat hbd HPREV
      obtain ⟨l0, l1, l2, l3⟩ := hbd
      obtain ⟨q1, q2, q3⟩ := Win.hi_bd l2 g2
      obtain ⟨hi, hhi⟩ : ∃ hi, hi = Win.hiOf s lo := ⟨_, rfl⟩
      rw [← hhi] at hat q1 q2 q3
      obtain ⟨b, off, rfl, c0, c1⟩ := HRW.out.win hat
      have t1 : (lo % d != 0) = false := nb0 l3
      have t2 : decide (t < lo) = false := decide_eq_false (by omega)
      have t3 : decide (hi ≤ t) = false := decide_eq_false (by omega)
      have t4 : decide (1099511627776 < hi) = false := decide_eq_false (by omega)
      have t5 : (hi != 1099511627776) = false ∨ ((hi != 1099511627776) = true ∧ (hi - lo != s) = false) := by
        rcases q3 with h | h
        · exact .inl (nb0 h)
        · by_cases h2 : hi = 1099511627776
          · exact .inl (nb0 h2)
          · exact .inr ⟨nb h2, nb0 h⟩
      have HLO := Lib.hid hlo
      have HHI := Lib.hid hhi
      have L3 := Lib.hid l3
      have Q3 := Lib.hid q3
      have HAT := Lib.hid hat
      clear hlo hhi l3 q3 hat
      cases k with
      | zero =>
        have t6 : decide ((0 : Int) < ((0 : Nat) : Int)) = false := by simp
        simp only [Nat.zero_mul, Nat.add_zero] at c0 c1
        rcases t5 with t5 | ⟨t5, t7⟩
        all_goals
          go_wp2_with fail
          go_quiet (fail)
          go_wp2_with fail
          go_roundw
          case rel => exact ⟨1, by go_num, by omega, HRW.out.below (below_drewN ((Below.refl _ _).alloc (Nat.le_refl _) _)), below_drewN (HB.out.alloc hbz _)⟩
          case measure => simp [intOf]; omega
      | succ j =>
        obtain ⟨h', hp⟩ := HPREV.out j rfl
        obtain ⟨b2, off2, e2, p0, p1⟩ := HRW.out.win hp
        cases e2
        have t6 : decide ((0 : Int) < ((j + 1 : Nat) : Int)) = true := by simp
        obtain ⟨pl, hpl⟩ : ∃ pl, pl = lo - d := ⟨_, rfl⟩
        rw [← hpl] at p0
        have t8 : (lo != pl + d) = false := nb0 (by omega)
        have pb1 : pl ≤ t := by omega
        have pb2 : -1048576 ≤ pl := by omega
        have hbw : b < wr.heap.size := lt_of_cell c0
        have HPL := Lib.hid hpl
        clear hpl
        have HP := Lib.hid hp
        clear hp p1
        rcases t5 with t5 | ⟨t5, t7⟩
        all_goals
          go_wp2_with fail
          go_quiet (fail)
          go_wp2_with fail
          go_roundw
          case rel => exact ⟨j + 2, by go_num, by omega, HRW.out.below (below_drewN ((Below.refl _ _).alloc (Nat.le_refl _) _)), below_drewN (HB.out.alloc hbz _)⟩
          case measure => simp [intOf]; omega
    · have hge : n ≤ k := by omega
      clear hlt
      go_wp2_with (go_at_call 9; refine (lawAlive _).mono ?_; rintro e w' ⟨rfl, rfl⟩)
      go_ret
      exact ⟨rfl, HB.out⟩
set_option maxRecDepth 100000 in
set_option maxHeartbeats 4000000 in
theorem countsSome22 (s d t : Int) (w : World) (hg : Win.good s d t = true) (hA : t < s - 1) (hB : s ≠ d) : Calls Try.prog 5 #[.int .i64 s, .int .i64 d, .int .i64 t] w fun e w' => e = .returned (.bool true) ∧ Below w.heap.size w w' := by
  obtain ⟨⟨o1, o2, o3, o4⟩, g1, g2⟩ := Win.good_iff.1 hg
  have H := Lib.hid (Win.ok_iff.2 ⟨o1, o2, o3, o4⟩)
  have G := Lib.hid hg
  obtain ⟨n1, n2, n3, n4⟩ := Win.cnt_facts hg
  have HO := Lib.hid (winOf s d t)
  have HL := Lib.hid (Win.of_len hg)
  have n16 := Win.cnt_le (size := s) o1 o4 g1
  obtain ⟨xs, hxs⟩ : ∃ xs, xs = Win.of s d t := ⟨_, rfl⟩
  obtain ⟨n, hn⟩ : ∃ n, n = Win.cnt s d t := ⟨_, rfl⟩
  rw [← hxs] at HO HL
  rw [← hn] at HL n1 n2 n3 n4 n16
  have HX := Lib.hid hxs
  have HN := Lib.hid hn
  have N3 := Lib.hid n3
  have N4 := Lib.hid n4
  have hlen : xs.length = n := HL.out
  clear hg hxs hn n3 n4
  have a1 := hA
  clear hA
  have b1 : (s == d) = false := ne_b hB
  clear hB
  have hq1 : s / d ≤ s := Int.ediv_le_self _ (by omega)
  go_enter Try.func5, Try.ntmps5
  go_wp2_with fail
  refine (HO.out _).mono ?_
  rintro e w1 ⟨A, c, rfl, k1, k2, k3, k4⟩
  have K3 := Lib.hid k3
  have K4 := Lib.hid k4
  rw [hlen] at k1
  rw [hlen]
  clear k3 k4
  go_wp2_with (go_at_call 10; refine (winRight _ _ _).mono ?_; rw [H.out]; rintro e w' ⟨rfl, rfl⟩)
  clear a1 b1
  go_loopw [69] (fun i wr => ∃ k : Nat, i = .int .i64 k ∧ k ≤ n ∧ Row wr A (wc xs) ∧ Below w.heap.size w wr) (fun i _ => n - (intOf i).toNat)
  case atStart => exact ⟨0, rfl, Nat.zero_le _, K3.out, K4.out⟩
  case round =>
    obtain ⟨k, rfl, hk, hr, hb⟩ := hrel
    have HRW := Lib.hid hr
    have HB := Lib.hid hb
    have hbz := hb.size
    clear hr hb
    by_cases hlt : k < n
    · have hat := Win.of_at G.out (i := k) (by rw [← HN.out]; exact hlt)
      have hbd := Win.lo_bd G.out (i := k) (by rw [← HN.out]; exact hlt)
      rw [← HX.out] at hat
      have HPREV : Hid (∀ j, k = j + 1 → ∃ h', xs[j]? = some (Win.lo s d t k - d, h')) := Lib.hid fun j hj => by
        have h1 := Win.of_at G.out (i := j) (by rw [← HN.out]; omega)
        rw [← HX.out] at h1
        have h2 := Win.lo_next (s := s) (d := d) (t := t) (i := j) (by rw [← HN.out]; omega)
        subst hj
        exact ⟨Win.hiOf s (Win.lo s d t j), by rw [h1, h2, Int.add_sub_cancel]⟩
      obtain ⟨lo, hlo⟩ : ∃ lo, lo = Win.lo s d t k := ⟨_, rfl⟩
      rw [← hlo] at hat hbd HPREV
      obtain ⟨l0, l1, l2, l3⟩ := hbd
      obtain ⟨q1, q2, q3⟩ := Win.hi_bd l2 g2
      obtain ⟨hi, hhi⟩ : ∃ hi, hi = Win.hiOf s lo := ⟨_, rfl⟩
      rw [← hhi] at hat q1 q2 q3
      obtain ⟨b, off, rfl, c0, c1⟩ := HRW.out.win hat
      have t1 : (lo % d != 0) = false := nb0 l3
      have t2 : decide (t < lo) = false := decide_eq_false (by omega)
      have t3 : decide (hi ≤ t) = false := decide_eq_false (by omega)
      have t4 : decide (1099511627776 < hi) = false := decide_eq_false (by omega)
      have t5 : (hi != 1099511627776) = false ∨ ((hi != 1099511627776) = true ∧ (hi - lo != s) = false) := by
        rcases q3 with h | h
        · exact .inl (nb0 h)
        · by_cases h2 : hi = 1099511627776
          · exact .inl (nb0 h2)
          · exact .inr ⟨nb h2, nb0 h⟩
      have HLO := Lib.hid hlo
      have HHI := Lib.hid hhi
      have L3 := Lib.hid l3
      have Q3 := Lib.hid q3
      have HAT := Lib.hid hat
      clear hlo hhi l3 q3 hat
      cases k with
      | zero =>
        have t6 : decide ((0 : Int) < ((0 : Nat) : Int)) = false := by simp
        simp only [Nat.zero_mul, Nat.add_zero] at c0 c1
        rcases t5 with t5 | ⟨t5, t7⟩
        all_goals
          go_wp2_with fail
          go_quiet (fail)
          go_wp2_with fail
          go_roundw
          case rel => exact ⟨1, by go_num, by omega, HRW.out.below (below_drewN ((Below.refl _ _).alloc (Nat.le_refl _) _)), below_drewN (HB.out.alloc hbz _)⟩
          case measure => simp [intOf]; omega
      | succ j =>
        obtain ⟨h', hp⟩ := HPREV.out j rfl
        obtain ⟨b2, off2, e2, p0, p1⟩ := HRW.out.win hp
        cases e2
        have t6 : decide ((0 : Int) < ((j + 1 : Nat) : Int)) = true := by simp
        obtain ⟨pl, hpl⟩ : ∃ pl, pl = lo - d := ⟨_, rfl⟩
        rw [← hpl] at p0
        have t8 : (lo != pl + d) = false := nb0 (by omega)
        have pb1 : pl ≤ t := by omega
        have pb2 : -1048576 ≤ pl := by omega
        have hbw : b < wr.heap.size := lt_of_cell c0
        have HPL := Lib.hid hpl
        clear hpl
        have HP := Lib.hid hp
        clear hp p1
        rcases t5 with t5 | ⟨t5, t7⟩
        all_goals
          go_wp2_with fail
          go_quiet (fail)
          go_wp2_with fail
          go_roundw
          case rel => exact ⟨j + 2, by go_num, by omega, HRW.out.below (below_drewN ((Below.refl _ _).alloc (Nat.le_refl _) _)), below_drewN (HB.out.alloc hbz _)⟩
          case measure => simp [intOf]; omega
    · have hge : n ≤ k := by omega
      clear hlt
      go_wp2_with (go_at_call 9; refine (lawAlive _).mono ?_; rintro e w' ⟨rfl, rfl⟩)
      go_ret
      exact ⟨rfl, HB.out⟩
theorem walkWindowCounts (s d t : Int) (w : World) : Calls Try.prog 5 #[.int .i64 s, .int .i64 d, .int .i64 t] w fun e w' => e = .returned (.bool true) ∧ Below w.heap.size w w' := by
  by_cases hg : Win.good s d t = true
  · by_cases hA : s - 1 ≤ t <;> by_cases hB : s = d
    · exact countsSome11 s d t w hg hA hB
    · exact countsSome12 s d t w hg hA hB
    · exact countsSome21 s d t w hg (by omega) hB
    · exact countsSome22 s d t w hg (by omega) hB
  · exact countsNone s d t w (by simpa using hg)
theorem lawWindowCounts : Lift.Owes 5 [2, 2, 2] := by
  intro H enc W base args ds ps hval hA _ _
  obtain ⟨v0, v1, v2, d0, d1, d2, p0, p1, p2, rfl, rfl, rfl, h0, h1, h2⟩ := trodAll_three hA
  obtain ⟨a, rfl, rfl, rfl, w0⟩ := open_int Try.underlying2 (hval 0 _ v0 rfl rfl) h0
  obtain ⟨b, rfl, rfl, rfl, w1⟩ := open_int Try.underlying2 (hval 1 _ v1 rfl rfl) h1
  obtain ⟨c, rfl, rfl, rfl, w2⟩ := open_int Try.underlying2 (hval 2 _ v2 rfl rfl) h2
  exact walkWindowCounts a b c W
end Go.Proofs.Ytehnhhkhnedgeaa
