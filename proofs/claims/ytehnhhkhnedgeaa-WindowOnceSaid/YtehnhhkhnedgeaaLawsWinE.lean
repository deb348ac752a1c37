/- The walk of the law WindowOnce. -/
import Derived.Test.YtehnhhkhnedgeaaLawsWin
import Derived.Test.YtehnhhkhnedgeaaWinFactsB
import Derived.IntWalk
namespace Go.Proofs.Ytehnhhkhnedgeaa
open Go.ChangeShapes Go.WideShapes Go.ChangeAt Go.RowKit
open Tick
set_option linter.unusedVariables false
/-- Go's remainder, brought up from below nothing. -/
theorem rem_up (x n : Int) (hn : 1 ≤ n) : -n < x.tmod n ∧ x.tmod n < n ∧ 0 ≤ (x.tmod n + n) % n ∧ (x.tmod n + n) % n < n ∧ (x.tmod n + n).tmod n = (x.tmod n + n) % n := by
  have h1 : x.tmod n < n := Int.tmod_lt_of_pos x (by omega)
  have h2 : -n < x.tmod n := by
    have h3 := Int.tmod_lt_of_pos (-x) (show 0 < n by omega)
    rw [Int.neg_tmod] at h3
    omega
  refine ⟨h2, h1, Int.emod_nonneg _ (by omega), Int.emod_lt_of_pos _ (by omega), ?_⟩
  rw [Int.tmod_eq_emod_of_nonneg (by omega)]
set_option maxRecDepth 100000 in
set_option maxHeartbeats 2000000 in
theorem onceNone (s d t k b : Int) (w : World) (hg : Win.good s d t = false) : Calls Try.prog 6 #[.int .i64 s, .int .i64 d, .int .i64 t, .int .i64 k, .int .i64 b] w
    fun e w' => e = .returned (.bool true) ∧ Below w.heap.size w w' := by
  have HO := Lib.hid (winOf s d t)
  rw [Win.of_not hg] at HO
  clear hg
  go_enter Try.func6, Try.ntmps6
  go_wp2_with fail
  refine (HO.out _).mono ?_
  rintro e w1 ⟨A, c, rfl, g1, g2, g3, g4⟩
  go_wp2_with (go_at_call 9; refine (lawAlive _).mono ?_; rintro e w' ⟨rfl, rfl⟩)
  go_ret
  exact ⟨rfl, g4⟩
set_option maxRecDepth 100000 in
set_option maxHeartbeats 2000000 in
theorem onceSome (s d t k b : Int) (w : World) (hg : Win.good s d t = true) : Calls Try.prog 6 #[.int .i64 s, .int .i64 d, .int .i64 t, .int .i64 k, .int .i64 b] w
    fun e w' => e = .returned (.bool true) ∧ Below w.heap.size w w' := by
  obtain ⟨⟨o1, o2, o3, o4⟩, g1, g2⟩ := Win.good_iff.1 hg
  have HO : GivesF 13 #[.int .i64 s, .int .i64 d, .int .i64 t] (Win.of s d t) := ⟨winOf s d t⟩
  have HL := Lib.hid (Win.of_len hg)
  have n1 := Win.cnt_pos (size := s) o1 o2 g1
  have n16 := Win.cnt_le (size := s) o1 o4 g1
  obtain ⟨r1, r2, r3, r4, _⟩ := rem_up k (Win.cnt s d t) (by omega)
  obtain ⟨i, hi⟩ : ∃ i : Nat, (k.tmod (Win.cnt s d t : Int) + (Win.cnt s d t : Int)) % (Win.cnt s d t : Int) = i := ⟨((k.tmod (Win.cnt s d t : Int) + (Win.cnt s d t : Int)) % (Win.cnt s d t : Int)).toNat, by omega⟩
  have hin : i < Win.cnt s d t := by omega
  have HAT := Lib.hid (Win.of_at hg hin)
  obtain ⟨l0, l1, l2, l3⟩ := Win.lo_bd hg hin
  obtain ⟨q1, q2, q3⟩ := Win.hi_bd l2 g2
  have hle : Win.hiOf s (Win.lo s d t i) - Win.lo s d t i ≤ s := by unfold Win.hiOf; split <;> omega
  have HONCE := Lib.hid fun u (h0 : Win.lo s d t i ≤ u) (h1 : u < Win.hiOf s (Win.lo s d t i)) => Win.once hg hin h0 h1
  obtain ⟨lo, hlo⟩ : ∃ lo, lo = Win.lo s d t i := ⟨_, rfl⟩
  rw [← hlo] at HAT l0 l1 l2 q1 q2 hle HONCE
  obtain ⟨hh, hhh⟩ : ∃ hh, hh = Win.hiOf s lo := ⟨_, rfl⟩
  rw [← hhh] at HAT q1 q2 hle HONCE
  obtain ⟨N, hN⟩ : ∃ N, hh - lo = N := ⟨_, rfl⟩
  have hN1 : 1 ≤ N := by omega
  have hN2 : N ≤ 1048576 := by omega
  obtain ⟨t1, t2, t3, t4, t5⟩ := rem_up b N hN1
  obtain ⟨m, hm⟩ : ∃ m, (b.tmod N + N) % N = m := ⟨_, rfl⟩
  rw [hm] at t3 t4 t5
  have W1 : IntKind.i64.wrap (b.tmod N + N) = b.tmod N + N := IntWalk.i64_in _ (by omega)
  obtain ⟨u, hu⟩ : ∃ u, lo + m = u := ⟨_, rfl⟩
  have W2 : IntKind.i64.wrap (lo + m) = u := by rw [IntWalk.i64_in _ (by omega)]; exact hu
  obtain ⟨p, hp⟩ := HONCE.out u (by omega) (by omega)
  have HP := Lib.hid hp
  have hpl : p < (Win.of s d u).length := (List.getElem?_eq_some_iff.1 hp).1
  have hul := of_le s d u
  have HU : GivesF 13 #[.int .i64 s, .int .i64 d, .int .i64 u] (Win.of s d u) := ⟨winOf s d u⟩
  obtain ⟨xs, hxs⟩ : ∃ xs, xs = Win.of s d t := ⟨_, rfl⟩
  rw [← hxs] at HO HL HAT
  obtain ⟨ys, hys⟩ : ∃ ys, ys = Win.of s d u := ⟨_, rfl⟩
  rw [← hys] at HU HP hpl hul
  obtain ⟨n, hn⟩ : ∃ n, n = Win.cnt s d t := ⟨_, rfl⟩
  rw [← hn] at HL n1 n16 r1 r2 hi hin
  have hlx := HL.out
  clear hp hg r3 r4 hlo l3 q3 hhh HONCE hxs hys hn
  have hn0 : ((n : Int) == 0) = false := ne_b (by omega)
  go_enter Try.func6, Try.ntmps6
  go_wp2_with fail
  refine (HO.run _).mono ?_
  rintro e w1 ⟨A, c, rfl, k1, k2, k3, k4⟩
  obtain ⟨bb, off, rfl, c0, c1⟩ := k3.win HAT.out
  simp only at c0 c1
  have K4 := Lib.hid k4
  rw [hlx] at k1
  rw [hlx]
  clear k3 k4
  go_wp2_with fail
  go_quiet (fail)
  have HB1 := Lib.hid (below_drewN (n := nq) (K4.out.alloc (K4.out.size) (.cells #[.int .i64 lo, .int .i64 hh] 29)))
  have HX1 := Lib.hid (show WBox ((w1.alloc (.cells #[.int .i64 lo, .int .i64 hh] 29)).drewN nq) w1.heap.size (lo, hh) from WBox.new w1 (lo, hh))
  clear W1 W2 hN hm hu t5 hi c0 c1
  go_wp2_with fail
  refine (HU.run _).mono ?_
  rintro e w2 ⟨A', c', rfl, m1, m2, m3, m4⟩
  have R1 := Lib.hid m3
  have R2 := Lib.hid (below_next HB1.out m4)
  have R3 : Hid (WBox w2 w1.heap.size (lo, hh)) := Lib.hid ((m4.block _ HX1.out.lt).trans HX1.out)
  clear m3 m4
  go_wp2_with fail
  go_loopw [60] (fun i wr => ∃ j : Nat, i = .int .i64 j ∧ j ≤ p ∧ Row wr A' (wc ys) ∧ WBox wr w1.heap.size (lo, hh) ∧ Below w.heap.size w wr) (fun i _ => p + 1 - (intOf i).toNat)
  case atStart => exact ⟨0, rfl, Nat.zero_le _, R1.out, R3.out, R2.out⟩
  case round =>
    obtain ⟨j, rfl, hj, hr, hbx, hb⟩ := hrel
    have hbz := hb.size
    have hbl := hbx.lt
    have x0 := hbx.c0
    have x1 := hbx.c1
    simp only at x0 x1
    have HR := Lib.hid hr
    have HB := Lib.hid hb
    have HX := Lib.hid hbx
    obtain ⟨⟨a, b'⟩, hx⟩ : ∃ x, ys[j]? = some x := ⟨_, List.getElem?_eq_getElem (by omega)⟩
    obtain ⟨q, off2, rfl, c0, c1⟩ := HR.out.win hx
    simp only at c0 c1
    have hlt : j < ys.length := by omega
    have hq := lt_of_cell c0
    simp only at hq
    clear hr hb hbx
    by_cases he : a = lo ∧ b' = hh
    · obtain ⟨rfl, rfl⟩ := he
      have E : ∀ w : World, (binOp .eql 29 (.agg #[.int .i64 a, .int .i64 b']) (.agg #[.int .i64 a, .int .i64 b'])).run Try.prog w = .ok (.bool true) w := fun w => by rw [run_eqWin]; simp
      clear hx
      go_wp2_with (go_at_call 9; refine (lawAlive _).mono ?_; rintro e w' ⟨rfl, rfl⟩)
      go_ret
      exact ⟨rfl, HB.out.alloc hbz _⟩
    · have E : ∀ w : World, (binOp .eql 29 (.agg #[.int .i64 a, .int .i64 b']) (.agg #[.int .i64 lo, .int .i64 hh])).run Try.prog w = .ok (.bool false) w := fun w => by
        rw [run_eqWin]
        have : ((a == lo) && (b' == hh)) = false := by
          by_cases h1 : a = lo
          · have h2 : b' ≠ hh := fun h => he ⟨h1, h⟩
            simp [h1, h2]
          · simp [h1]
        rw [this]
      have hjp : j < p := by
        rcases Nat.lt_or_ge j p with h | h
        · exact h
        · have e : j = p := by omega
          subst e
          have h2 := HP.out
          rw [hx] at h2
          simp only [Option.some.injEq, Prod.mk.injEq] at h2
          exact absurd h2 he
      clear hx he
      go_wp2_with fail
      go_roundw
      case rel => exact ⟨j + 1, by go_num, by omega, HR.out.below ((Below.refl _ _).alloc (Nat.le_refl _) _), (Below.heap_alloc _ _ _ hbl).trans HX.out, HB.out.alloc hbz _⟩
      case measure => simp [intOf]; omega
theorem lawWindowOnce : Lift.Owes 6 [2, 2, 2, 3, 2] := by
  intro H enc W base args ds ps hval hA _ _
  obtain ⟨v0, v1, v2, v3, v4, d0, d1, d2, d3, d4, p0, p1, p2, p3, p4, rfl, rfl, rfl, h0, h1, h2, h3, h4⟩ := trodAll_five hA
  obtain ⟨a, rfl, rfl, rfl, w0⟩ := open_int Try.underlying2 (hval 0 _ v0 rfl rfl) h0
  obtain ⟨b, rfl, rfl, rfl, w1⟩ := open_int Try.underlying2 (hval 1 _ v1 rfl rfl) h1
  obtain ⟨c, rfl, rfl, rfl, w2⟩ := open_int Try.underlying2 (hval 2 _ v2 rfl rfl) h2
  obtain ⟨m, rfl, rfl, rfl, w3⟩ := open_int Try.underlying3 (hval 3 _ v3 rfl rfl) h3
  obtain ⟨y, rfl, rfl, rfl, w4⟩ := open_int Try.underlying2 (hval 4 _ v4 rfl rfl) h4
  by_cases hg : Win.good a b c = true
  · exact onceSome a b c m y W hg
  · exact onceNone a b c m y W (by simpa using hg)
end Go.Proofs.Ytehnhhkhnedgeaa
