/- Contracts on one or two panes: order, closing, valid; the reference's Key, May, Ahead, same. -/
import Derived.Test.YtklpfifellghlaaPane
import Derived.StillTailTactics
namespace Go.Proofs.Ytklpfifellghlaa
open Go.RowKit
open Pan
set_option linter.unusedVariables false
set_option maxHeartbeats 1000000 in
theorem paOrder (x y : Pn) (w : World) : Calls Try.prog 31 #[paV x, paV y] w (TellsI (ordN x.p y.p) w) := by
  go_enter Try.func31, Try.ntmps31
  go_wp2_with fail
  have x1 := Lib.hid (((Lies.new w (paC x) 52).al (o := .cells (paC y) 52)).drew)
  have y1 := Lib.hid ((Lies.new (w.alloc (.cells (paC x) 52)) (paC y) 52).drew)
  have B1 := Lib.hid (below_drewOf ((((Below.refl w.heap.size w).alloc (Nat.le_refl _) (.cells (paC x) 52)).alloc (by simp) (.cells (paC y) 52))))
  refine still_tail 19 (by kernel_rfl) (by kernel_rfl) ?_
  intro w1 hw1
  simp only [List.take_succ_cons, List.take_zero, List.drop_succ_cons, List.drop_zero]
  rw [hw1] at x1 y1 B1
  clear hw1
  have c0 := x1.out.cell (j := 0) rfl; have c1 := x1.out.cell (j := 1) rfl; have c2 := x1.out.cell (j := 2) rfl
  have d0 := y1.out.cell (j := 0) rfl; have d1 := y1.out.cell (j := 1) rfl; have d2 := y1.out.cell (j := 2) rfl
  simp only [World.size_alloc] at d0 d1 d2
  repeat still_step
  still_call (still_of (cmpI _ _ _))
  repeat still_step
  still_call (still_of (cmpI _ _ _))
  repeat still_step
  still_call (still_of (cmpS _ _ _))
  refine wpStill_nil ?_
  go_wp2_with fail
  refine (cmpOr _ _ _ w1.heap.size 0 3 _ ((Lies.new w1 _ _).cell (j := 0) rfl) ((Lies.new w1 _ _).cell (j := 1) rfl) ((Lies.new w1 _ _).cell (j := 2) rfl)).mono ?_
  rintro e w' ⟨rfl, rfl⟩
  go_wp2_with fail
  go_ret
  exact ⟨rfl, B1.out.alloc B1.out.size _⟩
theorem paClosed (a b m : Int) (w : World) : Calls Try.prog 47 #[.agg #[.int .i64 a, .int .i64 b], .int .i64 m] w
    fun e w' => e = .returned (.bool (decide (b ≤ m))) ∧ w' = w.alloc (.cells #[.int .i64 a, .int .i64 b] 24) := by
  go_enter Try.func47, Try.ntmps47
  go_wp2
  go_ret
  exact ⟨rfl, rfl⟩
namespace Pan
def clN (x : Pn) (m : Int) : Int := if x.p.hi ≤ m then -1 else 1
end Pan
theorem paClosing (x : Pn) (m : Int) (w : World) : Calls Try.prog 34 #[paV x, .int .i64 m] w
    fun e w' => e = .returned (.int .i64 (clN x m)) ∧ w' = (w.alloc (.cells (paC x) 52)).alloc (.cells #[.int .i64 x.p.lo, .int .i64 x.p.hi] 24) := by
  by_cases h : x.p.hi ≤ m
  all_goals
    have hc := Lib.hid (show clN x m = _ from by unfold clN; first | exact if_pos h | exact if_neg h)
    go_enter Try.func34, Try.ntmps34
    go_wp2_with (go_at_call 47; refine (paClosed _ _ _ _).mono ?_; rintro e w' ⟨rfl, rfl⟩)
    go_ret
    exact ⟨by rw [hc.out]; rfl, rfl⟩
/-- Hands back a truth; its argument was laid anew. -/
def TellsX (b : Bool) (x : Pn) (w : World) (e : Ending) (w' : World) : Prop := e = .returned (.bool b) ∧ w' = w.alloc (.cells (paC x) 52)
def TellsXY (b : Bool) (x y : Pn) (w : World) (e : Ending) (w' : World) : Prop := e = .returned (.bool b) ∧ w' = (w.alloc (.cells (paC x) 52)).alloc (.cells (paC y) 52)
namespace Pan
def okK (k : List UInt8) : Bool := decide (1 ≤ k.length ∧ k.length ≤ 16)
end Pan
theorem rkKey (k : List UInt8) (w : World) : Calls Try.prog 41 #[.string (kS k)] w (SaysB (okK k) w) := by
  have hsz := kS_size k
  by_cases h1 : (1 : Int) ≤ (kS k).size
  · by_cases h2 : ((kS k).size : Int) ≤ 16
    · have hc := Lib.hid (show okK k = true from decide_eq_true ⟨by omega, by omega⟩)
      clear hsz
      go_enter Try.func41, Try.ntmps41
      go_wp2_with fail
      go_ret
      exact ⟨by rw [hc.out]; rfl, rfl⟩
    · have hc := Lib.hid (show okK k = false from decide_eq_false fun h => by omega)
      clear hsz
      go_enter Try.func41, Try.ntmps41
      go_wp2_with fail
      go_ret
      exact ⟨by rw [hc.out]; rfl, rfl⟩
  · have hc := Lib.hid (show okK k = false from decide_eq_false fun h => by omega)
    clear hsz
    go_enter Try.func41, Try.ntmps41
    go_wp2_with fail
    go_ret
    exact ⟨by rw [hc.out]; rfl, rfl⟩
set_option maxHeartbeats 1000000 in
theorem paValid (x : Pn) (w : World) : Calls Try.prog 30 #[paV x] w (TellsX (may x) x w) := by
  have hsz := kS_size x.p.key
  by_cases h0 : (1 : Int) ≤ (kS x.p.key).size
  · by_cases h1 : ((kS x.p.key).size : Int) ≤ 16
    · by_cases h2 : 0 ≤ x.p.lo
      · by_cases h3 : x.p.lo < x.p.hi
        · by_cases h4 : x.p.hi ≤ 1099511627776
          · by_cases h5 : 1 ≤ x.acc.n
            · have hc := Lib.hid (show may x = true from decide_eq_true ⟨by omega, by omega, h2, h3, h4, h5⟩)
              clear hsz
              go_enter Try.func30, Try.ntmps30
              go_wp2_with fail
              go_ret
              exact ⟨by rw [hc.out]; rfl, rfl⟩
            · have hc := Lib.hid (show may x = false from decide_eq_false fun h => by omega)
              clear hsz
              go_enter Try.func30, Try.ntmps30
              go_wp2_with fail
              go_ret
              exact ⟨by rw [hc.out]; first | rfl | exact congrArg (fun b => Ending.returned (Value.bool b)) (decide_eq_false (show ¬ 1 ≤ x.acc.n by omega)), rfl⟩
          · have hc := Lib.hid (show may x = false from decide_eq_false fun h => by omega)
            clear hsz
            go_enter Try.func30, Try.ntmps30
            go_wp2_with fail
            go_ret
            exact ⟨by rw [hc.out]; rfl, rfl⟩
        · have hc := Lib.hid (show may x = false from decide_eq_false fun h => by omega)
          clear hsz
          go_enter Try.func30, Try.ntmps30
          go_wp2_with fail
          go_ret
          exact ⟨by rw [hc.out]; rfl, rfl⟩
      · have hc := Lib.hid (show may x = false from decide_eq_false fun h => by omega)
        clear hsz
        go_enter Try.func30, Try.ntmps30
        go_wp2_with fail
        go_ret
        exact ⟨by rw [hc.out]; rfl, rfl⟩
    · have hc := Lib.hid (show may x = false from decide_eq_false fun h => by omega)
      clear hsz
      go_enter Try.func30, Try.ntmps30
      go_wp2_with fail
      go_ret
      exact ⟨by rw [hc.out]; rfl, rfl⟩
  · have hc := Lib.hid (show may x = false from decide_eq_false fun h => by omega)
    clear hsz
    go_enter Try.func30, Try.ntmps30
    go_wp2_with fail
    go_ret
    exact ⟨by rw [hc.out]; rfl, rfl⟩
set_option maxHeartbeats 1000000 in
theorem rfMay (x : Pn) (w : World) : Calls Try.prog 28 #[paV x] w (TellsX (may x) x w) := by
  have hsz := kS_size x.p.key
  by_cases h0 : (1 : Int) ≤ (kS x.p.key).size
  · by_cases h1 : ((kS x.p.key).size : Int) ≤ 16
    · by_cases h2 : 0 ≤ x.p.lo
      · by_cases h3 : x.p.lo < x.p.hi
        · by_cases h4 : x.p.hi ≤ 1099511627776
          · by_cases h5 : 1 ≤ x.acc.n
            · have hc := Lib.hid (show may x = true from decide_eq_true ⟨by omega, by omega, h2, h3, h4, h5⟩)
              have hk := Lib.hid (show okK x.p.key = true from decide_eq_true ⟨by omega, by omega⟩)
              clear hsz
              go_enter Try.func28, Try.ntmps28
              go_wp2_with (go_at_call 41; refine (rkKey _ _).mono ?_; rw [hk.out]; rintro e w' ⟨rfl, rfl⟩)
              go_ret
              exact ⟨by rw [hc.out]; rfl, rfl⟩
            · have hc := Lib.hid (show may x = false from decide_eq_false fun h => by omega)
              have hk := Lib.hid (show okK x.p.key = true from decide_eq_true ⟨by omega, by omega⟩)
              clear hsz
              go_enter Try.func28, Try.ntmps28
              go_wp2_with (go_at_call 41; refine (rkKey _ _).mono ?_; rw [hk.out]; rintro e w' ⟨rfl, rfl⟩)
              go_ret
              exact ⟨by rw [hc.out]; first | rfl | exact congrArg (fun b => Ending.returned (Value.bool b)) (decide_eq_false (show ¬ 1 ≤ x.acc.n by omega)), rfl⟩
          · have hc := Lib.hid (show may x = false from decide_eq_false fun h => by omega)
            have hk := Lib.hid (show okK x.p.key = true from decide_eq_true ⟨by omega, by omega⟩)
            clear hsz
            go_enter Try.func28, Try.ntmps28
            go_wp2_with (go_at_call 41; refine (rkKey _ _).mono ?_; rw [hk.out]; rintro e w' ⟨rfl, rfl⟩)
            go_ret
            exact ⟨by rw [hc.out]; rfl, rfl⟩
        · have hc := Lib.hid (show may x = false from decide_eq_false fun h => by omega)
          have hk := Lib.hid (show okK x.p.key = true from decide_eq_true ⟨by omega, by omega⟩)
          clear hsz
          go_enter Try.func28, Try.ntmps28
          go_wp2_with (go_at_call 41; refine (rkKey _ _).mono ?_; rw [hk.out]; rintro e w' ⟨rfl, rfl⟩)
          go_ret
          exact ⟨by rw [hc.out]; rfl, rfl⟩
      · have hc := Lib.hid (show may x = false from decide_eq_false fun h => by omega)
        have hk := Lib.hid (show okK x.p.key = true from decide_eq_true ⟨by omega, by omega⟩)
        clear hsz
        go_enter Try.func28, Try.ntmps28
        go_wp2_with (go_at_call 41; refine (rkKey _ _).mono ?_; rw [hk.out]; rintro e w' ⟨rfl, rfl⟩)
        go_ret
        exact ⟨by rw [hc.out]; rfl, rfl⟩
    · have hc := Lib.hid (show may x = false from decide_eq_false fun h => by omega)
      have hk := Lib.hid (show okK x.p.key = false from decide_eq_false fun h => by omega)
      clear hsz
      go_enter Try.func28, Try.ntmps28
      go_wp2_with (go_at_call 41; refine (rkKey _ _).mono ?_; rw [hk.out]; rintro e w' ⟨rfl, rfl⟩)
      go_ret
      exact ⟨by rw [hc.out]; rfl, rfl⟩
  · have hc := Lib.hid (show may x = false from decide_eq_false fun h => by omega)
    have hk := Lib.hid (show okK x.p.key = false from decide_eq_false fun h => by omega)
    clear hsz
    go_enter Try.func28, Try.ntmps28
    go_wp2_with (go_at_call 41; refine (rkKey _ _).mono ?_; rw [hk.out]; rintro e w' ⟨rfl, rfl⟩)
    go_ret
    exact ⟨by rw [hc.out]; rfl, rfl⟩
theorem rfAhead (x y : Pn) (w : World) : Calls Try.prog 32 #[paV x, paV y] w (TellsXY (Pan.ahead x.p y.p) x y w) := by
  by_cases h1 : x.p.hi = y.p.hi
  · by_cases h2 : x.p.lo = y.p.lo
    · have hc := Lib.hid (show Pan.ahead x.p y.p = Op.bytesLess (kS x.p.key).toList (kS y.p.key).toList from by unfold Pan.ahead; rw [if_pos h1, if_pos h2, kS_list, kS_list])
      have e1 := nb0 h1
      have e2 := nb0 h2
      clear h1 h2
      go_enter Try.func32, Try.ntmps32
      go_wp2_with fail
      go_ret
      exact ⟨by rw [hc.out]; rfl, rfl⟩
    · have hc := Lib.hid (show Pan.ahead x.p y.p = decide (x.p.lo < y.p.lo) from by unfold Pan.ahead; rw [if_pos h1, if_neg h2])
      have e1 := nb0 h1
      have e2 := nb h2
      clear h1 h2
      go_enter Try.func32, Try.ntmps32
      go_wp2_with fail
      go_ret
      exact ⟨by rw [hc.out]; rfl, rfl⟩
  · have hc := Lib.hid (show Pan.ahead x.p y.p = decide (x.p.hi < y.p.hi) from by unfold Pan.ahead; rw [if_neg h1])
    have e1 := nb h1
    clear h1
    go_enter Try.func32, Try.ntmps32
    go_wp2_with fail
    go_ret
    exact ⟨by rw [hc.out]; rfl, rfl⟩
theorem pfields_win : Try.prog.underlying 24 = some (.struct (Try.prog.fieldsOf 24)) := by kernel_rfl
theorem pstood_win : Try.prog.stoodInHeld 24 = false := by kernel_rfl
theorem run_peqW (d : Nat) (lo hi lo' hi' : Int) (w : World) : (Op.equalIn (d + 2) 24 (.agg #[.int .i64 lo, .int .i64 hi]) (.agg #[.int .i64 lo', .int .i64 hi'])).run Try.prog w = .ok ((lo == lo') && (hi == hi')) w := by
  have h2 := Try.underlying2
  rw [run_equalIn_agg w _ _ _ _ pfields_win pstood_win]
  simp [Program.fieldsOf, Try.underlying24, Op.eqFields, part, isAgg, run_underlying h2, run_equalIn_int w d _ .i64 .i64 _ _ h2]
  by_cases g1 : lo = lo' <;> by_cases g2 : hi = hi' <;> simp [g1, g2]
theorem run_eqPW (lo hi lo' hi' : Int) (w : World) : (binOp .eql 24 (.agg #[.int .i64 lo, .int .i64 hi]) (.agg #[.int .i64 lo', .int .i64 hi'])).run Try.prog w = .ok (.bool ((lo == lo') && (hi == hi'))) w := by
  rw [run_eql_struct, show (10000 : Nat) = 9998 + 2 from rfl, run_peqW]; rfl
theorem rfSame (x y : Pn) (w : World) : Calls Try.prog 42 #[paV x, paV y] w (TellsXY (decide (x.p = y.p)) x y w) := by
  by_cases h1 : x.p.lo = y.p.lo ∧ x.p.hi = y.p.hi
  · have he : ∀ w, (binOp .eql 24 (.agg #[.int .i64 x.p.lo, .int .i64 x.p.hi]) (.agg #[.int .i64 y.p.lo, .int .i64 y.p.hi])).run Try.prog w = .ok (.bool true) w := fun w => by rw [run_eqPW, eq_b h1.1, eq_b h1.2]; rfl
    by_cases h2 : x.p.key = y.p.key
    · have hc := Lib.hid (show decide (x.p = y.p) = true from decide_eq_true (by cases hx : x.p; cases hy : y.p; simp_all))
      have hk : ((kS x.p.key).toList == (kS y.p.key).toList) = true := by rw [kS_list, kS_list, h2, beq_self_eq_true]
      clear h1 h2
      go_enter Try.func42, Try.ntmps42
      go_wp2_with fail
      go_ret
      exact ⟨by rw [hc.out]; rfl, rfl⟩
    · have hc := Lib.hid (show decide (x.p = y.p) = false from decide_eq_false (fun e => h2 (by rw [e])))
      have hk : ((kS x.p.key).toList == (kS y.p.key).toList) = false := by rw [kS_list, kS_list, beq_eq_false_iff_ne]; exact h2
      clear h1 h2
      go_enter Try.func42, Try.ntmps42
      go_wp2_with fail
      go_ret
      exact ⟨by rw [hc.out]; rfl, rfl⟩
  · have he : ∀ w, (binOp .eql 24 (.agg #[.int .i64 x.p.lo, .int .i64 x.p.hi]) (.agg #[.int .i64 y.p.lo, .int .i64 y.p.hi])).run Try.prog w = .ok (.bool false) w := fun w => by
      rw [run_eqPW]
      by_cases g1 : x.p.lo = y.p.lo
      · have g2 : x.p.hi ≠ y.p.hi := fun e => h1 ⟨g1, e⟩
        rw [ne_b g2, Bool.and_false]
      · rw [ne_b g1, Bool.false_and]
    have hc := Lib.hid (show decide (x.p = y.p) = false from decide_eq_false (fun e => h1 ⟨by rw [e], by rw [e]⟩))
    clear h1
    go_enter Try.func42, Try.ntmps42
    go_wp2_with fail
    go_ret
    exact ⟨by rw [hc.out]; rfl, rfl⟩
theorem rfFold (k : Int) (w : World) : Calls Try.prog 27 #[.int .i64 k] w fun e w' => e = .returned (.bool (Acm.isK k)) ∧ w = w' := by
  by_cases h1 : 1 ≤ k
  · by_cases h2 : k ≤ 5
    · have hc := Lib.hid (show Acm.isK k = true from decide_eq_true ⟨h1, h2⟩)
      go_enter Try.func27, Try.ntmps27
      go_wp2
      go_ret
      exact ⟨by rw [hc.out]; rfl, rfl⟩
    · have hc := Lib.hid (show Acm.isK k = false from decide_eq_false fun h => h2 h.2)
      go_enter Try.func27, Try.ntmps27
      go_wp2
      go_ret
      exact ⟨by rw [hc.out]; rfl, rfl⟩
  · have hc := Lib.hid (show Acm.isK k = false from decide_eq_false fun h => h1 h.1)
    go_enter Try.func27, Try.ntmps27
    go_wp2
    go_ret
    exact ⟨by rw [hc.out]; rfl, rfl⟩
end Go.Proofs.Ytklpfifellghlaa
