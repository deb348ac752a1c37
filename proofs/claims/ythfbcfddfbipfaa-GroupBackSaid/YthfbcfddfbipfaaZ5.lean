/- PaneOne, Wide, put together. -/
import Derived.Test.YthfbcfddfbipfaaZ4
import Derived.StillTailTactics
import Derived.Test.YthfbcfddfbipfaaZ3
import Derived.BigQuiet
import Derived.StillTail
/- Contracts on one or two panes: order, closing, valid; the reference's Key, May, Ahead, same. -/
namespace Go.Proofs.Ythfbcfddfbipfaa
open Go.RowKit
open Pan
set_option linter.unusedVariables false
set_option maxRecDepth 8000
set_option maxHeartbeats 1000000 in
theorem paOrder (x y : Pn) (w : World) : Calls Try.prog 73 #[paV x, paV y] w (TellsI (ordN x.p y.p) w) := by
  go_enter Try.func73, Try.ntmps73
  go_wp2_with fail
  have x1 := Lib.hid (((Lies.new w (paC x) 59).al (o := .cells (paC y) 59)).drew)
  have y1 := Lib.hid ((Lies.new (w.alloc (.cells (paC x) 59)) (paC y) 59).drew)
  have B1 := Lib.hid (below_drewOf ((((Below.refl w.heap.size w).alloc (Nat.le_refl _) (.cells (paC x) 59)).alloc (by simp) (.cells (paC y) 59))))
  refine still_tail 19 (by kernel_rfl) (by kernel_rfl) ?_
  intro w1 hw1
  simp only [List.take_succ_cons, List.take_zero, List.drop_succ_cons, List.drop_zero]
  rw [hw1] at x1 y1 B1
  clear hw1
  have c0 := x1.out.cell (j := 0) rfl; have c1 := x1.out.cell (j := 1) rfl; have c2 := x1.out.cell (j := 2) rfl
  have d0 := y1.out.cell (j := 0) rfl; have d1 := y1.out.cell (j := 1) rfl; have d2 := y1.out.cell (j := 2) rfl
  simp only [World.size_alloc] at d0 d1 d2
  repeat still_step
  still_call (still_of (cmpI _ _ _))
  repeat still_step
  still_call (still_of (cmpI _ _ _))
  repeat still_step
  still_call (still_of (cmpS _ _ _))
  refine wpStill_nil ?_
  go_wp2_with fail
  refine (cmpOr _ _ _ w1.heap.size 0 3 _ ((Lies.new w1 _ _).cell (j := 0) rfl) ((Lies.new w1 _ _).cell (j := 1) rfl) ((Lies.new w1 _ _).cell (j := 2) rfl)).mono ?_
  rintro e w' ⟨rfl, rfl⟩
  go_wp2_with fail
  go_ret
  exact ⟨rfl, B1.out.alloc B1.out.size _⟩
theorem paClosed (a b m : Int) (w : World) : Calls Try.prog 27 #[.agg #[.int .i64 a, .int .i64 b], .int .i64 m] w
    fun e w' => e = .returned (.bool (decide (b ≤ m))) ∧ w' = w.alloc (.cells #[.int .i64 a, .int .i64 b] 55) := by
  go_enter Try.func27, Try.ntmps27
  go_wp2
  go_ret
  exact ⟨rfl, rfl⟩
namespace Pan
def clN (x : Pn) (m : Int) : Int := if x.p.hi ≤ m then -1 else 1
end Pan
theorem paClosing (x : Pn) (m : Int) (w : World) : Calls Try.prog 76 #[paV x, .int .i64 m] w
    fun e w' => e = .returned (.int .i64 (clN x m)) ∧ w' = (w.alloc (.cells (paC x) 59)).alloc (.cells #[.int .i64 x.p.lo, .int .i64 x.p.hi] 55) := by
  by_cases h : x.p.hi ≤ m
  all_goals
    have hc := Lib.hid (show clN x m = _ from by unfold clN; first | exact if_pos h | exact if_neg h)
    go_enter Try.func76, Try.ntmps76
    go_wp2_with (go_at_call 27; refine (paClosed _ _ _ _).mono ?_; rintro e w' ⟨rfl, rfl⟩)
    go_ret
    exact ⟨by rw [hc.out]; rfl, rfl⟩
/-- Hands back a truth; its argument was laid anew. -/
def TellsX (b : Bool) (x : Pn) (w : World) (e : Ending) (w' : World) : Prop := e = .returned (.bool b) ∧ w' = w.alloc (.cells (paC x) 59)
def TellsXY (b : Bool) (x y : Pn) (w : World) (e : Ending) (w' : World) : Prop := e = .returned (.bool b) ∧ w' = (w.alloc (.cells (paC x) 59)).alloc (.cells (paC y) 59)
namespace Pan
def okK (k : List UInt8) : Bool := decide (1 ≤ k.length ∧ k.length ≤ 16)
end Pan
theorem rkKey (k : List UInt8) (w : World) : Calls Try.prog 67 #[.string (kS k)] w (SaysB (okK k) w) := by
  have hsz := kS_size k
  by_cases h1 : (1 : Int) ≤ (kS k).size
  · by_cases h2 : ((kS k).size : Int) ≤ 16
    · have hc := Lib.hid (show okK k = true from decide_eq_true ⟨by omega, by omega⟩)
      clear hsz
      go_enter Try.func67, Try.ntmps67
      go_wp2_with fail
      go_ret
      exact ⟨by rw [hc.out]; rfl, rfl⟩
    · have hc := Lib.hid (show okK k = false from decide_eq_false fun h => by omega)
      clear hsz
      go_enter Try.func67, Try.ntmps67
      go_wp2_with fail
      go_ret
      exact ⟨by rw [hc.out]; rfl, rfl⟩
  · have hc := Lib.hid (show okK k = false from decide_eq_false fun h => by omega)
    clear hsz
    go_enter Try.func67, Try.ntmps67
    go_wp2_with fail
    go_ret
    exact ⟨by rw [hc.out]; rfl, rfl⟩
set_option maxHeartbeats 1000000 in
theorem paValid (x : Pn) (w : World) : Calls Try.prog 72 #[paV x] w (TellsX (may x) x w) := by
  have hsz := kS_size x.p.key
  by_cases h0 : (1 : Int) ≤ (kS x.p.key).size
  · by_cases h1 : ((kS x.p.key).size : Int) ≤ 16
    · by_cases h2 : 0 ≤ x.p.lo
      · by_cases h3 : x.p.lo < x.p.hi
        · by_cases h4 : x.p.hi ≤ 1099511627776
          · by_cases h5 : 1 ≤ x.acc.n
            · have hc := Lib.hid (show may x = true from decide_eq_true ⟨by omega, by omega, h2, h3, h4, h5⟩)
              clear hsz
              go_enter Try.func72, Try.ntmps72
              go_wp2_with fail
              go_ret
              exact ⟨by rw [hc.out]; rfl, rfl⟩
            · have hc := Lib.hid (show may x = false from decide_eq_false fun h => by omega)
              clear hsz
              go_enter Try.func72, Try.ntmps72
              go_wp2_with fail
              go_ret
              exact ⟨by rw [hc.out]; first | rfl | exact congrArg (fun b => Ending.returned (Value.bool b)) (decide_eq_false (show ¬ 1 ≤ x.acc.n by omega)), rfl⟩
          · have hc := Lib.hid (show may x = false from decide_eq_false fun h => by omega)
            clear hsz
            go_enter Try.func72, Try.ntmps72
            go_wp2_with fail
            go_ret
            exact ⟨by rw [hc.out]; rfl, rfl⟩
        · have hc := Lib.hid (show may x = false from decide_eq_false fun h => by omega)
          clear hsz
          go_enter Try.func72, Try.ntmps72
          go_wp2_with fail
          go_ret
          exact ⟨by rw [hc.out]; rfl, rfl⟩
      · have hc := Lib.hid (show may x = false from decide_eq_false fun h => by omega)
        clear hsz
        go_enter Try.func72, Try.ntmps72
        go_wp2_with fail
        go_ret
        exact ⟨by rw [hc.out]; rfl, rfl⟩
    · have hc := Lib.hid (show may x = false from decide_eq_false fun h => by omega)
      clear hsz
      go_enter Try.func72, Try.ntmps72
      go_wp2_with fail
      go_ret
      exact ⟨by rw [hc.out]; rfl, rfl⟩
  · have hc := Lib.hid (show may x = false from decide_eq_false fun h => by omega)
    clear hsz
    go_enter Try.func72, Try.ntmps72
    go_wp2_with fail
    go_ret
    exact ⟨by rw [hc.out]; rfl, rfl⟩
set_option maxHeartbeats 1000000 in
theorem rfMay (x : Pn) (w : World) : Calls Try.prog 70 #[paV x] w (TellsX (may x) x w) := by
  have hsz := kS_size x.p.key
  by_cases h0 : (1 : Int) ≤ (kS x.p.key).size
  · by_cases h1 : ((kS x.p.key).size : Int) ≤ 16
    · by_cases h2 : 0 ≤ x.p.lo
      · by_cases h3 : x.p.lo < x.p.hi
        · by_cases h4 : x.p.hi ≤ 1099511627776
          · by_cases h5 : 1 ≤ x.acc.n
            · have hc := Lib.hid (show may x = true from decide_eq_true ⟨by omega, by omega, h2, h3, h4, h5⟩)
              have hk := Lib.hid (show okK x.p.key = true from decide_eq_true ⟨by omega, by omega⟩)
              clear hsz
              go_enter Try.func70, Try.ntmps70
              go_wp2_with (go_at_call 67; refine (rkKey _ _).mono ?_; rw [hk.out]; rintro e w' ⟨rfl, rfl⟩)
              go_ret
              exact ⟨by rw [hc.out]; rfl, rfl⟩
            · have hc := Lib.hid (show may x = false from decide_eq_false fun h => by omega)
              have hk := Lib.hid (show okK x.p.key = true from decide_eq_true ⟨by omega, by omega⟩)
              clear hsz
              go_enter Try.func70, Try.ntmps70
              go_wp2_with (go_at_call 67; refine (rkKey _ _).mono ?_; rw [hk.out]; rintro e w' ⟨rfl, rfl⟩)
              go_ret
              exact ⟨by rw [hc.out]; first | rfl | exact congrArg (fun b => Ending.returned (Value.bool b)) (decide_eq_false (show ¬ 1 ≤ x.acc.n by omega)), rfl⟩
          · have hc := Lib.hid (show may x = false from decide_eq_false fun h => by omega)
            have hk := Lib.hid (show okK x.p.key = true from decide_eq_true ⟨by omega, by omega⟩)
            clear hsz
            go_enter Try.func70, Try.ntmps70
            go_wp2_with (go_at_call 67; refine (rkKey _ _).mono ?_; rw [hk.out]; rintro e w' ⟨rfl, rfl⟩)
            go_ret
            exact ⟨by rw [hc.out]; rfl, rfl⟩
        · have hc := Lib.hid (show may x = false from decide_eq_false fun h => by omega)
          have hk := Lib.hid (show okK x.p.key = true from decide_eq_true ⟨by omega, by omega⟩)
          clear hsz
          go_enter Try.func70, Try.ntmps70
          go_wp2_with (go_at_call 67; refine (rkKey _ _).mono ?_; rw [hk.out]; rintro e w' ⟨rfl, rfl⟩)
          go_ret
          exact ⟨by rw [hc.out]; rfl, rfl⟩
      · have hc := Lib.hid (show may x = false from decide_eq_false fun h => by omega)
        have hk := Lib.hid (show okK x.p.key = true from decide_eq_true ⟨by omega, by omega⟩)
        clear hsz
        go_enter Try.func70, Try.ntmps70
        go_wp2_with (go_at_call 67; refine (rkKey _ _).mono ?_; rw [hk.out]; rintro e w' ⟨rfl, rfl⟩)
        go_ret
        exact ⟨by rw [hc.out]; rfl, rfl⟩
    · have hc := Lib.hid (show may x = false from decide_eq_false fun h => by omega)
      have hk := Lib.hid (show okK x.p.key = false from decide_eq_false fun h => by omega)
      clear hsz
      go_enter Try.func70, Try.ntmps70
      go_wp2_with (go_at_call 67; refine (rkKey _ _).mono ?_; rw [hk.out]; rintro e w' ⟨rfl, rfl⟩)
      go_ret
      exact ⟨by rw [hc.out]; rfl, rfl⟩
  · have hc := Lib.hid (show may x = false from decide_eq_false fun h => by omega)
    have hk := Lib.hid (show okK x.p.key = false from decide_eq_false fun h => by omega)
    clear hsz
    go_enter Try.func70, Try.ntmps70
    go_wp2_with (go_at_call 67; refine (rkKey _ _).mono ?_; rw [hk.out]; rintro e w' ⟨rfl, rfl⟩)
    go_ret
    exact ⟨by rw [hc.out]; rfl, rfl⟩
theorem rfAhead (x y : Pn) (w : World) : Calls Try.prog 74 #[paV x, paV y] w (TellsXY (Pan.ahead x.p y.p) x y w) := by
  by_cases h1 : x.p.hi = y.p.hi
  · by_cases h2 : x.p.lo = y.p.lo
    · have hc := Lib.hid (show Pan.ahead x.p y.p = Op.bytesLess (kS x.p.key).toList (kS y.p.key).toList from by unfold Pan.ahead; rw [if_pos h1, if_pos h2, kS_list, kS_list])
      have e1 := nb0 h1
      have e2 := nb0 h2
      clear h1 h2
      go_enter Try.func74, Try.ntmps74
      go_wp2_with fail
      go_ret
      exact ⟨by rw [hc.out]; rfl, rfl⟩
    · have hc := Lib.hid (show Pan.ahead x.p y.p = decide (x.p.lo < y.p.lo) from by unfold Pan.ahead; rw [if_pos h1, if_neg h2])
      have e1 := nb0 h1
      have e2 := nb h2
      clear h1 h2
      go_enter Try.func74, Try.ntmps74
      go_wp2_with fail
      go_ret
      exact ⟨by rw [hc.out]; rfl, rfl⟩
  · have hc := Lib.hid (show Pan.ahead x.p y.p = decide (x.p.hi < y.p.hi) from by unfold Pan.ahead; rw [if_neg h1])
    have e1 := nb h1
    clear h1
    go_enter Try.func74, Try.ntmps74
    go_wp2_with fail
    go_ret
    exact ⟨by rw [hc.out]; rfl, rfl⟩
theorem pfields_win : Try.prog.underlying 55 = some (.struct (Try.prog.fieldsOf 55)) := by kernel_rfl
theorem pstood_win : Try.prog.stoodInHeld 55 = false := by kernel_rfl
theorem run_peqW (d : Nat) (lo hi lo' hi' : Int) (w : World) : (Op.equalIn (d + 2) 55 (.agg #[.int .i64 lo, .int .i64 hi]) (.agg #[.int .i64 lo', .int .i64 hi'])).run Try.prog w = .ok ((lo == lo') && (hi == hi')) w := by
  have h2 := Try.underlying2
  rw [run_equalIn_agg w _ _ _ _ pfields_win pstood_win]
  simp [Program.fieldsOf, Try.underlying55, Op.eqFields, part, isAgg, run_underlying h2, run_equalIn_int w d _ .i64 .i64 _ _ h2]
  by_cases g1 : lo = lo' <;> by_cases g2 : hi = hi' <;> simp [g1, g2]
theorem run_eqPW (lo hi lo' hi' : Int) (w : World) : (binOp .eql 55 (.agg #[.int .i64 lo, .int .i64 hi]) (.agg #[.int .i64 lo', .int .i64 hi'])).run Try.prog w = .ok (.bool ((lo == lo') && (hi == hi'))) w := by
  rw [run_eql_struct, show (10000 : Nat) = 9998 + 2 from rfl, run_peqW]; rfl
theorem rfSame (x y : Pn) (w : World) : Calls Try.prog 106 #[paV x, paV y] w (TellsXY (decide (x.p = y.p)) x y w) := by
  by_cases h1 : x.p.lo = y.p.lo ∧ x.p.hi = y.p.hi
  · have he : ∀ w, (binOp .eql 55 (.agg #[.int .i64 x.p.lo, .int .i64 x.p.hi]) (.agg #[.int .i64 y.p.lo, .int .i64 y.p.hi])).run Try.prog w = .ok (.bool true) w := fun w => by rw [run_eqPW, eq_b h1.1, eq_b h1.2]; rfl
    by_cases h2 : x.p.key = y.p.key
    · have hc := Lib.hid (show decide (x.p = y.p) = true from decide_eq_true (by cases hx : x.p; cases hy : y.p; simp_all))
      have hk : ((kS x.p.key).toList == (kS y.p.key).toList) = true := by rw [kS_list, kS_list, h2, beq_self_eq_true]
      clear h1 h2
      go_enter Try.func106, Try.ntmps106
      go_wp2_with fail
      go_ret
      exact ⟨by rw [hc.out]; rfl, rfl⟩
    · have hc := Lib.hid (show decide (x.p = y.p) = false from decide_eq_false (fun e => h2 (by rw [e])))
      have hk : ((kS x.p.key).toList == (kS y.p.key).toList) = false := by rw [kS_list, kS_list, beq_eq_false_iff_ne]; exact h2
      clear h1 h2
      go_enter Try.func106, Try.ntmps106
      go_wp2_with fail
      go_ret
      exact ⟨by rw [hc.out]; rfl, rfl⟩
  · have he : ∀ w, (binOp .eql 55 (.agg #[.int .i64 x.p.lo, .int .i64 x.p.hi]) (.agg #[.int .i64 y.p.lo, .int .i64 y.p.hi])).run Try.prog w = .ok (.bool false) w := fun w => by
      rw [run_eqPW]
      by_cases g1 : x.p.lo = y.p.lo
      · have g2 : x.p.hi ≠ y.p.hi := fun e => h1 ⟨g1, e⟩
        rw [ne_b g2, Bool.and_false]
      · rw [ne_b g1, Bool.false_and]
    have hc := Lib.hid (show decide (x.p = y.p) = false from decide_eq_false (fun e => h1 ⟨by rw [e], by rw [e]⟩))
    clear h1
    go_enter Try.func106, Try.ntmps106
    go_wp2_with fail
    go_ret
    exact ⟨by rw [hc.out]; rfl, rfl⟩
theorem rfFold (k : Int) (w : World) : Calls Try.prog 39 #[.int .i64 k] w fun e w' => e = .returned (.bool (Acm.isK k)) ∧ w = w' := by
  by_cases h1 : 1 ≤ k
  · by_cases h2 : k ≤ 5
    · have hc := Lib.hid (show Acm.isK k = true from decide_eq_true ⟨h1, h2⟩)
      go_enter Try.func39, Try.ntmps39
      go_wp2
      go_ret
      exact ⟨by rw [hc.out]; rfl, rfl⟩
    · have hc := Lib.hid (show Acm.isK k = false from decide_eq_false fun h => h2 h.2)
      go_enter Try.func39, Try.ntmps39
      go_wp2
      go_ret
      exact ⟨by rw [hc.out]; rfl, rfl⟩
  · have hc := Lib.hid (show Acm.isK k = false from decide_eq_false fun h => h1 h.1)
    go_enter Try.func39, Try.ntmps39
    go_wp2
    go_ret
    exact ⟨by rw [hc.out]; rfl, rfl⟩
end Go.Proofs.Ythfbcfddfbipfaa
/- A region that draws its order, walked once, in the order of its text: its operations read, its callees may allocate, over a class of worlds that they keep; what stands at its end goes in that order. -/
namespace Go.Proofs.Ythfbcfddfbipfaa
open Go.RowKit
section
variable {P : Program} {ops : Array Oper} {md : Region.Mode} {C : World → Prop}
def anyQL (P : Program) (md : Region.Mode) (ops : Array Oper) (C : World → Prop) (n : Nat) (L : Array Bool → Act → Prop) : Nat → Array Bool → Act → Prop
  | 0, listed, a => L listed a
  | f + 1, listed, a => Region.ready md ops listed ≠ [] ∧ ∀ i ∈ Region.ready md ops listed, i < n ∧ qOp P ops C i (anyQL P md ops C n L f (listed.setIfInBounds i true)) a
theorem any_of_qhead {n g : Nat} {L : Array Bool → Act → Prop} {Q' : Exit → Act → World → Prop} (hL : ∀ listed a w, C w → L listed a → wpAny P md ops Q' g listed a w) :
    ∀ (f : Nat) (listed : Array Bool) (a : Act) (w : World), C w → anyQL P md ops C n L f listed a → wpAny P md ops Q' (f + g) listed a w
  | 0, listed, a, w, hw, h => by rw [Nat.zero_add]; exact hL _ _ _ hw h
  | f + 1, listed, a, w, hw, h => by
    rw [show f + 1 + g = (f + g) + 1 by omega]
    exact ⟨fun h0 => absurd h0 h.1, fun i hi => wpOp_of_qOp hw (fun a' w' hw' h' => any_of_qhead hL f _ a' w' hw' h') (h.2 i hi).2⟩
theorem anyQL_first {n i : Nat} {oi : Oper} {v : Value} {L : Array Bool → Act → Prop} (hi : ops[i]? = some oi) (hsel : ∀ (j : Nat) (o : Oper) cs b, ops[j]? = some o → o.op ≠ .select cs b)
    (hs : Region.sinkB md ops n = true) (hc : Region.chainB md ops n = true) (hn : n < ops.size) (hin : i < n)
    (hdone : ∀ listed a, L listed a → ∀ j ∈ Region.ready md ops listed, n ≤ j) :
    ∀ (f : Nat) (listed : Array Bool) (a : Act), HeadInv md ops n listed →
      (∀ j oj, ops[j]? = some oj → j ≠ i → listed.getD j true = false → (∀ e ∈ oj.after, Region.binds md e = true → e.on ≠ i) → oi.apart ops oj = true) →
      i ∈ Region.ready md ops listed → YieldsIn P ops C oi v a →
      anyQL P md ops C n L f (listed.setIfInBounds i true) (a.put oi.dst v) → anyQL P md ops C n L (f + 1) listed a := by
  intro f
  induction f with
  | zero =>
    intro listed a inv _ hr hy H
    have hun := (mem_ready.1 hr).1
    refine ⟨fun h => (by rw [h] at hr; cases hr), fun j hj => ?_⟩
    have hjn : j < n := by
      rcases Nat.lt_or_ge j n with h | h
      · exact h
      · exact absurd hj (tail_waits hs hc hn inv _ i rfl hin hun j h)
    refine ⟨hjn, ?_⟩
    by_cases hji : j = i
    · subst hji; exact hy.qOp hi H
    · have := hdone _ _ H j (ready_mono hj hji)
      omega
  | succ f ih =>
    intro listed a inv hfree hr hy H
    have hun := (mem_ready.1 hr).1
    refine ⟨fun h => (by rw [h] at hr; cases hr), fun j hj => ?_⟩
    have hjn : j < n := by
      rcases Nat.lt_or_ge j n with h | h
      · exact h
      · exact absurd hj (tail_waits hs hc hn inv _ i rfl hin hun j h)
    refine ⟨hjn, ?_⟩
    by_cases hji : j = i
    · subst hji; exact hy.qOp hi H
    · have h1 := (H.2 j (ready_mono hj hji)).2
      obtain ⟨hjun, oj, hoj, hall⟩ := mem_ready.1 hj
      have hnot : ∀ e ∈ oj.after, Region.binds md e = true → e.on ≠ i := fun e he hb heq => by
        have h1 := hall e he hb
        rw [heq, getD_both hun] at h1
        cases h1
      have h2 := qOp_put hoj (hfree j oj hoj hji hjun hnot) (fun cs b => hsel i oi cs b hi) (fun cs b => hsel j oj cs b hoj) hy h1
      have hfree' : ∀ k ok, ops[k]? = some ok → k ≠ i → (listed.setIfInBounds j true).getD k true = false →
          (∀ e ∈ ok.after, Region.binds md e = true → e.on ≠ i) → oi.apart ops ok = true := fun k ok hk hki hun hno => by
        refine hfree k ok hk hki ?_ hno
        by_cases hjk : j = k
        · subst hjk; exact hjun
        · rw [getD_set_ne true hjk] at hun; exact hun
      refine qOp_mono (fun a' h3 => ih (listed.setIfInBounds j true) a' (inv.set hj hjn) hfree' (ready_mono hr (Ne.symm hji)) h3.1 ?_) h2
      rw [Array.setIfInBounds_comm _ _ hji]
      exact h3.2
theorem anyQL_lex {n g : Nat} {Lq : Act → Prop} (hsel : Region.noSelect ops = true) (hs : Region.sinkB md ops n = true) (hc : Region.chainB md ops n = true) (hn : n < ops.size) :
    ∀ (l : List Oper) (k : Nat) (listed : Array Bool) (a : Act), (∀ j, j < l.length → l[j]? = ops[k + j]?) → k + l.length = n → HeadInv md ops n listed →
    Region.lexHead md ops g l.length k listed = true → wpQuiet P ops C Lq l a →
    anyQL P md ops C n (fun listed' a' => Region.seqB md ops g n listed' = true ∧ Lq a') l.length listed a
  | [], k, listed, a, _, hk, _, hB, h => by
    have : k = n := by simpa using hk
    subst this
    exact ⟨by simpa [Region.lexHead] using hB, h⟩
  | o :: l, k, listed, a, hl, hk, inv, hB, h => by
    have h0 : ops[k]? = some o := by simpa using (hl 0 (by simp)).symm
    simp only [List.length_cons, Region.lexHead, Bool.and_eq_true] at hB
    obtain ⟨⟨hr, hf⟩, hB'⟩ := hB
    have hkn : k < n := by simp only [List.length_cons] at hk; omega
    have hr' : k ∈ Region.ready md ops listed := by simpa using hr
    have hst : qOp P ops C k (wpQuiet P ops C Lq l) a := by unfold qOp; simp only [h0]; exact h
    obtain ⟨v, hy, hK⟩ := yieldsIn_of_qOp h0 hst
    exact anyQL_first h0 (Region.noSelect_spec hsel) hs hc hn hkn (fun listed' a' hL => seqB_ready hL.1) l.length listed a inv (Region.free_spec h0 hf) hr' hy
      (anyQL_lex hsel hs hc hn l (k + 1) _ _ (fun j hj => by have := hl (j + 1) (by simp; omega); simpa [Nat.add_assoc, Nat.add_comm 1 j] using this) (by simp only [List.length_cons] at hk; omega) (inv.set hr' hkn) hB' hK)
/-- The first n in the order of the text, over the class; then the others. -/
theorem wide_tail {id : Nat} {Q : Exit → Act → World → Prop} {a : Act} {w : World} {l : List Oper} (n : Nat) (C : World → Prop) (hm : P.follows .mixedOrders = true) (hB : Region.lexTailB .any l.toArray n = true) (hC : C w.drew)
    (h : wpQuiet P l.toArray C (fun a' => ∀ w', C w' → wpList P l.toArray Q (l.drop n) a' w') (l.take n) a) : (Code.region id l.toArray true).wp P Q a w := by
  simp only [Region.lexTailB, Bool.and_eq_true, decide_eq_true_eq] at hB
  obtain ⟨⟨⟨⟨hsel, hn⟩, hs⟩, hc⟩, hlex⟩ := hB
  have hn' : n < l.length := by simpa using hn
  have htl : (l.take n).length = n := by simp; omega
  have hdl : (l.drop n).length = l.toArray.size - n := by simp
  have inv0 : HeadInv .any l.toArray n (Array.replicate l.toArray.size false) :=
    ⟨by simp, fun j oj _ hl => (by rw [getD_replicate_false] at hl; cases hl), fun t _ ht => getD_in (by simpa using ht) (getD_replicate_false _ _)⟩
  have H := anyQL_lex (md := .any) (g := l.toArray.size - n) hsel hs hc hn (l.take n) 0 _ a (fun j hj => by
    have hj' : j < n := by rw [htl] at hj; exact hj
    simp [hj']) (by simpa using htl) inv0 (by rw [htl]; exact hlex) h
  refine wp_region_any hm ?_
  have := any_of_qhead (Q' := Q) (g := l.toArray.size - n) (fun listed a' w' hw' hL => by
    have := wpAny_of_seq (md := .any) (Q' := Q) (l.drop n) n listed a' w' (fun j => by simp [List.getElem?_drop]) (by rw [hdl]; exact hL.1) (hL.2 w' hw')
    rwa [hdl] at this) _ _ _ _ hC H
  rw [htl, show n + (l.toArray.size - n) = l.toArray.size by omega] at this
  exact this
/-- All of it in the order of the text, over the class. -/
theorem wide_all {id : Nat} {Q : Exit → Act → World → Prop} {a : Act} {w : World} {l : List Oper} (C : World → Prop) (hm : P.follows .mixedOrders = true) (hB : Region.lexB .any l.toArray = true) (hC : C w.drew)
    (h : wpQuiet P l.toArray C (fun a' => ∀ w', C w' → Q .normal a' w') l a) : (Code.region id l.toArray true).wp P Q a w :=
  wp_region_quiet (C := C) hm hB hC (by simpa using h)
/-- One operation. -/
theorem wide_op {o : Oper} {a : Act} {K : Act → Prop} {v : Value} (h : ∀ w, C w → o.quietAt P a C w v) (hk : K (a.put o.dst v)) : o.quiet P a C K := ⟨v, h, hk⟩
end
end Go.Proofs.Ythfbcfddfbipfaa
