/- Pane, PaneOne, put together. -/
import Derived.Test.YtipmphkmeiogoaaZ7
import Derived.Test.YtipmphkmeiogoaaZ8
import Derived.Laws.StructEq
import Derived.Deep.RegionHeld3
import Derived.BigQuiet
import Derived.Laws.Cover1
import Derived.StillTailTactics
/- Panes in memory; the comparisons of package cmp; which pane may be, whose place comes first. -/
namespace Go.Proofs.Ytipmphkmeiogoaa
open Go.RowKit
open Pan
set_option linter.unusedVariables false
set_option maxRecDepth 8000
def kS (l : List UInt8) : ByteArray := ⟨l.toArray⟩
theorem kS_size (l : List UInt8) : (kS l).size = l.length := by show l.toArray.size = _; simp
theorem kS_list (l : List UInt8) : (kS l).toList = l := by rw [ByteArray.toList_eq]; rfl
theorem kS_of (s : ByteArray) : kS s.toList = s := by rw [ByteArray.toList_eq]; rfl
abbrev paC (x : Pn) : Array Value := #[.int .i64 x.p.lo, .int .i64 x.p.hi, .string (kS x.p.key), .int .i64 x.acc.n, .int .i64 x.acc.a, .int .i64 x.acc.b]
abbrev paV (x : Pn) : Value := .agg (paC x)
/-- Hands back a truth; nothing is touched. -/
def SaysB (b : Bool) (w : World) (e : Ending) (w' : World) : Prop := e = .returned (.bool b) ∧ w = w'
def SaysI (n : Int) (w : World) (e : Ending) (w' : World) : Prop := e = .returned (.int .i64 n) ∧ w = w'
/-- Hands back a truth, a number; what was stays. -/
def TellsB (b : Bool) (w : World) (e : Ending) (w' : World) : Prop := e = .returned (.bool b) ∧ Below w.heap.size w w'
def TellsI (n : Int) (w : World) (e : Ending) (w' : World) : Prop := e = .returned (.int .i64 n) ∧ Below w.heap.size w w'
namespace Pan
def cmI (a b : Int) : Int := if a < b then -1 else if b < a then 1 else 0
def cmK (a b : List UInt8) : Int := if less a b then -1 else if less b a then 1 else 0
def or3 (x y z : Int) : Int := if x ≠ 0 then x else if y ≠ 0 then y else z
def ordN (a b : Pl) : Int := or3 (cmI a.hi b.hi) (cmI a.lo b.lo) (cmK a.key b.key)
theorem ordN_lt (a b : Pl) : ordN a b < 0 ↔ ahead a b = true := by
  rw [ahead_iff]
  unfold ordN or3 cmI cmK
  by_cases h1 : a.hi < b.hi
  · simp [h1]
  · by_cases h2 : b.hi < a.hi
    · simp [h1, h2]; omega
    · have e : a.hi = b.hi := by omega
      by_cases h3 : a.lo < b.lo
      · simp [e, h3]
      · by_cases h4 : b.lo < a.lo
        · simp [e, h3, h4]; omega
        · have e2 : a.lo = b.lo := by omega
          simp [e, e2]
          cases h5 : less a.key b.key <;> cases h6 : less b.key a.key <;> simp
theorem ordN_eq (a b : Pl) : ordN a b = 0 ↔ a = b := by
  constructor
  · intro h
    rcases ahead_total a b with h1 | h1 | h1
    · rw [← ordN_lt] at h1; omega
    · exact h1
    · exfalso
      have h2 := (ahead_iff b a).1 h1
      revert h
      unfold ordN or3 cmI cmK
      by_cases h3 : a.hi = b.hi
      · by_cases h4 : a.lo = b.lo
        · have h5 : less b.key a.key = true := by
            rcases h2 with h2 | ⟨_, h2 | ⟨_, h2⟩⟩
            · omega
            · omega
            · exact h2
          have h6 : less a.key b.key = false := by
            cases h7 : less a.key b.key with
            | false => rfl
            | true => have := less_trans _ _ _ h5 h7; rw [less_irrefl] at this; cases this
          simp [h3, h4, h5, h6]
        · have h5 : b.lo < a.lo := by omega
          have h6 : ¬ a.lo < b.lo := by omega
          simp [h3, h5, h6]
      · have h5 : b.hi < a.hi := by omega
        have h6 : ¬ a.hi < b.hi := by omega
        simp [h5, h6]
  · rintro rfl
    unfold ordN or3 cmI cmK
    simp [less_irrefl]
/-- May it be? -/
def may (x : Pn) : Bool := decide (1 ≤ x.p.key.length ∧ x.p.key.length ≤ 16 ∧ 0 ≤ x.p.lo ∧ x.p.lo < x.p.hi ∧ x.p.hi ≤ 1099511627776 ∧ 1 ≤ x.acc.n)
end Pan
theorem nanI (a : Int) (w : World) : Calls Try.prog 98 #[.int .i64 a] w (SaysB false w) := by
  go_enter Try.func98, Try.ntmps98
  go_wp2_with fail
  go_ret
  exact ⟨by simp, rfl⟩
theorem nanS (a : ByteArray) (w : World) : Calls Try.prog 99 #[.string a] w (SaysB false w) := by
  go_enter Try.func99, Try.ntmps99
  go_wp2_with fail
  go_ret
  exact ⟨by simp, rfl⟩
theorem cmpI (a b : Int) (w : World) : Calls Try.prog 85 #[.int .i64 a, .int .i64 b] w (SaysI (cmI a b) w) := by
  by_cases h1 : a < b
  · have hc := Lib.hid (show cmI a b = -1 from if_pos h1)
    go_enter Try.func85, Try.ntmps85
    go_wp2_with (go_at_call 98; refine (nanI _ _).mono ?_; rintro e w' ⟨rfl, rfl⟩)
    go_ret
    exact ⟨by rw [hc.out]; rfl, rfl⟩
  · by_cases h2 : b < a
    · have hc := Lib.hid (show cmI a b = 1 from by unfold cmI; rw [if_neg h1, if_pos h2])
      go_enter Try.func85, Try.ntmps85
      go_wp2_with (go_at_call 98; refine (nanI _ _).mono ?_; rintro e w' ⟨rfl, rfl⟩)
      go_ret
      exact ⟨by rw [hc.out]; rfl, rfl⟩
    · have hc := Lib.hid (show cmI a b = 0 from by unfold cmI; rw [if_neg h1, if_neg h2])
      go_enter Try.func85, Try.ntmps85
      go_wp2_with (go_at_call 98; refine (nanI _ _).mono ?_; rintro e w' ⟨rfl, rfl⟩)
      go_ret
      exact ⟨by rw [hc.out]; rfl, rfl⟩
theorem cmpS (a b : List UInt8) (w : World) : Calls Try.prog 86 #[.string (kS a), .string (kS b)] w (SaysI (cmK a b) w) := by
  by_cases h1 : less a b = true
  · have hc := Lib.hid (show cmK a b = -1 from if_pos h1)
    have h3 : Op.bytesLess (kS a).toList (kS b).toList = true := by rw [kS_list, kS_list]; exact h1
    clear h1
    go_enter Try.func86, Try.ntmps86
    go_wp2_with (go_at_call 99; refine (nanS _ _).mono ?_; rintro e w' ⟨rfl, rfl⟩)
    go_ret
    exact ⟨by rw [hc.out]; rfl, rfl⟩
  · have h1' : less a b = false := by simpa using h1
    have h3 : Op.bytesLess (kS a).toList (kS b).toList = false := by rw [kS_list, kS_list]; exact h1'
    by_cases h2 : less b a = true
    · have hc := Lib.hid (show cmK a b = 1 from by unfold cmK; rw [if_neg h1, if_pos h2])
      have h4 : ((kS a).toList == (kS b).toList) = false := by
        rw [kS_list, kS_list, beq_eq_false_iff_ne]
        rintro rfl
        rw [h1'] at h2; cases h2
      clear h1 h1' h2
      go_enter Try.func86, Try.ntmps86
      go_wp2_with (go_at_call 99; refine (nanS _ _).mono ?_; rintro e w' ⟨rfl, rfl⟩)
      go_ret
      exact ⟨by rw [hc.out]; rfl, rfl⟩
    · have h2' : less b a = false := by simpa using h2
      have hc := Lib.hid (show cmK a b = 0 from by unfold cmK; rw [if_neg h1, if_neg h2])
      have h4 : ((kS a).toList == (kS b).toList) = true := by
        rw [kS_list, kS_list, beq_iff_eq]
        rcases less_total a b with h | h | h
        · rw [h1'] at h; cases h
        · exact h
        · rw [h2'] at h; cases h
      clear h1 h1' h2 h2'
      go_enter Try.func86, Try.ntmps86
      go_wp2_with (go_at_call 99; refine (nanS _ _).mono ?_; rintro e w' ⟨rfl, rfl⟩)
      go_ret
      exact ⟨by rw [hc.out]; rfl, rfl⟩
/-- Where a loop over three stands. -/
def OrAt (x y z : Int) (w : World) (v : Value) (wr : World) : Prop := ∃ k : Nat, v = .int .i64 k ∧ wr = w ∧ (k = 0 ∨ (k = 1 ∧ x = 0) ∨ (k = 2 ∧ x = 0 ∧ y = 0) ∨ (k = 3 ∧ x = 0 ∧ y = 0 ∧ z = 0))
theorem cmpOr (x y z : Int) (b off c : Nat) (w : World) (c0 : w.cell? ⟨b, off, none⟩ = some (.int .i64 x)) (c1 : w.cell? ⟨b, off + 1, none⟩ = some (.int .i64 y)) (c2 : w.cell? ⟨b, off + 2, none⟩ = some (.int .i64 z)) :
    Calls Try.prog 84 #[.slice (some ⟨b, off, none⟩) 3 c] w (SaysI (or3 x y z) w) := by
  go_enter Try.func84, Try.ntmps84
  go_wp2_with fail
  go_loopw [8] (fun i wr => OrAt x y z w i wr) (fun i _ => 3 - (intOf i).toNat)
  case atStart => exact ⟨0, rfl, rfl, .inl rfl⟩
  case round =>
    obtain ⟨k, rfl, rfl, h⟩ := hrel
    rcases h with rfl | ⟨rfl, rfl⟩ | ⟨rfl, rfl, rfl⟩ | ⟨rfl, rfl, rfl, rfl⟩
    · by_cases h : x = 0
      · subst h
        go_wp2_with fail
        go_roundw
        case rel => exact ⟨1, rfl, rfl, .inr (.inl ⟨rfl, rfl⟩)⟩
        case measure => simp [intOf]
      · have hb := nb h
        have hc := Lib.hid (show or3 x y z = x from if_pos h)
        clear h
        go_wp2_with fail
        go_ret
        exact ⟨by rw [hc.out]; rfl, rfl⟩
    · by_cases h : y = 0
      · subst h
        go_wp2_with fail
        go_roundw
        case rel => exact ⟨2, rfl, rfl, .inr (.inr (.inl ⟨rfl, rfl, rfl⟩))⟩
        case measure => simp [intOf]
      · have hb := nb h
        have hc := Lib.hid (show or3 0 y z = y from by unfold or3; rw [if_neg (by simp), if_pos h])
        clear h
        go_wp2_with fail
        go_ret
        exact ⟨by rw [hc.out]; rfl, rfl⟩
    · by_cases h : z = 0
      · subst h
        go_wp2_with fail
        go_roundw
        case rel => exact ⟨3, rfl, rfl, .inr (.inr (.inr ⟨rfl, rfl, rfl, rfl⟩))⟩
        case measure => simp [intOf]
      · have hb := nb h
        have hc := Lib.hid (show or3 0 0 z = z from by unfold or3; rw [if_neg (by simp), if_neg (by simp)])
        clear h
        go_wp2_with fail
        go_ret
        exact ⟨by rw [hc.out]; rfl, rfl⟩
    · go_wp2_with fail
      go_ret
      exact ⟨rfl, rfl⟩
end Go.Proofs.Ytipmphkmeiogoaa
/- Contracts on one or two panes: order, closing, valid; the reference's Key, May, Ahead, same. -/
namespace Go.Proofs.Ytipmphkmeiogoaa
open Go.RowKit
open Pan
set_option linter.unusedVariables false
set_option maxRecDepth 8000
set_option maxHeartbeats 1000000 in
theorem paOrder (x y : Pn) (w : World) : Calls Try.prog 72 #[paV x, paV y] w (TellsI (ordN x.p y.p) w) := by
  go_enter Try.func72, Try.ntmps72
  go_wp2_with fail
  have x1 := Lib.hid (((Lies.new w (paC x) 82).al (o := .cells (paC y) 82)).drew)
  have y1 := Lib.hid ((Lies.new (w.alloc (.cells (paC x) 82)) (paC y) 82).drew)
  have B1 := Lib.hid (below_drewOf ((((Below.refl w.heap.size w).alloc (Nat.le_refl _) (.cells (paC x) 82)).alloc (by simp) (.cells (paC y) 82))))
  refine still_tail 19 (by kernel_rfl) (by kernel_rfl) ?_
  intro w1 hw1
  simp only [List.take_succ_cons, List.take_zero, List.drop_succ_cons, List.drop_zero]
  rw [hw1] at x1 y1 B1
  clear hw1
  have c0 := x1.out.cell (j := 0) rfl; have c1 := x1.out.cell (j := 1) rfl; have c2 := x1.out.cell (j := 2) rfl
  have d0 := y1.out.cell (j := 0) rfl; have d1 := y1.out.cell (j := 1) rfl; have d2 := y1.out.cell (j := 2) rfl
  simp only [World.size_alloc] at d0 d1 d2
  repeat still_step
  still_call (still_of (cmpI _ _ _))
  repeat still_step
  still_call (still_of (cmpI _ _ _))
  repeat still_step
  still_call (still_of (cmpS _ _ _))
  refine wpStill_nil ?_
  go_wp2_with fail
  refine (cmpOr _ _ _ w1.heap.size 0 3 _ ((Lies.new w1 _ _).cell (j := 0) rfl) ((Lies.new w1 _ _).cell (j := 1) rfl) ((Lies.new w1 _ _).cell (j := 2) rfl)).mono ?_
  rintro e w' ⟨rfl, rfl⟩
  go_wp2_with fail
  go_ret
  exact ⟨rfl, B1.out.alloc B1.out.size _⟩
namespace Pan
def clN (x : Pn) (m : Int) : Int := if x.p.hi ≤ m then -1 else 1
end Pan
/-- Hands back a truth; its argument was laid anew. -/
def TellsX (b : Bool) (x : Pn) (w : World) (e : Ending) (w' : World) : Prop := e = .returned (.bool b) ∧ w' = w.alloc (.cells (paC x) 82)
def TellsXY (b : Bool) (x y : Pn) (w : World) (e : Ending) (w' : World) : Prop := e = .returned (.bool b) ∧ w' = (w.alloc (.cells (paC x) 82)).alloc (.cells (paC y) 82)
namespace Pan
def okK (k : List UInt8) : Bool := decide (1 ≤ k.length ∧ k.length ≤ 16)
end Pan
theorem rkKey (k : List UInt8) (w : World) : Calls Try.prog 68 #[.string (kS k)] w (SaysB (okK k) w) := by
  have hsz := kS_size k
  by_cases h1 : (1 : Int) ≤ (kS k).size
  · by_cases h2 : ((kS k).size : Int) ≤ 16
    · have hc := Lib.hid (show okK k = true from decide_eq_true ⟨by omega, by omega⟩)
      clear hsz
      go_enter Try.func68, Try.ntmps68
      go_wp2_with fail
      go_ret
      exact ⟨by rw [hc.out]; rfl, rfl⟩
    · have hc := Lib.hid (show okK k = false from decide_eq_false fun h => by omega)
      clear hsz
      go_enter Try.func68, Try.ntmps68
      go_wp2_with fail
      go_ret
      exact ⟨by rw [hc.out]; rfl, rfl⟩
  · have hc := Lib.hid (show okK k = false from decide_eq_false fun h => by omega)
    clear hsz
    go_enter Try.func68, Try.ntmps68
    go_wp2_with fail
    go_ret
    exact ⟨by rw [hc.out]; rfl, rfl⟩
set_option maxHeartbeats 1000000 in
theorem paValid (x : Pn) (w : World) : Calls Try.prog 76 #[paV x] w (TellsX (may x) x w) := by
  have hsz := kS_size x.p.key
  by_cases h0 : (1 : Int) ≤ (kS x.p.key).size
  · by_cases h1 : ((kS x.p.key).size : Int) ≤ 16
    · by_cases h2 : 0 ≤ x.p.lo
      · by_cases h3 : x.p.lo < x.p.hi
        · by_cases h4 : x.p.hi ≤ 1099511627776
          · by_cases h5 : 1 ≤ x.acc.n
            · have hc := Lib.hid (show may x = true from decide_eq_true ⟨by omega, by omega, h2, h3, h4, h5⟩)
              clear hsz
              go_enter Try.func76, Try.ntmps76
              go_wp2_with fail
              go_ret
              exact ⟨by rw [hc.out]; rfl, rfl⟩
            · have hc := Lib.hid (show may x = false from decide_eq_false fun h => by omega)
              clear hsz
              go_enter Try.func76, Try.ntmps76
              go_wp2_with fail
              go_ret
              exact ⟨by rw [hc.out]; first | rfl | exact congrArg (fun b => Ending.returned (Value.bool b)) (decide_eq_false (show ¬ 1 ≤ x.acc.n by omega)), rfl⟩
          · have hc := Lib.hid (show may x = false from decide_eq_false fun h => by omega)
            clear hsz
            go_enter Try.func76, Try.ntmps76
            go_wp2_with fail
            go_ret
            exact ⟨by rw [hc.out]; rfl, rfl⟩
        · have hc := Lib.hid (show may x = false from decide_eq_false fun h => by omega)
          clear hsz
          go_enter Try.func76, Try.ntmps76
          go_wp2_with fail
          go_ret
          exact ⟨by rw [hc.out]; rfl, rfl⟩
      · have hc := Lib.hid (show may x = false from decide_eq_false fun h => by omega)
        clear hsz
        go_enter Try.func76, Try.ntmps76
        go_wp2_with fail
        go_ret
        exact ⟨by rw [hc.out]; rfl, rfl⟩
    · have hc := Lib.hid (show may x = false from decide_eq_false fun h => by omega)
      clear hsz
      go_enter Try.func76, Try.ntmps76
      go_wp2_with fail
      go_ret
      exact ⟨by rw [hc.out]; rfl, rfl⟩
  · have hc := Lib.hid (show may x = false from decide_eq_false fun h => by omega)
    clear hsz
    go_enter Try.func76, Try.ntmps76
    go_wp2_with fail
    go_ret
    exact ⟨by rw [hc.out]; rfl, rfl⟩
set_option maxHeartbeats 1000000 in
theorem rfMay (x : Pn) (w : World) : Calls Try.prog 79 #[paV x] w (TellsX (may x) x w) := by
  have hsz := kS_size x.p.key
  by_cases h0 : (1 : Int) ≤ (kS x.p.key).size
  · by_cases h1 : ((kS x.p.key).size : Int) ≤ 16
    · by_cases h2 : 0 ≤ x.p.lo
      · by_cases h3 : x.p.lo < x.p.hi
        · by_cases h4 : x.p.hi ≤ 1099511627776
          · by_cases h5 : 1 ≤ x.acc.n
            · have hc := Lib.hid (show may x = true from decide_eq_true ⟨by omega, by omega, h2, h3, h4, h5⟩)
              have hk := Lib.hid (show okK x.p.key = true from decide_eq_true ⟨by omega, by omega⟩)
              clear hsz
              go_enter Try.func79, Try.ntmps79
              go_wp2_with (go_at_call 68; refine (rkKey _ _).mono ?_; rw [hk.out]; rintro e w' ⟨rfl, rfl⟩)
              go_ret
              exact ⟨by rw [hc.out]; rfl, rfl⟩
            · have hc := Lib.hid (show may x = false from decide_eq_false fun h => by omega)
              have hk := Lib.hid (show okK x.p.key = true from decide_eq_true ⟨by omega, by omega⟩)
              clear hsz
              go_enter Try.func79, Try.ntmps79
              go_wp2_with (go_at_call 68; refine (rkKey _ _).mono ?_; rw [hk.out]; rintro e w' ⟨rfl, rfl⟩)
              go_ret
              exact ⟨by rw [hc.out]; first | rfl | exact congrArg (fun b => Ending.returned (Value.bool b)) (decide_eq_false (show ¬ 1 ≤ x.acc.n by omega)), rfl⟩
          · have hc := Lib.hid (show may x = false from decide_eq_false fun h => by omega)
            have hk := Lib.hid (show okK x.p.key = true from decide_eq_true ⟨by omega, by omega⟩)
            clear hsz
            go_enter Try.func79, Try.ntmps79
            go_wp2_with (go_at_call 68; refine (rkKey _ _).mono ?_; rw [hk.out]; rintro e w' ⟨rfl, rfl⟩)
            go_ret
            exact ⟨by rw [hc.out]; rfl, rfl⟩
        · have hc := Lib.hid (show may x = false from decide_eq_false fun h => by omega)
          have hk := Lib.hid (show okK x.p.key = true from decide_eq_true ⟨by omega, by omega⟩)
          clear hsz
          go_enter Try.func79, Try.ntmps79
          go_wp2_with (go_at_call 68; refine (rkKey _ _).mono ?_; rw [hk.out]; rintro e w' ⟨rfl, rfl⟩)
          go_ret
          exact ⟨by rw [hc.out]; rfl, rfl⟩
      · have hc := Lib.hid (show may x = false from decide_eq_false fun h => by omega)
        have hk := Lib.hid (show okK x.p.key = true from decide_eq_true ⟨by omega, by omega⟩)
        clear hsz
        go_enter Try.func79, Try.ntmps79
        go_wp2_with (go_at_call 68; refine (rkKey _ _).mono ?_; rw [hk.out]; rintro e w' ⟨rfl, rfl⟩)
        go_ret
        exact ⟨by rw [hc.out]; rfl, rfl⟩
    · have hc := Lib.hid (show may x = false from decide_eq_false fun h => by omega)
      have hk := Lib.hid (show okK x.p.key = false from decide_eq_false fun h => by omega)
      clear hsz
      go_enter Try.func79, Try.ntmps79
      go_wp2_with (go_at_call 68; refine (rkKey _ _).mono ?_; rw [hk.out]; rintro e w' ⟨rfl, rfl⟩)
      go_ret
      exact ⟨by rw [hc.out]; rfl, rfl⟩
  · have hc := Lib.hid (show may x = false from decide_eq_false fun h => by omega)
    have hk := Lib.hid (show okK x.p.key = false from decide_eq_false fun h => by omega)
    clear hsz
    go_enter Try.func79, Try.ntmps79
    go_wp2_with (go_at_call 68; refine (rkKey _ _).mono ?_; rw [hk.out]; rintro e w' ⟨rfl, rfl⟩)
    go_ret
    exact ⟨by rw [hc.out]; rfl, rfl⟩
theorem rfAhead (x y : Pn) (w : World) : Calls Try.prog 59 #[paV x, paV y] w (TellsXY (Pan.ahead x.p y.p) x y w) := by
  by_cases h1 : x.p.hi = y.p.hi
  · by_cases h2 : x.p.lo = y.p.lo
    · have hc := Lib.hid (show Pan.ahead x.p y.p = Op.bytesLess (kS x.p.key).toList (kS y.p.key).toList from by unfold Pan.ahead; rw [if_pos h1, if_pos h2, kS_list, kS_list])
      have e1 := nb0 h1
      have e2 := nb0 h2
      clear h1 h2
      go_enter Try.func59, Try.ntmps59
      go_wp2_with fail
      go_ret
      exact ⟨by rw [hc.out]; rfl, rfl⟩
    · have hc := Lib.hid (show Pan.ahead x.p y.p = decide (x.p.lo < y.p.lo) from by unfold Pan.ahead; rw [if_pos h1, if_neg h2])
      have e1 := nb0 h1
      have e2 := nb h2
      clear h1 h2
      go_enter Try.func59, Try.ntmps59
      go_wp2_with fail
      go_ret
      exact ⟨by rw [hc.out]; rfl, rfl⟩
  · have hc := Lib.hid (show Pan.ahead x.p y.p = decide (x.p.hi < y.p.hi) from by unfold Pan.ahead; rw [if_neg h1])
    have e1 := nb h1
    clear h1
    go_enter Try.func59, Try.ntmps59
    go_wp2_with fail
    go_ret
    exact ⟨by rw [hc.out]; rfl, rfl⟩
theorem pfields_win : Try.prog.underlying 48 = some (.struct (Try.prog.fieldsOf 48)) := by kernel_rfl
theorem pstood_win : Try.prog.stoodInHeld 48 = false := by kernel_rfl
theorem run_peqW (d : Nat) (lo hi lo' hi' : Int) (w : World) : (Op.equalIn (d + 2) 48 (.agg #[.int .i64 lo, .int .i64 hi]) (.agg #[.int .i64 lo', .int .i64 hi'])).run Try.prog w = .ok ((lo == lo') && (hi == hi')) w := by
  have h2 := Try.underlying2
  rw [run_equalIn_agg w _ _ _ _ pfields_win pstood_win]
  simp [Program.fieldsOf, Try.underlying48, Op.eqFields, part, isAgg, run_underlying h2, run_equalIn_int w d _ .i64 .i64 _ _ h2]
  by_cases g1 : lo = lo' <;> by_cases g2 : hi = hi' <;> simp [g1, g2]
theorem run_eqPW (lo hi lo' hi' : Int) (w : World) : (binOp .eql 48 (.agg #[.int .i64 lo, .int .i64 hi]) (.agg #[.int .i64 lo', .int .i64 hi'])).run Try.prog w = .ok (.bool ((lo == lo') && (hi == hi'))) w := by
  rw [run_eql_struct, show (10000 : Nat) = 9998 + 2 from rfl, run_peqW]; rfl
theorem rfSame (x y : Pn) (w : World) : Calls Try.prog 57 #[paV x, paV y] w (TellsXY (decide (x.p = y.p)) x y w) := by
  by_cases h1 : x.p.lo = y.p.lo ∧ x.p.hi = y.p.hi
  · have he : ∀ w, (binOp .eql 48 (.agg #[.int .i64 x.p.lo, .int .i64 x.p.hi]) (.agg #[.int .i64 y.p.lo, .int .i64 y.p.hi])).run Try.prog w = .ok (.bool true) w := fun w => by rw [run_eqPW, eq_b h1.1, eq_b h1.2]; rfl
    by_cases h2 : x.p.key = y.p.key
    · have hc := Lib.hid (show decide (x.p = y.p) = true from decide_eq_true (by cases hx : x.p; cases hy : y.p; simp_all))
      have hk : ((kS x.p.key).toList == (kS y.p.key).toList) = true := by rw [kS_list, kS_list, h2, beq_self_eq_true]
      clear h1 h2
      go_enter Try.func57, Try.ntmps57
      go_wp2_with fail
      go_ret
      exact ⟨by rw [hc.out]; rfl, rfl⟩
    · have hc := Lib.hid (show decide (x.p = y.p) = false from decide_eq_false (fun e => h2 (by rw [e])))
      have hk : ((kS x.p.key).toList == (kS y.p.key).toList) = false := by rw [kS_list, kS_list, beq_eq_false_iff_ne]; exact h2
      clear h1 h2
      go_enter Try.func57, Try.ntmps57
      go_wp2_with fail
      go_ret
      exact ⟨by rw [hc.out]; rfl, rfl⟩
  · have he : ∀ w, (binOp .eql 48 (.agg #[.int .i64 x.p.lo, .int .i64 x.p.hi]) (.agg #[.int .i64 y.p.lo, .int .i64 y.p.hi])).run Try.prog w = .ok (.bool false) w := fun w => by
      rw [run_eqPW]
      by_cases g1 : x.p.lo = y.p.lo
      · have g2 : x.p.hi ≠ y.p.hi := fun e => h1 ⟨g1, e⟩
        rw [ne_b g2, Bool.and_false]
      · rw [ne_b g1, Bool.false_and]
    have hc := Lib.hid (show decide (x.p = y.p) = false from decide_eq_false (fun e => h1 ⟨by rw [e], by rw [e]⟩))
    clear h1
    go_enter Try.func57, Try.ntmps57
    go_wp2_with fail
    go_ret
    exact ⟨by rw [hc.out]; rfl, rfl⟩
theorem rfFold (k : Int) (w : World) : Calls Try.prog 61 #[.int .i64 k] w fun e w' => e = .returned (.bool (Acm.isK k)) ∧ w = w' := by
  by_cases h1 : 1 ≤ k
  · by_cases h2 : k ≤ 5
    · have hc := Lib.hid (show Acm.isK k = true from decide_eq_true ⟨h1, h2⟩)
      go_enter Try.func61, Try.ntmps61
      go_wp2
      go_ret
      exact ⟨by rw [hc.out]; rfl, rfl⟩
    · have hc := Lib.hid (show Acm.isK k = false from decide_eq_false fun h => h2 h.2)
      go_enter Try.func61, Try.ntmps61
      go_wp2
      go_ret
      exact ⟨by rw [hc.out]; rfl, rfl⟩
  · have hc := Lib.hid (show Acm.isK k = false from decide_eq_false fun h => h1 h.1)
    go_enter Try.func61, Try.ntmps61
    go_wp2
    go_ret
    exact ⟨by rw [hc.out]; rfl, rfl⟩
end Go.Proofs.Ytipmphkmeiogoaa
