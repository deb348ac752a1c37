/- Timers in memory; the comparisons of package cmp; a queue's Less. -/
import Derived.Test.YtklgehfbfokdlaaTimMath
import Derived.Laws.StructEq
import Derived.Deep.RegionHeld3
import Derived.BigQuiet
import Derived.Laws.Cover1
import Derived.StillTail
import Derived.StillTailTactics
import Derived.LoopTactic
import Derived.Deep.Cut
import Derived.Test.YtklgehfbfokdlaaStill
import Derived.Test.YtklgehfbfokdlaaProg
namespace Go.Proofs.Ytklgehfbfokdlaa
open Go.RowKit
set_option linter.unusedVariables false
namespace Tim
def kS (l : List UInt8) : ByteArray := ⟨l.toArray⟩
theorem kS_size (l : List UInt8) : (kS l).size = l.length := by show l.toArray.size = _; simp
theorem kS_list (l : List UInt8) : (kS l).toList = l := by rw [ByteArray.toList_eq]; rfl
theorem kS_of (s : ByteArray) : kS s.toList = s := by rw [ByteArray.toList_eq]; rfl
/-- A timer's cells; a timer as a value. -/
def tL (x : Tm) : List Value := [.int .i64 x.at_, .string (kS x.name)]
abbrev tmC (x : Tm) : Array Value := #[.int .i64 x.at_, .string (kS x.name)]
abbrev tmV (x : Tm) : Value := .agg (tmC x)
/-- Timers as they lie in a slice. -/
def tc (d : List Tm) : List Value := d.flatMap tL
theorem flat_len {α : Type} (f : α → List Value) {n : Nat} (hf : ∀ x, (f x).length = n) (xs : List α) : (xs.flatMap f).length = xs.length * n := by
  induction xs with
  | nil => simp
  | cons x r ih => rw [List.flatMap_cons, List.length_append, ih, hf, List.length_cons, Nat.add_mul]; omega
theorem flat_get {α : Type} (f : α → List Value) {n : Nat} (hf : ∀ x, (f x).length = n) : ∀ {xs : List α} {i j : Nat} {x : α}, xs[i]? = some x → j < n → (xs.flatMap f)[i * n + j]? = (f x)[j]?
  | [], _, _, _, h, _ => by simp at h
  | y :: r, 0, j, x, h, hj => by
    simp only [List.getElem?_cons_zero, Option.some.injEq] at h
    subst h
    rw [List.flatMap_cons, Nat.zero_mul, Nat.zero_add, List.getElem?_append_left (by rw [hf]; exact hj)]
  | y :: r, i + 1, j, x, h, hj => by
    rw [List.getElem?_cons_succ] at h
    rw [List.flatMap_cons, List.getElem?_append_right (by rw [hf, Nat.add_mul]; omega), hf, show (i + 1) * n + j - n = i * n + j by rw [Nat.add_mul]; omega]
    exact flat_get f hf h hj
theorem tL_len (x : Tm) : (tL x).length = 2 := rfl
theorem tc_len (d : List Tm) : (tc d).length = d.length * 2 := flat_len tL tL_len d
theorem tc_app (d e : List Tm) : tc (d ++ e) = tc d ++ tc e := by simp [tc]
theorem tc_one (x : Tm) : tc [x] = tL x := by simp [tc]
theorem tc_nil : tc [] = [] := rfl
theorem tc_ones (d : List Tm) : ∀ u ∈ tc d, u.oneCell' = true := by
  intro u hu
  obtain ⟨p, _, hp⟩ := List.mem_flatMap.1 hu
  simp only [tL, List.mem_cons, List.not_mem_nil, or_false] at hp
  rcases hp with rfl | rfl <;> rfl
theorem tc_0 {d : List Tm} {i : Nat} {x : Tm} (h : d[i]? = some x) : (tc d)[i * 2]? = some (.int .i64 x.at_) := flat_get tL tL_len (j := 0) h (by omega)
theorem tc_1 {d : List Tm} {i : Nat} {x : Tm} (h : d[i]? = some x) : (tc d)[i * 2 + 1]? = some (.string (kS x.name)) := flat_get tL tL_len (j := 1) h (by omega)
theorem tc_take (d : List Tm) (n : Nat) : (tc d).take (n * 2) = tc (d.take n) := by
  induction d generalizing n with
  | nil => simp [tc]
  | cons x r ih =>
    cases n with
    | zero => simp [tc]
    | succ n =>
      have e : tc (x :: r) = .int .i64 x.at_ :: .string (kS x.name) :: tc r := by simp [tc, tL]
      rw [e, show (n + 1) * 2 = n * 2 + 1 + 1 by omega]
      simp only [List.take_succ_cons]
      rw [ih]
      simp [tc, tL]
theorem tc_set {d : List Tm} {i : Nat} (x : Tm) (h : i < d.length) : ((tc d).set (i * 2) (.int .i64 x.at_)).set (i * 2 + 1) (.string (kS x.name)) = tc (d.set i x) := by
  induction d generalizing i with
  | nil => simp at h
  | cons y r ih =>
    cases i with
    | zero => simp [tc, tL]
    | succ i =>
      have e : tc (y :: r) = .int .i64 y.at_ :: .string (kS y.name) :: tc r := by simp [tc, tL]
      have e2 : tc ((y :: r).set (i + 1) x) = .int .i64 y.at_ :: .string (kS y.name) :: tc (r.set i x) := by simp [tc, tL]
      rw [e, e2, show (i + 1) * 2 = i * 2 + 1 + 1 by omega]
      simp only [List.set_cons_succ]
      rw [ih (by simpa using h)]
/-- The cells of a timer. -/
structure TmAt (w : World) (b o : Nat) (x : Tm) : Prop where
  c0 : w.cell? ⟨b, o, none⟩ = some (.int .i64 x.at_)
  c1 : w.cell? ⟨b, o + 1, none⟩ = some (.string (kS x.name))
theorem row_at {w : World} {A : Option Addr} {d : List Tm} (h : Row w A (tc d)) {k : Nat} {x : Tm} (hk : d[k]? = some x) : ∃ b off, A = some ⟨b, off, none⟩ ∧ TmAt w b (off + k * 2) x := by
  rcases h with h | ⟨b, off, rfl, h⟩
  · have := tc_0 hk
    rw [h] at this; simp at this
  · exact ⟨b, off, rfl, h _ _ (tc_0 hk), by rw [Nat.add_assoc]; exact h _ _ (tc_1 hk)⟩
theorem cell_below {a b : World} {p : Addr} {u : Value} (h : a.cell? p = some u) (hb : Below a.heap.size a b) : b.cell? p = some u := (hb.cell (lt_of_cell h)).trans h
/-- Hands back a truth; nothing is touched. -/
def SaysB (b : Bool) (w : World) (e : Ending) (w' : World) : Prop := e = .returned (.bool b) ∧ w = w'
def SaysI (n : Int) (w : World) (e : Ending) (w' : World) : Prop := e = .returned (.int .i64 n) ∧ w = w'
/-- Hands back a truth, a number; what was stays. -/
def TellsB (b : Bool) (w : World) (e : Ending) (w' : World) : Prop := e = .returned (.bool b) ∧ Below w.heap.size w w'
def TellsI (n : Int) (w : World) (e : Ending) (w' : World) : Prop := e = .returned (.int .i64 n) ∧ Below w.heap.size w w'
def cmI (a b : Int) : Int := if a < b then -1 else if b < a then 1 else 0
def cmK (a b : List UInt8) : Int := if less a b then -1 else if less b a then 1 else 0
def or2 (x y : Int) : Int := if x ≠ 0 then x else y
theorem or2_lt (a b : Tm) : decide (or2 (cmI a.at_ b.at_) (cmK a.name b.name) < 0) = ahead a b := by
  rw [Bool.eq_iff_iff, decide_eq_true_eq, ahead_iff]
  unfold or2 cmI cmK
  by_cases h1 : a.at_ < b.at_
  · simp [h1]
  · by_cases h2 : b.at_ < a.at_
    · simp [h1, h2]; omega
    · have e : a.at_ = b.at_ := by omega
      simp [e]
      cases h5 : less a.name b.name <;> cases h6 : less b.name a.name <;> simp
theorem nanI (a : Int) (w : World) : Calls Try.prog 54 #[.int .i64 a] w (SaysB false w) := by
  go_enter Try.func54, Try.ntmps54
  go_wp2_with fail
  go_ret
  exact ⟨by simp, rfl⟩
theorem nanS (a : ByteArray) (w : World) : Calls Try.prog 55 #[.string a] w (SaysB false w) := by
  go_enter Try.func55, Try.ntmps55
  go_wp2_with fail
  go_ret
  exact ⟨by simp, rfl⟩
theorem cmpI (a b : Int) (w : World) : Calls Try.prog 52 #[.int .i64 a, .int .i64 b] w (SaysI (cmI a b) w) := by
  by_cases h1 : a < b
  · have hc := Lib.hid (show cmI a b = -1 from if_pos h1)
    go_enter Try.func52, Try.ntmps52
    go_wp2_with (go_at_call 54; refine (nanI _ _).mono ?_; rintro e w' ⟨rfl, rfl⟩)
    go_ret
    exact ⟨by rw [hc.out]; rfl, rfl⟩
  · by_cases h2 : b < a
    · have hc := Lib.hid (show cmI a b = 1 from by unfold cmI; rw [if_neg h1, if_pos h2])
      go_enter Try.func52, Try.ntmps52
      go_wp2_with (go_at_call 54; refine (nanI _ _).mono ?_; rintro e w' ⟨rfl, rfl⟩)
      go_ret
      exact ⟨by rw [hc.out]; rfl, rfl⟩
    · have hc := Lib.hid (show cmI a b = 0 from by unfold cmI; rw [if_neg h1, if_neg h2])
      go_enter Try.func52, Try.ntmps52
      go_wp2_with (go_at_call 54; refine (nanI _ _).mono ?_; rintro e w' ⟨rfl, rfl⟩)
      go_ret
      exact ⟨by rw [hc.out]; rfl, rfl⟩
theorem cmpS (a b : List UInt8) (w : World) : Calls Try.prog 53 #[.string (kS a), .string (kS b)] w (SaysI (cmK a b) w) := by
  by_cases h1 : less a b = true
  · have hc := Lib.hid (show cmK a b = -1 from if_pos h1)
    have h3 : Op.bytesLess (kS a).toList (kS b).toList = true := by rw [kS_list, kS_list]; exact h1
    clear h1
    go_enter Try.func53, Try.ntmps53
    go_wp2_with (go_at_call 55; refine (nanS _ _).mono ?_; rintro e w' ⟨rfl, rfl⟩)
    go_ret
    exact ⟨by rw [hc.out]; rfl, rfl⟩
  · have h1' : less a b = false := by simpa using h1
    have h3 : Op.bytesLess (kS a).toList (kS b).toList = false := by rw [kS_list, kS_list]; exact h1'
    by_cases h2 : less b a = true
    · have hc := Lib.hid (show cmK a b = 1 from by unfold cmK; rw [if_neg h1, if_pos h2])
      have h4 : ((kS a).toList == (kS b).toList) = false := by
        rw [kS_list, kS_list, beq_eq_false_iff_ne]
        rintro rfl
        rw [h1'] at h2; cases h2
      clear h1 h1' h2
      go_enter Try.func53, Try.ntmps53
      go_wp2_with (go_at_call 55; refine (nanS _ _).mono ?_; rintro e w' ⟨rfl, rfl⟩)
      go_ret
      exact ⟨by rw [hc.out]; rfl, rfl⟩
    · have h2' : less b a = false := by simpa using h2
      have hc := Lib.hid (show cmK a b = 0 from by unfold cmK; rw [if_neg h1, if_neg h2])
      have h4 : ((kS a).toList == (kS b).toList) = true := by
        rw [kS_list, kS_list, beq_iff_eq]
        rcases less_total a b with h | h | h
        · rw [h1'] at h; cases h
        · exact h
        · rw [h2'] at h; cases h
      clear h1 h1' h2 h2'
      go_enter Try.func53, Try.ntmps53
      go_wp2_with (go_at_call 55; refine (nanS _ _).mono ?_; rintro e w' ⟨rfl, rfl⟩)
      go_ret
      exact ⟨by rw [hc.out]; rfl, rfl⟩
/-- Where a loop over two stands. -/
def OrAt (x y : Int) (w : World) (v : Value) (wr : World) : Prop := ∃ k : Nat, v = .int .i64 k ∧ wr = w ∧ (k = 0 ∨ (k = 1 ∧ x = 0) ∨ (k = 2 ∧ x = 0 ∧ y = 0))
theorem cmpOr (x y : Int) (b off c : Nat) (w : World) (c0 : w.cell? ⟨b, off, none⟩ = some (.int .i64 x)) (c1 : w.cell? ⟨b, off + 1, none⟩ = some (.int .i64 y)) :
    Calls Try.prog 51 #[.slice (some ⟨b, off, none⟩) 2 c] w (SaysI (or2 x y) w) := by
  go_enter Try.func51, Try.ntmps51
  go_wp2_with fail
  go_loopw [8] (fun i wr => OrAt x y w i wr) (fun i _ => 2 - (intOf i).toNat)
  case atStart => exact ⟨0, rfl, rfl, .inl rfl⟩
  case round =>
    obtain ⟨k, rfl, rfl, h⟩ := hrel
    rcases h with rfl | ⟨rfl, rfl⟩ | ⟨rfl, rfl, rfl⟩
    · by_cases h : x = 0
      · subst h
        go_wp2_with fail
        go_roundw
        case rel => exact ⟨1, rfl, rfl, .inr (.inl ⟨rfl, rfl⟩)⟩
        case measure => simp [intOf]
      · have hb := nb h
        have hc := Lib.hid (show or2 x y = x from if_pos h)
        clear h
        go_wp2_with fail
        go_ret
        exact ⟨by rw [hc.out]; rfl, rfl⟩
    · by_cases h : y = 0
      · subst h
        go_wp2_with fail
        go_roundw
        case rel => exact ⟨2, rfl, rfl, .inr (.inr ⟨rfl, rfl, rfl⟩)⟩
        case measure => simp [intOf]
      · have hb := nb h
        have hc := Lib.hid (show or2 0 y = y from by unfold or2; rw [if_neg (by simp)])
        clear h
        go_wp2_with fail
        go_ret
        exact ⟨by rw [hc.out]; rfl, rfl⟩
    · go_wp2_with fail
      go_ret
      exact ⟨rfl, rfl⟩
set_option maxHeartbeats 2000000 in
theorem qLess (d : List Tm) (A : Option Addr) (c i j : Nat) (x y : Tm) (w : World) (hr : Row w A (tc d)) (hi : d[i]? = some x) (hj : d[j]? = some y) (hl : d.length ≤ maxLen) :
    Calls Try.prog 49 #[.slice A d.length c, .int .i64 i, .int .i64 j] w (TellsB (ahead x y) w) := by
  obtain ⟨b, off, rfl, hx⟩ := row_at hr hi
  obtain ⟨b', off', e, hy⟩ := row_at hr hj
  cases e
  have hin := (List.getElem?_eq_some_iff.1 hi).1
  have hjn := (List.getElem?_eq_some_iff.1 hj).1
  obtain ⟨n, en⟩ : ∃ n, n = d.length := ⟨_, rfl⟩
  rw [← en] at hin hjn hl ⊢
  clear hi hj hr en
  have HX := Lib.hid hx
  have HY := Lib.hid hy
  clear hx hy
  have B1 := Lib.hid (below_drewOf (Below.refl w.heap.size w))
  have hz := Lib.hid (or2_lt x y)
  unfold maxLen at hl
  go_enter Try.func49, Try.ntmps49
  go_wp2_with fail
  refine still_tail 22 (by kernel_rfl) (by kernel_rfl) ?_
  intro w1 hw1
  simp only [List.take_succ_cons, List.take_zero, List.drop_succ_cons, List.drop_zero]
  have HX1 : Hid (TmAt w1 b (off + i * 2) x) := Lib.hid (by rw [← hw1]; exact ⟨HX.out.c0, HX.out.c1⟩)
  have HY1 : Hid (TmAt w1 b (off + j * 2) y) := Lib.hid (by rw [← hw1]; exact ⟨HY.out.c0, HY.out.c1⟩)
  rw [hw1] at B1
  clear hw1
  have c0 := HX1.out.c0; have c1 := HX1.out.c1
  have d0 := HY1.out.c0; have d1 := HY1.out.c1
  repeat still_step
  still_call (still_of (cmpI _ _ _))
  repeat still_step
  still_call (still_of (cmpS _ _ _))
  refine wpStill_nil ?_
  go_wp2_with fail
  refine (cmpOr _ _ w1.heap.size 0 2 _ ((Lies.new w1 _ _).cell (j := 0) rfl) ((Lies.new w1 _ _).cell (j := 1) rfl)).mono ?_
  rintro e w' ⟨rfl, rfl⟩
  go_wp2_with fail
  go_ret
  refine ⟨?_, below_al B1.out⟩
  rw [← hz.out]
  rfl
end Tim
end Go.Proofs.Ytklgehfbfokdlaa
