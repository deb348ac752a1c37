/- WinFactsB, LoopMath, LoopFn, LoopPass, put together. -/
import Derived.Test.YtipmphkmeiogoaaZ18
import Derived.Test.YtipmphkmeiogoaaProg
import Derived.Test.YtipmphkmeiogoaaZ2
import Derived.Test.YtipmphkmeiogoaaZ7
import Derived.BigQuiet
import Derived.RegionTactic
import Derived.BigRegion
import Derived.LoopTactic
import Derived.Lib.MinMax
/- What holds of the windows of two times, and of those that are open. -/
namespace Go.Proofs.Ytipmphkmeiogoaa
open Tick
set_option linter.unusedVariables false
namespace Win
variable {s d t : Int}
theorem good_mv (h : ok s d = true) (h1 : s ≤ t) (h2 : t < 1099511627776 - s - d) : good s d t = true ∧ good s d (t + d) = true := by
  have := ok_iff.1 h
  constructor <;> (rw [good_iff]; omega)
theorem cnt_mv (h : ok s d = true) (h1 : s ≤ t) : cnt s d (t + d) = cnt s d t := by
  obtain ⟨o1, o2, o3, o4⟩ := ok_iff.1 h
  have e1 : (t + d) / d = t / d + 1 := by
    have := Int.add_mul_ediv_right t 1 (show d ≠ 0 by omega)
    rwa [Int.one_mul] at this
  have e2 : (t + d) % d = t % d := Int.add_emod_right t d
  have hr := floor_lo (show 0 ≤ t by omega) o1
  have hx : 0 ≤ (s - 1 - t % d) / d := Int.ediv_nonneg (by omega) (by omega)
  have hm : (s - 1 - t % d) / d ≤ t / d := Int.ediv_le_ediv (by omega) (by omega)
  unfold cnt
  rw [e1, e2]
  omega
theorem lo_mv (h : ok s d = true) (h1 : s ≤ t) (i : Nat) : lo s d (t + d) i = lo s d t i + d := by
  obtain ⟨o1, o2, o3, o4⟩ := ok_iff.1 h
  have e1 : (t + d) / d = t / d + 1 := by
    have := Int.add_mul_ediv_right t 1 (show d ≠ 0 by omega)
    rwa [Int.one_mul] at this
  unfold lo
  rw [cnt_mv h h1, e1, show t / d + 1 - ((cnt s d t - 1 - i : Nat) : Int) = (t / d - ((cnt s d t - 1 - i : Nat) : Int)) + 1 by omega, Int.add_mul, Int.one_mul]
/-- The windows of a time a slide later. -/
theorem of_mv (h : ok s d = true) (h1 : s ≤ t) (h2 : t < 1099511627776 - s - d) {i : Nat} (hi : i < cnt s d t) :
    ∃ a b, (of s d t)[i]? = some (a, b) ∧ (of s d (t + d))[i]? = some (a + d, b + d) ∧ 0 ≤ a ∧ a ≤ 1099511627776 ∧ 0 ≤ b ∧ b ≤ 1099511627776 := by
  obtain ⟨o1, o2, o3, o4⟩ := ok_iff.1 h
  obtain ⟨g1, g2⟩ := good_mv h h1 h2
  obtain ⟨l0, l1, l2, l3⟩ := lo_bd g1 hi
  refine ⟨_, _, of_at g1 hi, ?_, l0, by omega, ?_, ?_⟩
  · rw [of_at g2 (by rw [cnt_mv h h1]; exact hi), lo_mv h h1]
    have e1 : hiOf s (lo s d t i + d) = lo s d t i + d + s := by unfold hiOf; rw [if_pos (by omega)]
    have e2 : hiOf s (lo s d t i) = lo s d t i + s := by unfold hiOf; rw [if_pos (by omega)]
    rw [e1, e2]
    congr 2
    omega
  · unfold hiOf; split <;> omega
  · unfold hiOf; split <;> omega
/-- A window that holds t holds each u that lies in it: and is among the windows of u. -/
theorem once {u : Int} (h : good s d t = true) {i : Nat} (hi : i < cnt s d t) (hu0 : lo s d t i ≤ u) (hu1 : u < hiOf s (lo s d t i)) :
    ∃ p : Nat, (of s d u)[p]? = some (lo s d t i, hiOf s (lo s d t i)) := by
  obtain ⟨⟨o1, o2, o3, o4⟩, g1, g2⟩ := good_iff.1 h
  obtain ⟨l0, l1, l2, l3⟩ := lo_bd h hi
  obtain ⟨q1, q2, q3⟩ := hi_bd l2 g2
  have hgu : good s d u = true := good_iff.2 ⟨⟨o1, o2, o3, o4⟩, by omega, by omega⟩
  have hle : hiOf s (lo s d t i) ≤ lo s d t i + s := by unfold hiOf; split <;> omega
  have e0 : lo s d t i = (t / d - ((cnt s d t - 1 - i : Nat) : Int)) * d := rfl
  obtain ⟨kk, hkk⟩ : ∃ kk, kk = t / d - ((cnt s d t - 1 - i : Nat) : Int) := ⟨_, rfl⟩
  rw [← hkk] at e0
  have hk0 : 0 ≤ kk := by
    rcases Int.lt_or_le kk 0 with h6 | h6
    · have := Int.mul_neg_of_neg_of_pos h6 (show 0 < d by omega); omega
    · exact h6
  have hku : kk ≤ u / d := by rw [Int.le_ediv_iff_mul_le (by omega)]; omega
  have ha := at_ (s := s) (d := d) (t := u) hk0 hku
  have hj : (u / d - kk).toNat < cnt s d u := (cnt_lt o1 o2 (by omega) _).2 (by rw [ha, ← e0]; omega)
  refine ⟨_, (of_get hgu hj).trans ?_⟩
  unfold win
  rw [ha, ← e0]
theorem while_lt {α : Type} (p : α → Bool) : ∀ l : List α, (∀ (i j : Nat) a b, i < j → l[i]? = some a → l[j]? = some b → p b = true → p a = true) → ∀ (j : Nat) x, l[j]? = some x → (j < (l.takeWhile p).length ↔ p x = true)
  | [], _, j, x, hx => by simp at hx
  | a :: r, h, j, x, hx => by
    have ih := while_lt p r fun i j x y hij hx hy => h (i + 1) (j + 1) x y (by omega) (by simpa using hx) (by simpa using hy)
    by_cases ha : p a = true
    · rw [List.takeWhile_cons_of_pos ha]
      cases j with
      | zero => simp at hx; subst hx; simp [ha]
      | succ j => have := ih j x (by simpa using hx); simp only [List.length_cons]; rw [← this]; omega
    · rw [List.takeWhile_cons_of_neg ha]
      cases j with
      | zero => simp at hx; subst hx; simp [ha]
      | succ j =>
        constructor
        · intro h1; simp at h1
        · intro h1; exact absurd (h 0 (j + 1) a x (by omega) (by simp) hx h1) ha
/-- Windows from the last one on end ever earlier. -/
theorem desc_anti (s d t m : Int) : ∀ (i j : Nat) a b, i < j → (desc s d t)[i]? = some a → (desc s d t)[j]? = some b → (fun p : Int × Int => decide (m < p.2)) b = true → (fun p : Int × Int => decide (m < p.2)) a = true := by
  intro i j a b hij ha hb hp
  by_cases hg : good s d t = true
  · obtain ⟨⟨o1, o2, o3, o4⟩, g1, g2⟩ := good_iff.1 hg
    rw [desc_good hg, List.getElem?_map] at ha hb
    obtain ⟨i', hi, rfl⟩ := Option.map_eq_some_iff.1 ha
    obtain ⟨j', hj, rfl⟩ := Option.map_eq_some_iff.1 hb
    obtain ⟨_, ei⟩ := List.getElem?_eq_some_iff.1 hi
    obtain ⟨_, ej⟩ := List.getElem?_eq_some_iff.1 hj
    have ei' : i' = i := by simpa using ei.symm
    have ej' : j' = j := by simpa using ej.symm
    subst ei' ej'
    have hm : (i' : Int) * d ≤ (j' : Int) * d := Int.mul_le_mul_of_nonneg_right (by omega) (by omega)
    have := hi_mono (s := s) (show top d t - (j' : Int) * d ≤ top d t - (i' : Int) * d by omega)
    have hp' : m < (win s d t j').2 := of_decide_eq_true hp
    exact decide_eq_true (by unfold win at hp' ⊢; simp only at hp' ⊢; omega)
  · rw [desc_not (by simpa using hg)] at ha
    simp at ha
theorem open_le_of (s d t m : Int) : (open_ s d t m).length ≤ (of s d t).length := by rw [open_eq]; exact List.length_filter_le _ _
/-- Those that are open are the last ones. -/
theorem open_drop (s d t m : Int) : open_ s d t m = (of s d t).drop ((of s d t).length - (open_ s d t m).length) := by
  have h0 := List.takeWhile_prefix (fun p : Int × Int => decide (m < p.2)) (l := desc s d t)
  have e := List.prefix_iff_eq_take.1 h0
  have hl := open_le_of s d t m
  unfold open_ of at hl ⊢
  rw [List.length_reverse, List.length_reverse] at hl ⊢
  rw [List.drop_reverse, show (desc s d t).length - ((desc s d t).length - (List.takeWhile (fun p => decide (m < p.2)) (desc s d t)).length) = (List.takeWhile (fun p => decide (m < p.2)) (desc s d t)).length by omega, ← e]
theorem open_iff {m : Int} {i : Nat} {x : Int × Int} (hx : (of s d t)[i]? = some x) : (of s d t).length - (open_ s d t m).length ≤ i ↔ m < x.2 := by
  have hi := (List.getElem?_eq_some_iff.1 hx).1
  have hl := open_le_of s d t m
  rw [of, List.length_reverse] at hi
  rw [of, List.getElem?_reverse hi] at hx
  have h := while_lt (fun p : Int × Int => decide (m < p.2)) (desc s d t) (desc_anti s d t m) _ x hx
  unfold open_ of at hl ⊢
  rw [List.length_reverse, List.length_reverse] at hl ⊢
  have e : m < x.2 ↔ (fun p : Int × Int => decide (m < p.2)) x = true := by simp
  rw [e, ← h]
  omega
/-- At a mark that is not above the time all are open. -/
theorem open_all {m : Int} (hm : m ≤ t) : (open_ s d t m).length = (of s d t).length := by
  by_cases hg : good s d t = true
  · obtain ⟨⟨o1, o2, o3, o4⟩, g1, g2⟩ := good_iff.1 hg
    rw [open_eq]
    congr 1
    rw [List.filter_eq_self]
    intro x hx
    obtain ⟨i, hi, rfl⟩ := List.getElem_of_mem hx
    have hi' : i < cnt s d t := by rw [← of_len hg]; exact hi
    have h := of_at hg hi'
    rw [List.getElem?_eq_getElem hi] at h
    obtain ⟨l0, l1, l2, l3⟩ := lo_bd hg hi'
    obtain ⟨q1, _, _⟩ := hi_bd l2 g2
    have e : (of s d t)[i] = (lo s d t i, hiOf s (lo s d t i)) := by simpa using h
    rw [e]
    simp only [decide_eq_true_eq]
    omega
  · have e := of_not (s := s) (d := d) (t := t) (by simpa using hg)
    rw [open_eq, e]; rfl
theorem of_hi {i : Nat} {x : Int × Int} (hx : (of s d t)[i]? = some x) : t < x.2 := by
  by_cases hg : good s d t = true
  · obtain ⟨⟨o1, o2, o3, o4⟩, g1, g2⟩ := good_iff.1 hg
    have hi' : i < cnt s d t := by rw [← of_len hg]; exact (List.getElem?_eq_some_iff.1 hx).1
    have h := of_at hg hi'
    rw [hx] at h
    obtain ⟨l0, l1, l2, l3⟩ := lo_bd hg hi'
    obtain ⟨q1, _, _⟩ := hi_bd l2 g2
    cases h
    exact q1
  · have e := of_not (s := s) (d := d) (t := t) (by simpa using hg)
    rw [e] at hx; simp at hx
end Win
end Go.Proofs.Ytipmphkmeiogoaa
/- Events that go round, as plain data: what leaves, after how many rounds; a line of them in an array that they go round in. -/
namespace Go.Proofs.Ytipmphkmeiogoaa
set_option linter.unusedVariables false
namespace Lp
/-- An event; an event and how often it has gone round. -/
structure Ev where
  key : ByteArray
  at_ : Int
  val : Int
deriving DecidableEq
structure Tr where
  ev : Ev
  n : Nat
deriving DecidableEq
instance : Inhabited Ev := ⟨⟨ByteArray.empty, 0, 0⟩⟩
instance : Inhabited Tr := ⟨⟨default, 0⟩⟩
abbrev zEv : Ev := ⟨⟨#[]⟩, 0, 0⟩
abbrev zTr : Tr := ⟨zEv, 0⟩
def half (v : Int) : Int := v.tdiv 2
/-- Does it leave? L: the limit, 0 or more; F: the fuel, within its bounds. -/
def leaves (L : Int) (F : Nat) (t : Tr) : Bool := decide ((t.ev.val.natAbs : Int) ≤ L ∨ F ≤ t.n)
def next (t : Tr) : Tr := ⟨{ t.ev with val := half t.ev.val }, t.n + 1⟩
/-- A value that goes round k times at most; and how often it did. -/
def rv (L : Int) : Nat → Int → Int × Nat
  | 0, v => (v, 0)
  | k + 1, v => if (v.natAbs : Int) ≤ L then (v, 0) else ((rv L k (half v)).1, (rv L k (half v)).2 + 1)
/-- What an event leaves as, that has gone round n times. -/
def fin (L : Int) (F : Nat) (t : Tr) : Tr := ⟨{ t.ev with val := (rv L (F - t.n) t.ev.val).1 }, t.n + (rv L (F - t.n) t.ev.val).2⟩
def limOf (l : Int) : Int := max l 0
def fuelOf (f : Int) : Nat := (min (max f 0) 40).toNat
def inI (v : Int) : Prop := -9223372036854775808 ≤ v ∧ v ≤ 9223372036854775807
theorem half_abs (v : Int) : (half v).natAbs = v.natAbs / 2 := by unfold half; rw [Int.natAbs_tdiv]; rfl
theorem half_in {v : Int} (h : inI v) : inI (half v) := by have := half_abs v; unfold inI at *; omega
theorem fuelOf_le (f : Int) : fuelOf f ≤ 40 := by unfold fuelOf; omega
theorem limOf_in {l : Int} (h : inI l) : 0 ≤ limOf l ∧ limOf l ≤ 9223372036854775807 := by unfold inI limOf at *; omega
theorem rv_le (L : Int) : ∀ (k : Nat) (v : Int), (rv L k v).2 ≤ k
  | 0, v => Nat.le_refl _
  | k + 1, v => by
    unfold rv
    split
    · exact Nat.zero_le _
    · exact Nat.succ_le_succ (rv_le L k (half v))
theorem rv_stop {L : Int} {k : Nat} {v : Int} (h : (v.natAbs : Int) ≤ L ∨ k = 0) : rv L k v = (v, 0) := by
  cases k with
  | zero => rfl
  | succ k => unfold rv; rw [if_pos (h.resolve_right (by omega))]
theorem rv_go {L : Int} {k : Nat} {v : Int} (h : ¬ (v.natAbs : Int) ≤ L) : rv L (k + 1) v = ((rv L k (half v)).1, (rv L k (half v)).2 + 1) := by
  rw [rv, if_neg h]
theorem fin_stop {L : Int} {F : Nat} {t : Tr} (h : leaves L F t = true) : fin L F t = t := by
  have h' : (t.ev.val.natAbs : Int) ≤ L ∨ F ≤ t.n := by simpa [leaves] using h
  unfold fin
  rw [rv_stop (h'.imp id fun h => by omega)]
  rfl
theorem fin_go {L : Int} {F : Nat} {t : Tr} (h : leaves L F t = false) : fin L F (next t) = fin L F t := by
  have h' : ¬ ((t.ev.val.natAbs : Int) ≤ L ∨ F ≤ t.n) := by simpa [leaves] using h
  have h1 : ¬ (t.ev.val.natAbs : Int) ≤ L := fun e => h' (.inl e)
  have h2 : F - t.n = (F - (t.n + 1)) + 1 := by have := fun e => h' (.inr e); omega
  have e := rv_go (k := F - (t.n + 1)) h1
  rw [← h2] at e
  unfold fin
  rw [e]
  simp only [next, Tr.mk.injEq, true_and]
  omega
theorem leaves_lt {L : Int} {F : Nat} {t : Tr} (h : leaves L F t = false) : t.n < F := by
  have h' : ¬ ((t.ev.val.natAbs : Int) ≤ L ∨ F ≤ t.n) := by simpa [leaves] using h
  omega
/-- How many steps it takes with a row of events, until there is none. -/
def left (L : Int) (F : Nat) (t : Tr) : Nat := (rv L (F - t.n) t.ev.val).2 + 1
def lefts (L : Int) (F : Nat) (l : List Tr) : Nat := (l.map (left L F)).sum
theorem left_le (L : Int) (F : Nat) (t : Tr) : left L F t ≤ F + 1 := by have := rv_le L (F - t.n) t.ev.val; unfold left; omega
theorem left_pos (L : Int) (F : Nat) (t : Tr) : 1 ≤ left L F t := by unfold left; omega
theorem left_stop {L : Int} {F : Nat} {t : Tr} (h : leaves L F t = true) : left L F t = 1 := by
  have h' : (t.ev.val.natAbs : Int) ≤ L ∨ F ≤ t.n := by simpa [leaves] using h
  unfold left
  rw [rv_stop (h'.imp id fun h => by omega)]
theorem left_go {L : Int} {F : Nat} {t : Tr} (h : leaves L F t = false) : left L F t = left L F (next t) + 1 := by
  have h' : ¬ ((t.ev.val.natAbs : Int) ≤ L ∨ F ≤ t.n) := by simpa [leaves] using h
  have h1 : ¬ (t.ev.val.natAbs : Int) ≤ L := fun e => h' (.inl e)
  have h2 : F - t.n = (F - (t.n + 1)) + 1 := by have := fun e => h' (.inr e); omega
  have e := rv_go (k := F - (t.n + 1)) h1
  rw [← h2] at e
  unfold left
  rw [e]
  rfl
theorem lefts_cons (L : Int) (F : Nat) (t : Tr) (l : List Tr) : lefts L F (t :: l) = left L F t + lefts L F l := by simp [lefts]
theorem lefts_push (L : Int) (F : Nat) (t : Tr) (l : List Tr) : lefts L F (l ++ [t]) = lefts L F l + left L F t := by simp [lefts]
theorem lefts_le (L : Int) (F : Nat) : ∀ l : List Tr, lefts L F l ≤ l.length * (F + 1)
  | [] => by simp [lefts]
  | t :: l => by rw [lefts_cons, List.length_cons, Nat.add_mul]; have := left_le L F t; have := lefts_le L F l; omega
theorem lefts_ge (L : Int) (F : Nat) : ∀ l : List Tr, l.length ≤ lefts L F l
  | [] => by simp [lefts]
  | t :: l => by rw [lefts_cons, List.length_cons]; have := left_pos L F t; have := lefts_ge L F l; omega
theorem lefts_nil {L : Int} {F : Nat} {l : List Tr} (h : lefts L F l = 0) : l = [] := List.eq_nil_of_length_eq_zero (by have := lefts_ge L F l; omega)
/-- One step of a row of events: the row then, what left. -/
def step (L : Int) (F : Nat) : List Tr → List Tr × Option Tr
  | [] => ([], none)
  | t :: r => if leaves L F t then (r, some t) else (r ++ [next t], none)
theorem step_nil (L : Int) (F : Nat) : step L F [] = ([], none) := rfl
theorem step_out {L : Int} {F : Nat} {t : Tr} (h : leaves L F t = true) (r : List Tr) : step L F (t :: r) = (r, some t) := by simp [step, h]
theorem step_on {L : Int} {F : Nat} {t : Tr} (h : leaves L F t = false) (r : List Tr) : step L F (t :: r) = (r ++ [next t], none) := by simp [step, h]
/-- A line in an array of 16 places: from the place f on n of them lie, and go round. -/
structure Ring (ps : List Tr) (f n : Nat) (l : List Tr) : Prop where
  size : ps.length = 16
  first : f < 16
  few : n ≤ 16
  len : l.length = n
  get : ∀ i, i < n → ps[(f + i) % 16]? = l[i]?
theorem Ring.start : Ring (List.replicate 16 zTr) 0 0 [] := ⟨by simp, by omega, by omega, rfl, fun i h => by omega⟩
theorem Ring.put {ps : List Tr} {f n : Nat} {l : List Tr} (h : Ring ps f n l) (t : Tr) (hn : n < 16) : Ring (ps.set ((f + n) % 16) t) f (n + 1) (l ++ [t]) := by
  refine ⟨by rw [List.length_set]; exact h.size, h.first, hn, by rw [List.length_append, h.len]; rfl, fun i hi => ?_⟩
  have hs := h.size
  have hl := h.len
  rcases Nat.lt_succ_iff_lt_or_eq.1 hi with h1 | rfl
  · rw [List.getElem?_set_ne (by have := h.first; omega), h.get i h1, List.getElem?_append_left (by omega)]
  · rw [List.getElem?_set_self (by rw [hs]; exact Nat.mod_lt _ (by omega)), List.getElem?_append_right (by omega), hl, Nat.sub_self]
    rfl
theorem Ring.head {ps : List Tr} {f n : Nat} {t : Tr} {r : List Tr} (h : Ring ps f n (t :: r)) : ps[f]? = some t ∧ 0 < n := by
  have hl := h.len
  have hn : 0 < n := by rw [← hl, List.length_cons]; omega
  have h1 := h.get 0 hn
  rw [Nat.add_zero, Nat.mod_eq_of_lt h.first] at h1
  exact ⟨by rw [h1]; rfl, hn⟩
theorem Ring.take {ps : List Tr} {f n : Nat} {t : Tr} {r : List Tr} (h : Ring ps f n (t :: r)) (z : Tr) : Ring (ps.set f z) ((f + 1) % 16) (n - 1) r := by
  have hl := h.len
  rw [List.length_cons] at hl
  have hf := h.first
  have hw := h.few
  refine ⟨by rw [List.length_set]; exact h.size, Nat.mod_lt _ (by omega), by omega, by omega, fun i hi => ?_⟩
  have h1 := h.get (i + 1) (by omega)
  rw [List.getElem?_cons_succ] at h1
  rw [← h1, show ((f + 1) % 16 + i) % 16 = (f + (i + 1)) % 16 by omega, List.getElem?_set_ne (by omega)]
end Lp
end Go.Proofs.Ytipmphkmeiogoaa
/- Events in memory; the small functions of the code: amount, Half, ruleOf, leaves, pass. -/
namespace Go.Proofs.Ytipmphkmeiogoaa
open Go.RowKit
set_option linter.unusedVariables false
namespace Lp
open Gen
/-- An event's cells, a trip's; as values. -/
abbrev evL (e : Ev) : List Value := [.string e.key, .int .i64 e.at_, .int .i64 e.val]
abbrev evC (e : Ev) : Array Value := #[.string e.key, .int .i64 e.at_, .int .i64 e.val]
abbrev evV (e : Ev) : Value := .agg (evC e)
def trL (t : Tr) : List Value := [.string t.ev.key, .int .i64 t.ev.at_, .int .i64 t.ev.val, .int .i64 (t.n : Int)]
abbrev trC (t : Tr) : Array Value := #[.string t.ev.key, .int .i64 t.ev.at_, .int .i64 t.ev.val, .int .i64 (t.n : Int)]
abbrev trV (t : Tr) : Value := .agg (trC t)
abbrev ruC (L : Int) (F : Nat) : Array Value := #[.int .u64 L, .int .i64 (F : Int)]
abbrev ruV (L : Int) (F : Nat) : Value := .agg (ruC L F)
def SaysU (n : Int) (w : World) (e : Ending) (w' : World) : Prop := e = .returned (.int .u64 n) ∧ w = w'
theorem wrap_i {v : Int} (h : inI v) : IntKind.i64.wrap v = v := by
  unfold inI at h
  simp [IntKind.wrap, IntKind.bits, IntKind.signed]
  omega
theorem lpHalf (v : Int) (hv : inI v) (w : World) : Calls Try.prog 82 #[.int .i64 v] w (SaysI (half v) w) := by
  have h1 := wrap_i (half_in hv)
  unfold half at h1
  clear hv
  go_enter Try.func82, Try.ntmps82
  go_wp2_with fail
  go_ret
  exact ⟨rfl, rfl⟩
theorem lpAmount (v : Int) (hv : inI v) (w : World) : Calls Try.prog 94 #[.int .i64 v] w (SaysU (v.natAbs : Int) w) := by
  have HV := Lib.hid hv
  clear hv
  by_cases h : v < 0
  · have h1 : IntKind.u64.wrap v = v + 18446744073709551616 := by
      have := HV.out; unfold inI at this; simp [IntKind.wrap, IntKind.bits, IntKind.signed]; omega
    have h2 : IntKind.u64.wrap (-(v + 18446744073709551616)) = (v.natAbs : Int) := by
      have := HV.out; unfold inI at this; simp [IntKind.wrap, IntKind.bits, IntKind.signed]; omega
    go_enter Try.func94, Try.ntmps94
    go_wp2_with fail
    go_ret
    exact ⟨rfl, rfl⟩
  · have h1 : IntKind.u64.wrap v = (v.natAbs : Int) := by
      have := HV.out; unfold inI at this; simp [IntKind.wrap, IntKind.bits, IntKind.signed]; omega
    go_enter Try.func94, Try.ntmps94
    go_wp2_with fail
    go_ret
    exact ⟨rfl, rfl⟩
theorem ru_ret {L : Int} {F : Nat} {Post : Ending → World → Prop} {rb : Nat} {w : World} {act : Act} (ht : act.tmps.getD 4 undef = .pointer (some ⟨rb, 0, none⟩)) (hd : act.defers = []) (hl : Lies rb (ruC L F) 103 w) (h : Post (.returned (ruV L F)) w) :
    bodyPost Try.prog Try.f66 Post Exit.ret act w := by
  have c0 : w.cell? ⟨rb, 0, none⟩ = some (.int .u64 L) := hl.cell (j := 0) rfl
  have c1 : w.cell? ⟨rb, 1, none⟩ = some (.int .i64 (F : Int)) := hl.cell (j := 1) rfl
  have ht2 : act.tmps[4]?.getD undef = .pointer (some ⟨rb, 0, none⟩) := by simpa using ht
  exact bodyPost_ret (v := ruV L F) (by simp [results, Try.results66, go_sem, ht2, c0, c1]) hd h
theorem lpRule (l f : Int) (hl : inI l) (w : World) : Calls Try.prog 66 #[.int .i64 l, .int .i64 f] w fun e w' => e = .returned (ruV (limOf l) (fuelOf f)) ∧ Below w.heap.size w w' := by
  have h1 : IntKind.u64.wrap (max l 0) = limOf l := by
    unfold inI at hl; unfold limOf; simp [IntKind.wrap, IntKind.bits, IntKind.signed]; omega
  have h2 : min (max f 0) 40 = (fuelOf f : Int) := by unfold fuelOf; omega
  clear hl
  go_enter Try.func66, Try.ntmps66
  go_wp2_with fail
  exact ru_ret (rb := w.heap.size) rfl rfl (Lies.new w _ _) ⟨rfl, below_al (Below.refl _ _)⟩
theorem lpLeaves (L : Int) (F : Nat) (t : Tr) (hv : inI t.ev.val) (hL : 0 ≤ L ∧ L ≤ 9223372036854775807) (w : World) : Calls Try.prog 81 #[ruV L F, trV t] w (TellsB (leaves L F t) w) := by
  have HA := Lib.hid (fun w => lpAmount t.ev.val hv w)
  obtain ⟨r, hr⟩ : ∃ r, r = leaves L F t := ⟨_, rfl⟩
  have hrr : leaves L F t = decide ((t.ev.val.natAbs : Int) ≤ L ∨ F ≤ t.n) := rfl
  rw [hrr] at hr
  rw [hrr, ← hr]
  clear hrr
  by_cases h : (t.ev.val.natAbs : Int) ≤ L
  · have hrt : r = true := by rw [hr]; simp [h]
    subst hrt
    clear hr hL hv
    have hd : decide ((t.ev.val.natAbs : Int) ≤ L) = true := by simpa using h
    go_enter Try.func81, Try.ntmps81
    go_wp2_with fail
    go_quiet (first | (go_at_call 94; refine Calls.quiet_of_same (still_of (HA.out _))))
    go_wp2_with fail
    go_ret
    exact ⟨rfl, below_drewN (below_al (below_al (Below.refl _ _)))⟩
  · have hrt : r = decide (F ≤ t.n) := by rw [hr]; simp [h]
    have hd : decide ((t.ev.val.natAbs : Int) ≤ L) = false := by simpa using h
    clear hr hL hv h
    go_enter Try.func81, Try.ntmps81
    go_wp2_with fail
    go_quiet (first | (go_at_call 94; refine Calls.quiet_of_same (still_of (HA.out _))))
    go_wp2_with fail
    go_ret
    exact ⟨by rw [hrt]; simp, below_drewN (below_al (below_al (Below.refl _ _)))⟩
end Lp
end Go.Proofs.Ytipmphkmeiogoaa
/- pass: an event goes round once, unless it leaves. -/
namespace Go.Proofs.Ytipmphkmeiogoaa
open Go.RowKit
set_option linter.unusedVariables false
namespace Lp
open Gen
def passed (L : Int) (F : Nat) (t : Tr) : Tr := if leaves L F t then t else next t
/-- Hands back a trip and a truth; what was stays. -/
def GivesT (t : Tr) (b : Bool) (w : World) (e : Ending) (w' : World) : Prop := e = .returned (.tuple #[trV t, .bool b]) ∧ Below w.heap.size w w'
theorem pass_ret {t : Tr} {b : Bool} {w0 : World} {rb : Nat} {w : World} {act : Act} (ht : act.tmps.getD 4 undef = .pointer (some ⟨rb, 0, none⟩)) (hs : act.tmps.getD 5 undef = .bool b) (hd : act.defers = []) (hl : Lies rb (trC t) 106 w) (h : Below w0.heap.size w0 w) :
    bodyPost Try.prog Try.f67 (GivesT t b w0) Exit.ret act w := by
  have c0 : w.cell? ⟨rb, 0, none⟩ = some (.string t.ev.key) := hl.cell (j := 0) rfl
  have c1 : w.cell? ⟨rb, 1, none⟩ = some (.int .i64 t.ev.at_) := hl.cell (j := 1) rfl
  have c2 : w.cell? ⟨rb, 2, none⟩ = some (.int .i64 t.ev.val) := hl.cell (j := 2) rfl
  have c3 : w.cell? ⟨rb, 3, none⟩ = some (.int .i64 (t.n : Int)) := hl.cell (j := 3) rfl
  have ht2 : act.tmps[4]?.getD undef = .pointer (some ⟨rb, 0, none⟩) := by simpa using ht
  have hs2 : act.tmps[5]?.getD undef = .bool b := by simpa using hs
  exact bodyPost_ret (v := .tuple #[trV t, .bool b]) (by simp [results, Try.results67, go_sem, ht2, hs2, c0, c1, c2, c3]) hd ⟨rfl, h⟩
set_option maxHeartbeats 1000000 in
theorem lpPass (L : Int) (F : Nat) (t : Tr) (hv : inI t.ev.val) (hL : 0 ≤ L ∧ L ≤ 9223372036854775807) (hF : F ≤ 40) (w : World) :
    Calls Try.prog 67 #[ruV L F, trV t] w (GivesT (passed L F t) (leaves L F t) w) := by
  have HL := Lib.hid (fun w => lpLeaves L F t hv hL w)
  have HH := Lib.hid (fun w => lpHalf t.ev.val hv w)
  cases hq : leaves L F t
  · rw [hq] at HL
    have hp : passed L F t = next t := by unfold passed; rw [hq]; rfl
    have hn := leaves_lt hq
    have hw := wrap_i (v := (t.n : Int) + 1) (by unfold inI; omega)
    rw [hp]
    clear hq hp hv hL
    go_enter Try.func67, Try.ntmps67
    go_wp2_with fail
    refine (HL.out _).mono ?_
    rintro e w1 ⟨rfl, hb1⟩
    have L1 := Lib.hid (((lies_new1 w (.cells (ruC L F) 103) (trC t) 106).al (o := .cells (trC zTr) 106)).below hb1)
    have L2 := Lib.hid ((lies_new2 w (.cells (ruC L F) 103) (.cells (trC t) 106) (trC zTr) 106).below hb1)
    have HB1 := Lib.hid (below_next (below_al (below_al (below_al (Below.refl w.heap.size w)))) hb1)
    clear hb1
    have c0 := L1.out.cell (j := 0) rfl
    have c1 := L1.out.cell (j := 1) rfl
    have c2 := L1.out.cell (j := 2) rfl
    have c3 := L1.out.cell (j := 3) rfl
    have f2 := L1.out.free 2
    have f3 := L1.out.free 3
    have d0 := L2.out.cell (j := 0) rfl
    have d1 := L2.out.cell (j := 1) rfl
    have d2 := L2.out.cell (j := 2) rfl
    have d3 := L2.out.cell (j := 3) rfl
    have g0 := L2.out.free 0
    have g1 := L2.out.free 1
    have g2 := L2.out.free 2
    have g3 := L2.out.free 3
    go_wp2_with fail
    refine (HH.out _).mono ?_
    rintro e w2 ⟨rfl, rfl⟩
    go_wp2_with fail
    have HB2 : Below w.heap.size w ((w1.setCell ⟨w.heap.size + 1, 2, none⟩ (.int .i64 (half t.ev.val))).setCell ⟨w.heap.size + 1, 3, none⟩ (.int .i64 ((t.n : Int) + 1))) :=
      (HB1.out.setCell (p := ⟨w.heap.size + 1, 2, none⟩) (Nat.le_succ _) _).setCell (p := ⟨w.heap.size + 1, 3, none⟩) (Nat.le_succ _) _
    exact pass_ret (t := next t) (rb := w.heap.size + 1 + 1) rfl rfl rfl (Lies.set4 ((L2.out.other (by omega) _ _).other (by omega) _ _) _ _ _ _) (below_set4 HB2 (by omega) _ _ _ _)
  · rw [hq] at HL
    have hp : passed L F t = t := by unfold passed; rw [hq]; rfl
    rw [hp]
    clear hq hp hv hL HH
    go_enter Try.func67, Try.ntmps67
    go_wp2_with fail
    refine (HL.out _).mono ?_
    rintro e w1 ⟨rfl, hb1⟩
    have L1 := Lib.hid (((lies_new1 w (.cells (ruC L F) 103) (trC t) 106).al (o := .cells (trC zTr) 106)).below hb1)
    have L2 := Lib.hid ((lies_new2 w (.cells (ruC L F) 103) (.cells (trC t) 106) (trC zTr) 106).below hb1)
    have HB1 := Lib.hid (below_next (below_al (below_al (below_al (Below.refl w.heap.size w)))) hb1)
    clear hb1
    have c0 := L1.out.cell (j := 0) rfl
    have c1 := L1.out.cell (j := 1) rfl
    have c2 := L1.out.cell (j := 2) rfl
    have c3 := L1.out.cell (j := 3) rfl
    have d0 := L2.out.cell (j := 0) rfl
    have d1 := L2.out.cell (j := 1) rfl
    have d2 := L2.out.cell (j := 2) rfl
    have d3 := L2.out.cell (j := 3) rfl
    have g0 := L2.out.free 0
    have g1 := L2.out.free 1
    have g2 := L2.out.free 2
    have g3 := L2.out.free 3
    go_wp2_with fail
    exact pass_ret (t := t) (rb := w.heap.size + 1 + 1) rfl rfl rfl (Lies.set4 L2.out _ _ _ _) (below_set4 HB1.out (by omega) _ _ _ _)
end Lp
end Go.Proofs.Ytipmphkmeiogoaa
