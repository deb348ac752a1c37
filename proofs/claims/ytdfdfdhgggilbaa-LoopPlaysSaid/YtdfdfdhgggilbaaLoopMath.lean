/- Events that go round, as plain data: what leaves, after how many rounds; a line of them in an array that they go round in. -/
import Derived.Test.YtdfdfdhgggilbaaProg
namespace Go.Proofs.Ytdfdfdhgggilbaa
set_option linter.unusedVariables false
namespace Lp
/-- An event; an event and how often it has gone round. -/
structure Ev where
  key : ByteArray
  at_ : Int
  val : Int
deriving DecidableEq
structure Tr where
  ev : Ev
  n : Nat
deriving DecidableEq
instance : Inhabited Ev := ⟨⟨ByteArray.empty, 0, 0⟩⟩
instance : Inhabited Tr := ⟨⟨default, 0⟩⟩
abbrev zEv : Ev := ⟨⟨#[]⟩, 0, 0⟩
abbrev zTr : Tr := ⟨zEv, 0⟩
def half (v : Int) : Int := v.tdiv 2
/-- Does it leave? L: the limit, 0 or more; F: the fuel, within its bounds. -/
def leaves (L : Int) (F : Nat) (t : Tr) : Bool := decide ((t.ev.val.natAbs : Int) ≤ L ∨ F ≤ t.n)
def next (t : Tr) : Tr := ⟨{ t.ev with val := half t.ev.val }, t.n + 1⟩
/-- A value that goes round k times at most; and how often it did. -/
def rv (L : Int) : Nat → Int → Int × Nat
  | 0, v => (v, 0)
  | k + 1, v => if (v.natAbs : Int) ≤ L then (v, 0) else ((rv L k (half v)).1, (rv L k (half v)).2 + 1)
/-- What an event leaves as, that has gone round n times. -/
def fin (L : Int) (F : Nat) (t : Tr) : Tr := ⟨{ t.ev with val := (rv L (F - t.n) t.ev.val).1 }, t.n + (rv L (F - t.n) t.ev.val).2⟩
def limOf (l : Int) : Int := max l 0
def fuelOf (f : Int) : Nat := (min (max f 0) 40).toNat
def inI (v : Int) : Prop := -9223372036854775808 ≤ v ∧ v ≤ 9223372036854775807
theorem half_abs (v : Int) : (half v).natAbs = v.natAbs / 2 := by unfold half; rw [Int.natAbs_tdiv]; rfl
theorem half_in {v : Int} (h : inI v) : inI (half v) := by have := half_abs v; unfold inI at *; omega
theorem fuelOf_le (f : Int) : fuelOf f ≤ 40 := by unfold fuelOf; omega
theorem limOf_in {l : Int} (h : inI l) : 0 ≤ limOf l ∧ limOf l ≤ 9223372036854775807 := by unfold inI limOf at *; omega
theorem rv_le (L : Int) : ∀ (k : Nat) (v : Int), (rv L k v).2 ≤ k
  | 0, v => Nat.le_refl _
  | k + 1, v => by
    unfold rv
    split
    · exact Nat.zero_le _
    · exact Nat.succ_le_succ (rv_le L k (half v))
theorem rv_stop {L : Int} {k : Nat} {v : Int} (h : (v.natAbs : Int) ≤ L ∨ k = 0) : rv L k v = (v, 0) := by
  cases k with
  | zero => rfl
  | succ k => unfold rv; rw [if_pos (h.resolve_right (by omega))]
theorem rv_go {L : Int} {k : Nat} {v : Int} (h : ¬ (v.natAbs : Int) ≤ L) : rv L (k + 1) v = ((rv L k (half v)).1, (rv L k (half v)).2 + 1) := by
  rw [rv, if_neg h]
theorem fin_stop {L : Int} {F : Nat} {t : Tr} (h : leaves L F t = true) : fin L F t = t := by
  have h' : (t.ev.val.natAbs : Int) ≤ L ∨ F ≤ t.n := by simpa [leaves] using h
  unfold fin
  rw [rv_stop (h'.imp id fun h => by omega)]
  rfl
theorem fin_go {L : Int} {F : Nat} {t : Tr} (h : leaves L F t = false) : fin L F (next t) = fin L F t := by
  have h' : ¬ ((t.ev.val.natAbs : Int) ≤ L ∨ F ≤ t.n) := by simpa [leaves] using h
  have h1 : ¬ (t.ev.val.natAbs : Int) ≤ L := fun e => h' (.inl e)
  have h2 : F - t.n = (F - (t.n + 1)) + 1 := by have := fun e => h' (.inr e); omega
  have e := rv_go (k := F - (t.n + 1)) h1
  rw [← h2] at e
  unfold fin
  rw [e]
  simp only [next, Tr.mk.injEq, true_and]
  omega
theorem leaves_lt {L : Int} {F : Nat} {t : Tr} (h : leaves L F t = false) : t.n < F := by
  have h' : ¬ ((t.ev.val.natAbs : Int) ≤ L ∨ F ≤ t.n) := by simpa [leaves] using h
  omega
/-- How many steps it takes with a row of events, until there is none. -/
def left (L : Int) (F : Nat) (t : Tr) : Nat := (rv L (F - t.n) t.ev.val).2 + 1
def lefts (L : Int) (F : Nat) (l : List Tr) : Nat := (l.map (left L F)).sum
theorem left_le (L : Int) (F : Nat) (t : Tr) : left L F t ≤ F + 1 := by have := rv_le L (F - t.n) t.ev.val; unfold left; omega
theorem left_pos (L : Int) (F : Nat) (t : Tr) : 1 ≤ left L F t := by unfold left; omega
theorem left_stop {L : Int} {F : Nat} {t : Tr} (h : leaves L F t = true) : left L F t = 1 := by
  have h' : (t.ev.val.natAbs : Int) ≤ L ∨ F ≤ t.n := by simpa [leaves] using h
  unfold left
  rw [rv_stop (h'.imp id fun h => by omega)]
theorem left_go {L : Int} {F : Nat} {t : Tr} (h : leaves L F t = false) : left L F t = left L F (next t) + 1 := by
  have h' : ¬ ((t.ev.val.natAbs : Int) ≤ L ∨ F ≤ t.n) := by simpa [leaves] using h
  have h1 : ¬ (t.ev.val.natAbs : Int) ≤ L := fun e => h' (.inl e)
  have h2 : F - t.n = (F - (t.n + 1)) + 1 := by have := fun e => h' (.inr e); omega
  have e := rv_go (k := F - (t.n + 1)) h1
  rw [← h2] at e
  unfold left
  rw [e]
  rfl
theorem lefts_cons (L : Int) (F : Nat) (t : Tr) (l : List Tr) : lefts L F (t :: l) = left L F t + lefts L F l := by simp [lefts]
theorem lefts_push (L : Int) (F : Nat) (t : Tr) (l : List Tr) : lefts L F (l ++ [t]) = lefts L F l + left L F t := by simp [lefts]
theorem lefts_le (L : Int) (F : Nat) : ∀ l : List Tr, lefts L F l ≤ l.length * (F + 1)
  | [] => by simp [lefts]
  | t :: l => by rw [lefts_cons, List.length_cons, Nat.add_mul]; have := left_le L F t; have := lefts_le L F l; omega
theorem lefts_ge (L : Int) (F : Nat) : ∀ l : List Tr, l.length ≤ lefts L F l
  | [] => by simp [lefts]
  | t :: l => by rw [lefts_cons, List.length_cons]; have := left_pos L F t; have := lefts_ge L F l; omega
theorem lefts_nil {L : Int} {F : Nat} {l : List Tr} (h : lefts L F l = 0) : l = [] := List.eq_nil_of_length_eq_zero (by have := lefts_ge L F l; omega)
/-- One step of a row of events: the row then, what left. -/
def step (L : Int) (F : Nat) : List Tr → List Tr × Option Tr
  | [] => ([], none)
  | t :: r => if leaves L F t then (r, some t) else (r ++ [next t], none)
theorem step_nil (L : Int) (F : Nat) : step L F [] = ([], none) := rfl
theorem step_out {L : Int} {F : Nat} {t : Tr} (h : leaves L F t = true) (r : List Tr) : step L F (t :: r) = (r, some t) := by simp [step, h]
theorem step_on {L : Int} {F : Nat} {t : Tr} (h : leaves L F t = false) (r : List Tr) : step L F (t :: r) = (r ++ [next t], none) := by simp [step, h]
/-- A line in an array of 16 places: from the place f on n of them lie, and go round. -/
structure Ring (ps : List Tr) (f n : Nat) (l : List Tr) : Prop where
  size : ps.length = 16
  first : f < 16
  few : n ≤ 16
  len : l.length = n
  get : ∀ i, i < n → ps[(f + i) % 16]? = l[i]?
theorem Ring.start : Ring (List.replicate 16 zTr) 0 0 [] := ⟨by simp, by omega, by omega, rfl, fun i h => by omega⟩
theorem Ring.put {ps : List Tr} {f n : Nat} {l : List Tr} (h : Ring ps f n l) (t : Tr) (hn : n < 16) : Ring (ps.set ((f + n) % 16) t) f (n + 1) (l ++ [t]) := by
  refine ⟨by rw [List.length_set]; exact h.size, h.first, hn, by rw [List.length_append, h.len]; rfl, fun i hi => ?_⟩
  have hs := h.size
  have hl := h.len
  rcases Nat.lt_succ_iff_lt_or_eq.1 hi with h1 | rfl
  · rw [List.getElem?_set_ne (by have := h.first; omega), h.get i h1, List.getElem?_append_left (by omega)]
  · rw [List.getElem?_set_self (by rw [hs]; exact Nat.mod_lt _ (by omega)), List.getElem?_append_right (by omega), hl, Nat.sub_self]
    rfl
theorem Ring.head {ps : List Tr} {f n : Nat} {t : Tr} {r : List Tr} (h : Ring ps f n (t :: r)) : ps[f]? = some t ∧ 0 < n := by
  have hl := h.len
  have hn : 0 < n := by rw [← hl, List.length_cons]; omega
  have h1 := h.get 0 hn
  rw [Nat.add_zero, Nat.mod_eq_of_lt h.first] at h1
  exact ⟨by rw [h1]; rfl, hn⟩
theorem Ring.take {ps : List Tr} {f n : Nat} {t : Tr} {r : List Tr} (h : Ring ps f n (t :: r)) (z : Tr) : Ring (ps.set f z) ((f + 1) % 16) (n - 1) r := by
  have hl := h.len
  rw [List.length_cons] at hl
  have hf := h.first
  have hw := h.few
  refine ⟨by rw [List.length_set]; exact h.size, Nat.mod_lt _ (by omega), by omega, by omega, fun i hi => ?_⟩
  have h1 := h.get (i + 1) (by omega)
  rw [List.getElem?_cons_succ] at h1
  rw [← h1, show ((f + 1) % 16 + i) % 16 = (f + (i + 1)) % 16 by omega, List.getElem?_set_ne (by omega)]
end Lp
end Go.Proofs.Ytdfdfdhgggilbaa
