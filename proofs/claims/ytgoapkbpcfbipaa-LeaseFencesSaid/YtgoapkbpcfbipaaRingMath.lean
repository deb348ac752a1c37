/- The ring as plain data: the hash, workers, owners, moves. -/
import Derived.Test.YtgoapkbpcfbipaaRows
namespace Go.Proofs.Ytgoapkbpcfbipaa
set_option linter.unusedVariables false
namespace Rg
/-- One byte more. -/
def step (h : Nat) (b : UInt8) : Nat := (h ^^^ b.toNat) * 16777619 % 4294967296
def hash (l : List UInt8) : Nat := l.foldl step 2166136261
theorem step_lt (h : Nat) (b : UInt8) : step h b < 4294967296 := Nat.mod_lt _ (by omega)
theorem foldl_lt : ∀ (l : List UInt8) (h : Nat), h < 4294967296 → l.foldl step h < 4294967296
  | [], _, h => h
  | b :: r, h, _ => foldl_lt r _ (step_lt h b)
theorem hash_lt (l : List UInt8) : hash l < 4294967296 := foldl_lt l _ (by omega)
theorem xor_lt {h : Nat} (hh : h < 4294967296) (b : UInt8) : h ^^^ b.toNat < 4294967296 := Nat.xor_lt_two_pow (n := 32) hh (Nat.lt_of_lt_of_le b.toNat_lt (by omega))
theorem hash_next {l : List UInt8} {k : Nat} {b : UInt8} (h : l[k]? = some b) : hash (l.take (k + 1)) = step (hash (l.take k)) b := by
  unfold hash
  rw [List.take_add_one, h]
  show (l.take k ++ [b]).foldl step 2166136261 = _
  rw [List.foldl_append, List.foldl_cons, List.foldl_nil]
/-- Workers that may be: rising above p, below 100. -/
def rise : Int → List Int → Bool
  | _, [] => true
  | p, x :: r => decide (p < x ∧ x ≤ 99) && rise x r
def right (l : List Int) : Bool := decide (1 ≤ l.length ∧ l.length ≤ 8) && rise 0 l
theorem rise_mem : ∀ {p : Int} {l : List Int}, rise p l = true → ∀ x ∈ l, p < x ∧ x ≤ 99
  | p, [], _, x, hx => by simp at hx
  | p, y :: r, h, x, hx => by
    simp only [rise, Bool.and_eq_true, decide_eq_true_eq] at h
    rcases List.mem_cons.1 hx with rfl | hx
    · exact h.1
    · have := rise_mem h.2 x hx; omega
def lastOf (p : Int) (l : List Int) : Int := l.getLast?.getD p
theorem lastOf_cons (p y : Int) (r : List Int) : lastOf p (y :: r) = lastOf y r := by
  cases r with
  | nil => rfl
  | cons z r => simp [lastOf, List.getLast?_cons]
theorem rise_snoc : ∀ (p : Int) (l : List Int) (x : Int), rise p (l ++ [x]) = (rise p l && decide (lastOf p l < x ∧ x ≤ 99))
  | p, [], x => by
    show (decide (p < x ∧ x ≤ 99) && true) = (true && decide (p < x ∧ x ≤ 99))
    rw [Bool.and_true, Bool.true_and]
  | p, y :: r, x => by
    have h := rise_snoc y r x
    show (decide (p < y ∧ y ≤ 99) && rise y (r ++ [x])) = _
    rw [h, lastOf_cons]
    simp only [rise, Bool.and_assoc]
def prev (l : List Int) (i : Nat) : Int := if i = 0 then 0 else l.getD (i - 1) 0
theorem rise_next {l : List Int} {i : Nat} {x : Int} (h : l[i]? = some x) : rise 0 (l.take (i + 1)) = (rise 0 (l.take i) && decide (prev l i < x ∧ x ≤ 99)) := by
  rw [List.take_add_one, h]
  show rise 0 (l.take i ++ [x]) = _
  rw [rise_snoc]
  have hi : i < l.length := (List.getElem?_eq_some_iff.1 h).1
  have e : lastOf 0 (l.take i) = prev l i := by
    unfold prev lastOf
    by_cases h0 : i = 0
    · subst h0; simp
    · rw [if_neg h0, List.getLast?_eq_getElem?, List.length_take, Nat.min_eq_left (by omega), List.getElem?_take, if_pos (by omega), List.getElem?_eq_getElem (by omega), List.getD_eq_getElem?_getD, List.getElem?_eq_getElem (by omega)]
  rw [e]
theorem rise_take : ∀ (n : Nat) (p : Int) (l : List Int), rise p l = true → rise p (l.take n) = true
  | 0, _, _, _ => rfl
  | _ + 1, _, [], _ => rfl
  | n + 1, p, y :: r, h => by
    simp only [rise, List.take_succ_cons, Bool.and_eq_true] at h ⊢
    exact ⟨h.1, rise_take n _ _ h.2⟩
theorem rise_no {l : List Int} {i : Nat} (h : rise 0 (l.take i) = false) : rise 0 l = false := by
  cases hc : rise 0 l
  · rfl
  · rw [rise_take i _ _ hc] at h; cases h
/-- The moves between two lists of owners. -/
structure Mv where
  g : Int
  src : Int
  to : Int
deriving DecidableEq
def movesFrom : Nat → List Int → List Int → List Mv
  | g, a :: r, b :: s => if a = b then movesFrom (g + 1) r s else ⟨g, a, b⟩ :: movesFrom (g + 1) r s
  | _, _, _ => []
def moves (old now : List Int) : List Mv := movesFrom 0 old now
/-- The moves of the first k groups. -/
theorem movesFrom_snoc : ∀ (g : Nat) (l m : List Int) (a b : Int), l.length = m.length → movesFrom g (l ++ [a]) (m ++ [b]) = movesFrom g l m ++ (if a = b then [] else [⟨((g + l.length : Nat) : Int), a, b⟩])
  | g, [], [], a, b, _ => by
    show (if a = b then movesFrom (g + 1) [] [] else ⟨g, a, b⟩ :: movesFrom (g + 1) [] []) = _
    by_cases h : a = b
    · rw [if_pos h, if_pos h]; rfl
    · rw [if_neg h, if_neg h]; simp [movesFrom]
  | g, x :: l, y :: m, a, b, h => by
    have ih := movesFrom_snoc (g + 1) l m a b (by simpa using h)
    have e : g + 1 + l.length = g + (x :: l).length := by simp; omega
    rw [e] at ih
    show (if x = y then movesFrom (g + 1) (l ++ [a]) (m ++ [b]) else ⟨g, x, y⟩ :: movesFrom (g + 1) (l ++ [a]) (m ++ [b])) = (if x = y then movesFrom (g + 1) l m else ⟨g, x, y⟩ :: movesFrom (g + 1) l m) ++ _
    by_cases hxy : x = y
    · rw [if_pos hxy, if_pos hxy, ih]
    · rw [if_neg hxy, if_neg hxy, ih]; rfl
theorem moves_next {old now : List Int} {k : Nat} {a b : Int} (ha : old[k]? = some a) (hb : now[k]? = some b) : moves (old.take (k + 1)) (now.take (k + 1)) = moves (old.take k) (now.take k) ++ (if a = b then [] else [⟨(k : Int), a, b⟩]) := by
  have h1 := (List.getElem?_eq_some_iff.1 ha).1
  have h2 := (List.getElem?_eq_some_iff.1 hb).1
  rw [List.take_add_one, List.take_add_one, ha, hb]
  show movesFrom 0 (old.take k ++ [a]) (now.take k ++ [b]) = _
  rw [movesFrom_snoc 0 _ _ a b (by simp; omega)]
  have e : 0 + (old.take k).length = k := by rw [Nat.zero_add, List.length_take]; omega
  rw [e]; rfl
theorem movesFrom_cut : ∀ (g n : Nat) (l m : List Int), (l.length ≤ n ∨ m.length ≤ n) → movesFrom g (l.take n) (m.take n) = movesFrom g l m
  | _, _, [], m, _ => by cases m <;> simp [movesFrom]
  | _, _, _ :: _, [], _ => by simp [movesFrom]
  | _, 0, _ :: _, _ :: _, h => by simp at h
  | g, n + 1, x :: l, y :: m, h => by
    have ih := movesFrom_cut (g + 1) n l m (by simpa using h)
    simp only [List.take_succ_cons, movesFrom, ih]
theorem moves_end {old now : List Int} {k : Nat} (h : old.length ≤ k ∨ now.length ≤ k) : moves (old.take k) (now.take k) = moves old now := movesFrom_cut 0 k old now h
end Rg
end Go.Proofs.Ytgoapkbpcfbipaa
