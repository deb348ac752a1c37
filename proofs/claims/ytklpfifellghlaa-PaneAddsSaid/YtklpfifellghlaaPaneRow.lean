/- Rows of panes; Right. -/
import Derived.Test.YtklpfifellghlaaPaneOne
import Derived.Test.YtklpfifellghlaaWide
import Derived.Deep.Cut
namespace Go.Proofs.Ytklpfifellghlaa
open Go.RowKit
open Pan
set_option linter.unusedVariables false
theorem flat_len {α : Type} (f : α → List Value) {n : Nat} (hf : ∀ x, (f x).length = n) (xs : List α) : (xs.flatMap f).length = xs.length * n := by
  induction xs with
  | nil => simp
  | cons x r ih => rw [List.flatMap_cons, List.length_append, ih, hf, List.length_cons, Nat.add_mul]; omega
theorem flat_get {α : Type} (f : α → List Value) {n : Nat} (hf : ∀ x, (f x).length = n) : ∀ {xs : List α} {i j : Nat} {x : α}, xs[i]? = some x → j < n → (xs.flatMap f)[i * n + j]? = (f x)[j]?
  | [], _, _, _, h, _ => by simp at h
  | y :: r, 0, j, x, h, hj => by
    simp only [List.getElem?_cons_zero, Option.some.injEq] at h
    subst h
    rw [List.flatMap_cons, Nat.zero_mul, Nat.zero_add, List.getElem?_append_left (by rw [hf]; exact hj)]
  | y :: r, i + 1, j, x, h, hj => by
    rw [List.getElem?_cons_succ] at h
    rw [List.flatMap_cons, List.getElem?_append_right (by rw [hf, Nat.add_mul]; omega), hf, show (i + 1) * n + j - n = i * n + j by rw [Nat.add_mul]; omega]
    exact flat_get f hf h hj
/-- Panes as they lie in a slice. -/
def pL (x : Pn) : List Value := [.int .i64 x.p.lo, .int .i64 x.p.hi, .string (kS x.p.key), .int .i64 x.acc.n, .int .i64 x.acc.a, .int .i64 x.acc.b]
def pc (xs : List Pn) : List Value := xs.flatMap pL
theorem pL_len (x : Pn) : (pL x).length = 6 := rfl
theorem pc_len (xs : List Pn) : (pc xs).length = xs.length * 6 := flat_len pL pL_len xs
theorem pc_app (xs ys : List Pn) : pc (xs ++ ys) = pc xs ++ pc ys := by simp [pc]
theorem pc_one (x : Pn) : pc [x] = pL x := by simp [pc]
theorem pc_nil : pc [] = [] := rfl
theorem pc_ones (xs : List Pn) : ∀ u ∈ pc xs, u.oneCell' = true := by
  intro u hu
  obtain ⟨p, _, hp⟩ := List.mem_flatMap.1 hu
  simp only [pL, List.mem_cons, List.not_mem_nil, or_false] at hp
  rcases hp with rfl | rfl | rfl | rfl | rfl | rfl <;> rfl
/-- The cells of a pane. -/
structure PnAt (w : World) (b o : Nat) (x : Pn) : Prop where
  c0 : w.cell? ⟨b, o, none⟩ = some (.int .i64 x.p.lo)
  c1 : w.cell? ⟨b, o + 1, none⟩ = some (.int .i64 x.p.hi)
  c2 : w.cell? ⟨b, o + 2, none⟩ = some (.string (kS x.p.key))
  c3 : w.cell? ⟨b, o + 3, none⟩ = some (.int .i64 x.acc.n)
  c4 : w.cell? ⟨b, o + 4, none⟩ = some (.int .i64 x.acc.a)
  c5 : w.cell? ⟨b, o + 5, none⟩ = some (.int .i64 x.acc.b)
theorem cell_below {a b : World} {p : Addr} {u : Value} (h : a.cell? p = some u) (hb : Below a.heap.size a b) : b.cell? p = some u := (hb.cell (lt_of_cell h)).trans h
theorem PnAt.below {a b : World} {k o : Nat} {x : Pn} (h : PnAt a k o x) (hb : Below a.heap.size a b) : PnAt b k o x :=
  ⟨cell_below h.c0 hb, cell_below h.c1 hb, cell_below h.c2 hb, cell_below h.c3 hb, cell_below h.c4 hb, cell_below h.c5 hb⟩
theorem PnAt.lt {a : World} {k o : Nat} {x : Pn} (h : PnAt a k o x) : k < a.heap.size := lt_of_cell h.c0
theorem PnAt.drew {a : World} {k o : Nat} {x : Pn} (h : PnAt a k o x) : PnAt a.drew k o x := ⟨h.c0, h.c1, h.c2, h.c3, h.c4, h.c5⟩
theorem PnAt.of_lies {w : World} {b : Nat} {x : Pn} {T : TypeId} (h : Lies b (paC x) T w) : PnAt w b 0 x :=
  ⟨h.cell (j := 0) rfl, h.cell (j := 1) rfl, h.cell (j := 2) rfl, h.cell (j := 3) rfl, h.cell (j := 4) rfl, h.cell (j := 5) rfl⟩
theorem Row.pn {w : World} {A : Option Addr} {xs : List Pn} (h : Row w A (pc xs)) {k : Nat} {x : Pn} (hk : xs[k]? = some x) : ∃ b off, A = some ⟨b, off, none⟩ ∧ PnAt w b (off + k * 6) x := by
  have g : ∀ j, j < 6 → (pc xs)[k * 6 + j]? = (pL x)[j]? := fun j hj => flat_get pL pL_len hk hj
  have g0 := g 0 (by omega); have g1 := g 1 (by omega); have g2 := g 2 (by omega); have g3 := g 3 (by omega); have g4 := g 4 (by omega); have g5 := g 5 (by omega)
  rcases h with h | ⟨b, off, rfl, h⟩
  · rw [h] at g0; simp [pL] at g0
  · refine ⟨b, off, rfl, ?_, ?_, ?_, ?_, ?_, ?_⟩
    · exact h _ _ g0
    · rw [Nat.add_assoc]; exact h _ _ g1
    · rw [Nat.add_assoc]; exact h _ _ g2
    · rw [Nat.add_assoc]; exact h _ _ g3
    · rw [Nat.add_assoc]; exact h _ _ g4
    · rw [Nat.add_assoc]; exact h _ _ g5
namespace Pan
/-- As far as it is checked. -/
def rightTo (l : List Pn) (k : Nat) : Prop := ∀ i x, i < k → l[i]? = some x → may x = true ∧ ∀ j y, i = j + 1 → l[j]? = some y → ahead y.p x.p = true
def right (l : List Pn) : Bool := decide (l.length ≤ 2000) && l.all may && chain l
theorem chain_of : ∀ (l : List Pn), (∀ i x y, l[i]? = some x → l[i + 1]? = some y → ahead x.p y.p = true) → chain l = true
  | [], _ => rfl
  | [_], _ => rfl
  | a :: b :: r, h => by
    rw [chain, Bool.and_eq_true]
    exact ⟨h 0 a b rfl rfl, chain_of (b :: r) fun i x y h1 h2 => h (i + 1) x y (by simpa using h1) (by simpa using h2)⟩
theorem of_chain : ∀ (l : List Pn), chain l = true → ∀ i x y, l[i]? = some x → l[i + 1]? = some y → ahead x.p y.p = true
  | [], _, _, _, _, h, _ => by simp at h
  | [a], _, i, x, y, h1, h2 => by simp at h2
  | a :: b :: r, h, 0, x, y, h1, h2 => by
    rw [chain, Bool.and_eq_true] at h
    simp at h1 h2
    subst h1 h2
    exact h.1
  | a :: b :: r, h, i + 1, x, y, h1, h2 => by
    rw [chain, Bool.and_eq_true] at h
    exact of_chain (b :: r) h.2 i x y (by simpa using h1) (by simpa using h2)
theorem right_iff (l : List Pn) : right l = true ↔ l.length ≤ 2000 ∧ (∀ x ∈ l, may x = true) ∧ Ord l := by
  unfold right
  rw [Bool.and_eq_true, Bool.and_eq_true, chain_iff, decide_eq_true_eq, List.all_eq_true, and_assoc]
theorem right_of_to {l : List Pn} (hl : l.length ≤ 2000) (h : rightTo l l.length) : right l = true := by
  unfold right
  rw [Bool.and_eq_true, Bool.and_eq_true, decide_eq_true_eq, List.all_eq_true]
  refine ⟨⟨hl, fun x hx => ?_⟩, chain_of l fun i x y h1 h2 => ?_⟩
  · obtain ⟨i, hi, rfl⟩ := List.getElem_of_mem hx
    exact (h i _ hi (List.getElem?_eq_getElem hi)).1
  · exact (h (i + 1) y (List.getElem?_eq_some_iff.1 h2).1 h2).2 i x rfl h1
theorem to_of_right {l : List Pn} (h : right l = true) (k : Nat) : rightTo l k := by
  unfold right at h
  rw [Bool.and_eq_true, Bool.and_eq_true, decide_eq_true_eq, List.all_eq_true] at h
  intro i x _ hx
  refine ⟨h.1.2 x (List.mem_of_getElem? hx), fun j y e hy => ?_⟩
  subst e
  exact of_chain l h.2 j y x hy hx
theorem not_right {l : List Pn} {k : Nat} {x : Pn} (hk : l[k]? = some x) (h : may x = false ∨ ∃ j y, k = j + 1 ∧ l[j]? = some y ∧ ahead y.p x.p = false) : right l = false := by
  cases hr : right l with
  | false => rfl
  | true =>
    have h1 := to_of_right hr (k + 1) k x (by omega) hk
    rcases h with h | ⟨j, y, e, hy, h⟩
    · rw [h1.1] at h; cases h
    · rw [h1.2 j y e hy] at h; cases h
theorem to_next {l : List Pn} {k : Nat} {x : Pn} (hk : l[k]? = some x) (h : rightTo l k) (hm : may x = true) (ha : ∀ j y, k = j + 1 → l[j]? = some y → ahead y.p x.p = true) : rightTo l (k + 1) := by
  intro i y hi hy
  by_cases e : i = k
  · subst e
    rw [hk] at hy; cases hy
    exact ⟨hm, ha⟩
  · exact h i y (by omega) hy
end Pan
end Go.Proofs.Ytklpfifellghlaa
