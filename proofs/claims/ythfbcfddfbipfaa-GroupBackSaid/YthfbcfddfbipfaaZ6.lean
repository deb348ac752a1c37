/- PaneRow, PaneMrg, PaneVals, put together. -/
import Derived.Test.YthfbcfddfbipfaaZ5
import Derived.Deep.Cut
/- Rows of panes; Right. -/
namespace Go.Proofs.Ythfbcfddfbipfaa
open Go.RowKit
open Pan
set_option linter.unusedVariables false
set_option maxRecDepth 8000
theorem flat_len {α : Type} (f : α → List Value) {n : Nat} (hf : ∀ x, (f x).length = n) (xs : List α) : (xs.flatMap f).length = xs.length * n := by
  induction xs with
  | nil => simp
  | cons x r ih => rw [List.flatMap_cons, List.length_append, ih, hf, List.length_cons, Nat.add_mul]; omega
theorem flat_get {α : Type} (f : α → List Value) {n : Nat} (hf : ∀ x, (f x).length = n) : ∀ {xs : List α} {i j : Nat} {x : α}, xs[i]? = some x → j < n → (xs.flatMap f)[i * n + j]? = (f x)[j]?
  | [], _, _, _, h, _ => by simp at h
  | y :: r, 0, j, x, h, hj => by
    simp only [List.getElem?_cons_zero, Option.some.injEq] at h
    subst h
    rw [List.flatMap_cons, Nat.zero_mul, Nat.zero_add, List.getElem?_append_left (by rw [hf]; exact hj)]
  | y :: r, i + 1, j, x, h, hj => by
    rw [List.getElem?_cons_succ] at h
    rw [List.flatMap_cons, List.getElem?_append_right (by rw [hf, Nat.add_mul]; omega), hf, show (i + 1) * n + j - n = i * n + j by rw [Nat.add_mul]; omega]
    exact flat_get f hf h hj
/-- Panes as they lie in a slice. -/
def pL (x : Pn) : List Value := [.int .i64 x.p.lo, .int .i64 x.p.hi, .string (kS x.p.key), .int .i64 x.acc.n, .int .i64 x.acc.a, .int .i64 x.acc.b]
def pc (xs : List Pn) : List Value := xs.flatMap pL
theorem pL_len (x : Pn) : (pL x).length = 6 := rfl
theorem pc_len (xs : List Pn) : (pc xs).length = xs.length * 6 := flat_len pL pL_len xs
theorem pc_app (xs ys : List Pn) : pc (xs ++ ys) = pc xs ++ pc ys := by simp [pc]
theorem pc_one (x : Pn) : pc [x] = pL x := by simp [pc]
theorem pc_nil : pc [] = [] := rfl
theorem pc_ones (xs : List Pn) : ∀ u ∈ pc xs, u.oneCell' = true := by
  intro u hu
  obtain ⟨p, _, hp⟩ := List.mem_flatMap.1 hu
  simp only [pL, List.mem_cons, List.not_mem_nil, or_false] at hp
  rcases hp with rfl | rfl | rfl | rfl | rfl | rfl <;> rfl
/-- The cells of a pane. -/
structure PnAt (w : World) (b o : Nat) (x : Pn) : Prop where
  c0 : w.cell? ⟨b, o, none⟩ = some (.int .i64 x.p.lo)
  c1 : w.cell? ⟨b, o + 1, none⟩ = some (.int .i64 x.p.hi)
  c2 : w.cell? ⟨b, o + 2, none⟩ = some (.string (kS x.p.key))
  c3 : w.cell? ⟨b, o + 3, none⟩ = some (.int .i64 x.acc.n)
  c4 : w.cell? ⟨b, o + 4, none⟩ = some (.int .i64 x.acc.a)
  c5 : w.cell? ⟨b, o + 5, none⟩ = some (.int .i64 x.acc.b)
theorem cell_below {a b : World} {p : Addr} {u : Value} (h : a.cell? p = some u) (hb : Below a.heap.size a b) : b.cell? p = some u := (hb.cell (lt_of_cell h)).trans h
theorem PnAt.below {a b : World} {k o : Nat} {x : Pn} (h : PnAt a k o x) (hb : Below a.heap.size a b) : PnAt b k o x :=
  ⟨cell_below h.c0 hb, cell_below h.c1 hb, cell_below h.c2 hb, cell_below h.c3 hb, cell_below h.c4 hb, cell_below h.c5 hb⟩
theorem PnAt.lt {a : World} {k o : Nat} {x : Pn} (h : PnAt a k o x) : k < a.heap.size := lt_of_cell h.c0
theorem PnAt.drew {a : World} {k o : Nat} {x : Pn} (h : PnAt a k o x) : PnAt a.drew k o x := ⟨h.c0, h.c1, h.c2, h.c3, h.c4, h.c5⟩
theorem PnAt.of_lies {w : World} {b : Nat} {x : Pn} {T : TypeId} (h : Lies b (paC x) T w) : PnAt w b 0 x :=
  ⟨h.cell (j := 0) rfl, h.cell (j := 1) rfl, h.cell (j := 2) rfl, h.cell (j := 3) rfl, h.cell (j := 4) rfl, h.cell (j := 5) rfl⟩
theorem Row.pn {w : World} {A : Option Addr} {xs : List Pn} (h : Row w A (pc xs)) {k : Nat} {x : Pn} (hk : xs[k]? = some x) : ∃ b off, A = some ⟨b, off, none⟩ ∧ PnAt w b (off + k * 6) x := by
  have g : ∀ j, j < 6 → (pc xs)[k * 6 + j]? = (pL x)[j]? := fun j hj => flat_get pL pL_len hk hj
  have g0 := g 0 (by omega); have g1 := g 1 (by omega); have g2 := g 2 (by omega); have g3 := g 3 (by omega); have g4 := g 4 (by omega); have g5 := g 5 (by omega)
  rcases h with h | ⟨b, off, rfl, h⟩
  · rw [h] at g0; simp [pL] at g0
  · refine ⟨b, off, rfl, ?_, ?_, ?_, ?_, ?_, ?_⟩
    · exact h _ _ g0
    · rw [Nat.add_assoc]; exact h _ _ g1
    · rw [Nat.add_assoc]; exact h _ _ g2
    · rw [Nat.add_assoc]; exact h _ _ g3
    · rw [Nat.add_assoc]; exact h _ _ g4
    · rw [Nat.add_assoc]; exact h _ _ g5
namespace Pan
/-- As far as it is checked. -/
def rightTo (l : List Pn) (k : Nat) : Prop := ∀ i x, i < k → l[i]? = some x → may x = true ∧ ∀ j y, i = j + 1 → l[j]? = some y → ahead y.p x.p = true
def right (l : List Pn) : Bool := decide (l.length ≤ 2000) && l.all may && chain l
theorem chain_of : ∀ (l : List Pn), (∀ i x y, l[i]? = some x → l[i + 1]? = some y → ahead x.p y.p = true) → chain l = true
  | [], _ => rfl
  | [_], _ => rfl
  | a :: b :: r, h => by
    rw [chain, Bool.and_eq_true]
    exact ⟨h 0 a b rfl rfl, chain_of (b :: r) fun i x y h1 h2 => h (i + 1) x y (by simpa using h1) (by simpa using h2)⟩
theorem of_chain : ∀ (l : List Pn), chain l = true → ∀ i x y, l[i]? = some x → l[i + 1]? = some y → ahead x.p y.p = true
  | [], _, _, _, _, h, _ => by simp at h
  | [a], _, i, x, y, h1, h2 => by simp at h2
  | a :: b :: r, h, 0, x, y, h1, h2 => by
    rw [chain, Bool.and_eq_true] at h
    simp at h1 h2
    subst h1 h2
    exact h.1
  | a :: b :: r, h, i + 1, x, y, h1, h2 => by
    rw [chain, Bool.and_eq_true] at h
    exact of_chain (b :: r) h.2 i x y (by simpa using h1) (by simpa using h2)
theorem right_iff (l : List Pn) : right l = true ↔ l.length ≤ 2000 ∧ (∀ x ∈ l, may x = true) ∧ Ord l := by
  unfold right
  rw [Bool.and_eq_true, Bool.and_eq_true, chain_iff, decide_eq_true_eq, List.all_eq_true, and_assoc]
theorem right_of_to {l : List Pn} (hl : l.length ≤ 2000) (h : rightTo l l.length) : right l = true := by
  unfold right
  rw [Bool.and_eq_true, Bool.and_eq_true, decide_eq_true_eq, List.all_eq_true]
  refine ⟨⟨hl, fun x hx => ?_⟩, chain_of l fun i x y h1 h2 => ?_⟩
  · obtain ⟨i, hi, rfl⟩ := List.getElem_of_mem hx
    exact (h i _ hi (List.getElem?_eq_getElem hi)).1
  · exact (h (i + 1) y (List.getElem?_eq_some_iff.1 h2).1 h2).2 i x rfl h1
theorem to_of_right {l : List Pn} (h : right l = true) (k : Nat) : rightTo l k := by
  unfold right at h
  rw [Bool.and_eq_true, Bool.and_eq_true, decide_eq_true_eq, List.all_eq_true] at h
  intro i x _ hx
  refine ⟨h.1.2 x (List.mem_of_getElem? hx), fun j y e hy => ?_⟩
  subst e
  exact of_chain l h.2 j y x hy hx
theorem not_right {l : List Pn} {k : Nat} {x : Pn} (hk : l[k]? = some x) (h : may x = false ∨ ∃ j y, k = j + 1 ∧ l[j]? = some y ∧ ahead y.p x.p = false) : right l = false := by
  cases hr : right l with
  | false => rfl
  | true =>
    have h1 := to_of_right hr (k + 1) k x (by omega) hk
    rcases h with h | ⟨j, y, e, hy, h⟩
    · rw [h1.1] at h; cases h
    · rw [h1.2 j y e hy] at h; cases h
theorem to_next {l : List Pn} {k : Nat} {x : Pn} (hk : l[k]? = some x) (h : rightTo l k) (hm : may x = true) (ha : ∀ j y, k = j + 1 → l[j]? = some y → ahead y.p x.p = true) : rightTo l (k + 1) := by
  intro i y hi hy
  by_cases e : i = k
  · subst e
    rw [hk] at hy; cases hy
    exact ⟨hm, ha⟩
  · exact h i y (by omega) hy
end Pan
end Go.Proofs.Ythfbcfddfbipfaa
/- Rows of panes merged: what the two ways of doing it come to. -/
namespace Go.Proofs.Ythfbcfddfbipfaa
open Go.RowKit
set_option linter.unusedVariables false
set_option maxRecDepth 8000
namespace Pan
/-- The first p compare below. -/
structure Cut (l : List Pn) (F : Pn → Int) (p : Nat) : Prop where
  le : p ≤ l.length
  lo : ∀ i a, i < p → l[i]? = some a → F a < 0
  hi : ∀ i a, p ≤ i → l[i]? = some a → ¬ F a < 0
def hit (l : List Pn) (F : Pn → Int) (p : Nat) : Bool := match l[p]? with | some a => decide (F a = 0) | none => false
/-- Would the like of x have too great an N? -/
def hitK (k : Int) (x : Pn) (l : List Pn) : Bool := l.any fun a => decide (a.p = x.p) && decide ((Acm.join k a.acc x.acc).n < 1)
def bad (k : Int) : List Pn → List Pn → Bool
  | _, [] => false
  | a, x :: b => hitK k x a || bad k (ins k x a) b
theorem bad_append (k : Int) : ∀ (b a c : List Pn), bad k a (b ++ c) = (bad k a b || bad k (mrg k a b) c)
  | [], a, c => by simp [bad, mrg]
  | x :: b, a, c => by
    rw [List.cons_append, bad, bad, bad_append k b, Bool.or_assoc]
    rfl
theorem mrg_append (k : Int) (a b c : List Pn) : mrg k a (b ++ c) = mrg k (mrg k a b) c := by simp [mrg, List.foldl_append]
theorem mrg_len (k : Int) : ∀ (b a : List Pn), a.length ≤ (mrg k a b).length ∧ (mrg k a b).length ≤ a.length + b.length
  | [], a => by simp [mrg]
  | x :: b, a => by
    have h := mrg_len k b (ins k x a)
    have h2 := len_ins k x a
    show a.length ≤ (mrg k (ins k x a) b).length ∧ _
    have e : mrg k a (x :: b) = mrg k (ins k x a) b := rfl
    rw [e, List.length_cons]
    omega
theorem take_snoc {l : List Pn} {j : Nat} {x : Pn} (h : l[j]? = some x) : l.take (j + 1) = l.take j ++ [x] := by rw [List.take_add_one, h]; rfl
theorem bad_next {k : Int} {a b : List Pn} {j : Nat} {x : Pn} (h : b[j]? = some x) : bad k a (b.take (j + 1)) = (bad k a (b.take j) || hitK k x (mrg k a (b.take j))) := by
  rw [take_snoc h, bad_append, bad, bad, Bool.or_false]
theorem mrg_next {k : Int} {a b : List Pn} {j : Nat} {x : Pn} (h : b[j]? = some x) : mrg k a (b.take (j + 1)) = ins k x (mrg k a (b.take j)) := by
  rw [take_snoc h, mrg_append]; rfl
theorem bad_of_take {k : Int} {a b : List Pn} {j : Nat} (h : bad k a (b.take j) = true) : bad k a b = true := by
  rw [← List.take_append_drop j b, bad_append, h, Bool.true_or]
theorem len_of_take (k : Int) (a b : List Pn) (j : Nat) : (mrg k a (b.take j)).length ≤ (mrg k a b).length := by
  conv => rhs; rw [← List.take_append_drop j b, mrg_append]
  exact (mrg_len k _ _).1
theorem ins_pre {k : Int} {x : Pn} {l : List Pn} : ∀ {ms : List Pn}, (∀ m ∈ ms, ahead m.p x.p = true) → ins k x (ms ++ l) = ms ++ ins k x l
  | [], _ => rfl
  | m :: ms, h => by
    have h0 := h m (by simp)
    rw [List.cons_append, ins, if_neg (ahead_ne h0), if_neg (by rw [ahead_asymm h0]; simp), ins_pre fun b hb => h b (by simp [hb])]
    rfl
theorem cut_ahead {l : List Pn} {x : Pn} {p : Nat} (h : Cut l (fun a => ordN a.p x.p) p) : ∀ m ∈ l.take p, ahead m.p x.p = true := by
  intro m hm
  obtain ⟨i, hi, rfl⟩ := List.getElem_of_mem hm
  rw [List.length_take] at hi
  rw [List.getElem_take]
  exact (ordN_lt _ _).1 (h.lo i _ (by omega) (List.getElem?_eq_getElem (by omega)))
theorem ord_drop {l : List Pn} (h : Ord l) (n : Nat) : Ord (l.drop n) := List.Pairwise.sublist (List.drop_sublist n l) h
theorem ord_get {l : List Pn} (h : Ord l) {i j : Nat} {a b : Pn} (hi : l[i]? = some a) (hj : l[j]? = some b) (hij : i < j) : ahead a.p b.p = true := by
  obtain ⟨h1, rfl⟩ := List.getElem?_eq_some_iff.1 hi
  obtain ⟨h2, rfl⟩ := List.getElem?_eq_some_iff.1 hj
  exact List.pairwise_iff_getElem.1 h i j h1 h2 hij
theorem drop_head {l : List Pn} {p : Nat} {a : Pn} (h : l[p]? = some a) : l.drop p = a :: l.drop (p + 1) := by
  obtain ⟨h1, rfl⟩ := List.getElem?_eq_some_iff.1 h
  exact List.drop_eq_getElem_cons h1
/-- There is its like. -/
theorem ins_hit {k : Int} {l : List Pn} {x a : Pn} {p : Nat} (h : Cut l (fun a => ordN a.p x.p) p) (ha : l[p]? = some a) (he : a.p = x.p) :
    ins k x l = l.take p ++ (⟨a.p, Acm.join k a.acc x.acc⟩ :: l.drop (p + 1)) := by
  conv => lhs; rw [← List.take_append_drop p l]
  rw [ins_pre (cut_ahead h), drop_head ha, ins, if_pos he]
/-- There is none. -/
theorem ins_miss {k : Int} {l : List Pn} {x : Pn} {p : Nat} (h : Cut l (fun a => ordN a.p x.p) p) (hm : hit l (fun a => ordN a.p x.p) p = false) :
    ins k x l = l.take p ++ (x :: l.drop p) := by
  conv => lhs; rw [← List.take_append_drop p l]
  rw [ins_pre (cut_ahead h)]
  cases hp : l[p]? with
  | none =>
    have : l.length ≤ p := List.getElem?_eq_none_iff.1 hp
    rw [List.drop_eq_nil_of_le this]
    rfl
  | some a =>
    have h1 : ordN a.p x.p ≠ 0 := by
      unfold hit at hm
      rw [hp] at hm
      simpa using hm
    have h2 := h.hi p a (Nat.le_refl _) hp
    have h3 : ahead x.p a.p = true := by
      rcases ahead_total x.p a.p with h3 | h3 | h3
      · exact h3
      · exact absurd ((ordN_eq _ _).2 h3.symm) h1
      · exact absurd ((ordN_lt _ _).2 h3) h2
    rw [drop_head hp, ins, if_neg (fun e => h1 ((ordN_eq _ _).2 e)), if_pos h3]
theorem hitK_pre {k : Int} {x : Pn} {l : List Pn} {ms : List Pn} (h : ∀ m ∈ ms, ahead m.p x.p = true) : hitK k x (ms ++ l) = hitK k x l := by
  unfold hitK
  rw [List.any_append]
  have : (ms.any fun a => decide (a.p = x.p) && decide ((Acm.join k a.acc x.acc).n < 1)) = false := by
    rw [List.any_eq_false]
    intro m hm
    rw [decide_eq_false (ahead_ne (h m hm)), Bool.false_and]
    simp
  rw [this, Bool.false_or]
theorem hitK_behind {k : Int} {x : Pn} {l : List Pn} (h : ∀ m ∈ l, ahead x.p m.p = true) : hitK k x l = false := by
  unfold hitK
  rw [List.any_eq_false]
  intro m hm
  rw [decide_eq_false (fun e => ahead_ne (h m hm) e.symm), Bool.false_and]
  simp
theorem mem_drop_get {l : List Pn} {p : Nat} {m : Pn} (h : m ∈ l.drop p) : ∃ i, p ≤ i ∧ l[i]? = some m := by
  obtain ⟨i, hi, rfl⟩ := List.getElem_of_mem h
  rw [List.length_drop] at hi
  refine ⟨p + i, by omega, ?_⟩
  rw [List.getElem_drop, List.getElem?_eq_getElem (by omega)]
theorem hitK_hit {k : Int} {l : List Pn} {x a : Pn} {p : Nat} (ho : Ord l) (h : Cut l (fun a => ordN a.p x.p) p) (ha : l[p]? = some a) (he : a.p = x.p) :
    hitK k x l = decide ((Acm.join k a.acc x.acc).n < 1) := by
  conv => lhs; rw [← List.take_append_drop p l]
  rw [hitK_pre (cut_ahead h), drop_head ha]
  have h2 : hitK k x (l.drop (p + 1)) = false := hitK_behind fun m hm => by
    obtain ⟨i, hi, hg⟩ := mem_drop_get hm
    rw [← he]
    exact ord_get ho ha hg (by omega)
  unfold hitK at h2 ⊢
  rw [List.any_cons, h2, decide_eq_true he, Bool.true_and, Bool.or_false]
theorem hitK_miss {k : Int} {l : List Pn} {x : Pn} {p : Nat} (ho : Ord l) (h : Cut l (fun a => ordN a.p x.p) p) (hm : hit l (fun a => ordN a.p x.p) p = false) : hitK k x l = false := by
  conv => lhs; rw [← List.take_append_drop p l]
  rw [hitK_pre (cut_ahead h)]
  refine hitK_behind fun m hm2 => ?_
  obtain ⟨i, hi, hg⟩ := mem_drop_get hm2
  have h2 := h.hi i m hi hg
  rcases ahead_total x.p m.p with h3 | h3 | h3
  · exact h3
  · exfalso
    have h0 : p < l.length := by have := (List.getElem?_eq_some_iff.1 hg).1; omega
    obtain ⟨a, ha⟩ : ∃ a, l[p]? = some a := ⟨_, List.getElem?_eq_getElem h0⟩
    have h1 : ordN a.p x.p ≠ 0 := by
      unfold hit at hm
      rw [ha] at hm
      simpa using hm
    rcases Nat.lt_or_ge p i with h4 | h4
    · have h5 := ord_get ho ha hg h4
      rw [← h3] at h5
      exact h.hi p a (Nat.le_refl _) ha ((ordN_lt _ _).2 h5)
    · have : i = p := by omega
      subst this
      rw [ha] at hg; cases hg
      exact h1 ((ordN_eq _ _).2 h3.symm)
  · exact absurd ((ordN_lt _ _).2 h3) h2
/-- A place to cut at. -/
theorem cut_ex {l : List Pn} (ho : Ord l) (x : Pl) : ∃ p, Cut l (fun a => ordN a.p x) p := by
  induction l with
  | nil => exact ⟨0, Nat.le_refl _, fun i a h _ => by omega, fun i a _ h => by simp at h⟩
  | cons b r ih =>
    obtain ⟨hb, hr⟩ := List.pairwise_cons.1 ho
    by_cases h : ahead b.p x = true
    · obtain ⟨p, h1, h2, h3⟩ := ih hr
      refine ⟨p + 1, by simp; omega, fun i a hi ha => ?_, fun i a hi ha => ?_⟩
      · rcases i with _ | i
        · simp at ha; subst ha; exact (ordN_lt _ _).2 h
        · exact h2 i a (by omega) (by simpa using ha)
      · rcases i with _ | i
        · omega
        · exact h3 i a (by omega) (by simpa using ha)
    · refine ⟨0, Nat.zero_le _, fun i a hi _ => by omega, fun i a _ ha hlt => ?_⟩
      have h4 := (ordN_lt _ _).1 hlt
      rcases i with _ | i
      · simp at ha; subst ha; exact h h4
      · exact h (ahead_trans (hb a (List.mem_of_getElem? (by simpa using ha))) h4)
/-- What Merge answers, and Add. -/
def mOut (k : Int) (a b : List Pn) : List Pn × Int :=
  if right a && right b && Acm.isK k then (if bad k a b || decide (2000 < (mrg k a b).length) then ([], 3) else (mrg k a b, 0)) else ([], 1)
end Pan
end Go.Proofs.Ythfbcfddfbipfaa
/- Values put into keys' windows, one behind the other: what comes of them. -/
namespace Go.Proofs.Ythfbcfddfbipfaa
open Go.RowKit
set_option linter.unusedVariables false
set_option maxRecDepth 8000
namespace Pan
/-- What Add answers. -/
def aOut (k : Int) (xs : List Pn) (p : Pl) (v : Int) : List Pn × Int := mOut k xs [⟨p, Acm.one k v⟩]
def step (k : Int) (o : Option (List Pn)) (v : Pl × Int) : Option (List Pn) := o.bind fun l => if (aOut k l v.1 v.2).2 = 0 then some (aOut k l v.1 v.2).1 else none
/-- What comes of values, or nothing. -/
def allO (k : Int) (vs : List (Pl × Int)) : Option (List Pn) := vs.foldl (step k) (some [])
theorem allO_next {k : Int} {vs : List (Pl × Int)} {j : Nat} {v : Pl × Int} (h : vs[j]? = some v) : allO k (vs.take (j + 1)) = step k (allO k (vs.take j)) v := by
  unfold allO
  rw [List.take_add_one, h, List.foldl_append]
  rfl
theorem foldl_none (k : Int) : ∀ vs : List (Pl × Int), vs.foldl (step k) none = none
  | [] => rfl
  | v :: vs => foldl_none k vs
theorem allO_none {k : Int} {vs : List (Pl × Int)} {j : Nat} (h : allO k (vs.take j) = none) : allO k vs = none := by
  have e : vs = vs.take j ++ vs.drop j := (List.take_append_drop j vs).symm
  unfold allO at h ⊢
  rw [e, List.foldl_append, h, foldl_none]
def plOk (p : Pl) : Bool := decide (1 ≤ p.key.length ∧ p.key.length ≤ 16 ∧ 0 ≤ p.lo ∧ p.lo < p.hi ∧ p.hi ≤ 1099511627776)
theorem may_ok (x : Pn) : may x = true ↔ plOk x.p = true ∧ 1 ≤ x.acc.n := by
  unfold may plOk
  rw [decide_eq_true_eq, decide_eq_true_eq]
  constructor
  · intro ⟨a, b, c, d, e, f⟩; exact ⟨⟨a, b, c, d, e⟩, f⟩
  · intro ⟨⟨a, b, c, d, e⟩, f⟩; exact ⟨a, b, c, d, e, f⟩
theorem right_one (x : Pn) : right [x] = may x := by simp [right, chain]
/-- All Ns from 1 up to m. -/
def Ns (m : Int) (l : List Pn) : Prop := ∀ a ∈ l, 1 ≤ a.acc.n ∧ a.acc.n ≤ m
theorem join_n {k : Int} (h : 1 ≤ k ∧ k ≤ 5) {x y : Acm.Ac} (hx : 1 ≤ x.n) (hy : 1 ≤ y.n) (hs : x.n + y.n ≤ 9223372036854775807) : (Acm.join k x y).n = x.n + y.n := by
  rw [Acm.join_b h (by omega) (by omega)]
  show Acm.wr (x.n + y.n) = _
  rw [Acm.wr_in (by omega) hs]
theorem hitK_few {k : Int} (h : 1 ≤ k ∧ k ≤ 5) {m : Int} {x : Pn} {l : List Pn} (hl : Ns m l) (hx : 1 ≤ x.acc.n) (hs : m + x.acc.n ≤ 9223372036854775807) : hitK k x l = false := by
  unfold hitK
  rw [List.any_eq_false]
  intro a ha
  have h1 := hl a ha
  rw [join_n h h1.1 hx (by omega), decide_eq_false (show ¬ a.acc.n + x.acc.n < 1 by omega), Bool.and_false]
  simp
theorem ins_ns {k : Int} (h : 1 ≤ k ∧ k ≤ 5) {m : Int} {x : Pn} (hx : 1 ≤ x.acc.n) (hm : 0 ≤ m) : ∀ {l : List Pn}, Ns m l → m + x.acc.n ≤ 9223372036854775807 → Ns (m + x.acc.n) (ins k x l)
  | [], _, _ => fun a ha => by
    have e : a = x := by simpa [ins] using ha
    subst e
    omega
  | b :: l, hl, hs => by
    have hb := hl b (by simp)
    have hr : Ns m l := fun a ha => hl a (by simp [ha])
    rw [ins]
    split
    · intro a ha
      rcases List.mem_cons.1 ha with rfl | ha
      · show 1 ≤ (Acm.join k b.acc x.acc).n ∧ (Acm.join k b.acc x.acc).n ≤ _
        rw [join_n h hb.1 hx (by omega)]
        omega
      · have := hr a ha; omega
    · split
      · intro a ha
        rcases List.mem_cons.1 ha with rfl | ha
        · omega
        · have := hl a ha; omega
      · intro a ha
        rcases List.mem_cons.1 ha with rfl | ha
        · omega
        · exact ins_ns h hx hm hr hs a ha
theorem bad_few {k : Int} (h : 1 ≤ k ∧ k ≤ 5) {n : Int} (hn : 0 ≤ n) : ∀ (b a : List Pn) (m : Int), 0 ≤ m → Ns m a → Ns n b → m + b.length * n ≤ 9223372036854775807 → bad k a b = false
  | [], _, _, _, _, _, _ => rfl
  | x :: b, a, m, hm, ha, hb, hs => by
    have hx := hb x (by simp)
    rw [List.length_cons] at hs
    have e : ((b.length + 1 : Nat) : Int) * n = b.length * n + n := by rw [Int.natCast_add, Int.add_mul]; simp
    rw [e] at hs
    have h0 : 0 ≤ (b.length : Int) * n := Int.mul_nonneg (by omega) hn
    have ih := bad_few h hn b (ins k x a) (m + x.acc.n) (by omega) (ins_ns h hx.1 hm ha (by omega)) (fun c hc => hb c (by simp [hc])) (by omega)
    rw [bad, ih, hitK_few h ha hx.1 (by omega)]
    rfl
theorem ins_may {k : Int} {x : Pn} {l : List Pn} {m : Int} (h : 1 ≤ k ∧ k ≤ 5) (hx : plOk x.p = true) (hn : Ns m (ins k x l)) (hl : ∀ a ∈ l, plOk a.p = true) : ∀ a ∈ ins k x l, may a = true := by
  intro a ha
  refine (may_ok a).2 ⟨?_, (hn a ha).1⟩
  rcases mem_ins ha with e | e
  · rw [e]; exact hx
  · exact hl a e
theorem adds_ok {k : Int} (h : 1 ≤ k ∧ k ≤ 5) {vs : List (Pl × Int)} (hv : ∀ v ∈ vs, plOk v.1 = true) (hl : vs.length ≤ 1000) : right (adds k vs) = true := by
  have hmem : ∀ vs : List (Pl × Int), (∀ v ∈ vs, plOk v.1 = true) → ∀ a ∈ adds k vs, plOk a.p = true := by
    refine list_snoc (by simp [adds]) fun l v ih hv a ha => ?_
    rw [adds_push] at ha
    rcases mem_ins ha with e | e
    · rw [e]; exact hv v (by simp)
    · exact ih (fun v hv' => hv v (by simp [hv'])) a e
  refine (right_iff _).2 ⟨by have := len_adds k vs; omega, fun a ha => (may_ok a).2 ⟨hmem vs hv a ha, (adds_n h (by omega) a ha).1⟩, adds_ord k vs⟩
theorem isK_true {k : Int} (h : 1 ≤ k ∧ k ≤ 5) : Acm.isK k = true := decide_eq_true h
theorem isK_false {k : Int} (h : ¬ (1 ≤ k ∧ k ≤ 5)) : Acm.isK k = false := decide_eq_false h
/-- Two rows whose Ns are few. -/
theorem mOut_few {k : Int} (h : 1 ≤ k ∧ k ≤ 5) {a b : List Pn} (ha : right a = true) (hb : right b = true) (hn : Ns 1000000 a) (hm : Ns 1000000 b) (hl : a.length + b.length ≤ 2000) : mOut k a b = (mrg k a b, 0) := by
  unfold mOut
  rw [ha, hb, isK_true h, bad_few h (by omega) b a 1000000 (by omega) hn hm (by omega), decide_eq_false (by have := (mrg_len k b a).2; omega)]
  rfl
theorem one_ns {k : Int} (h : 1 ≤ k ∧ k ≤ 5) (p : Pl) (v : Int) : Ns 1000000 [⟨p, Acm.one k v⟩] := by
  intro a ha
  have e : a = ⟨p, Acm.one k v⟩ := by simpa using ha
  subst e
  show 1 ≤ (Acm.one k v).n ∧ (Acm.one k v).n ≤ _
  rw [Acm.one_n h]
  omega
theorem aOut_few {k : Int} (h : 1 ≤ k ∧ k ≤ 5) {a : List Pn} (ha : right a = true) (hn : Ns 1000000 a) (hl : a.length ≤ 1999) {p : Pl} (hp : plOk p = true) (v : Int) : aOut k a p v = (ins k ⟨p, Acm.one k v⟩ a, 0) := by
  unfold aOut
  rw [mOut_few h ha (by rw [right_one, may_ok]; exact ⟨hp, by show 1 ≤ (Acm.one k v).n; rw [Acm.one_n h]; omega⟩) hn (one_ns h p v) (by simp; omega)]
  rfl
theorem aOut_not {k : Int} {a : List Pn} {p : Pl} {v : Int} (h : (right a && Acm.isK k && plOk p) = false) : (aOut k a p v).2 = 1 := by
  unfold aOut mOut
  rw [right_one]
  have : (right a && may ⟨p, Acm.one k v⟩ && Acm.isK k) = false := by
    cases h1 : right a
    · rfl
    · cases h2 : Acm.isK k
      · rw [Bool.and_false]
      · rw [h1, h2] at h
        have h3 : plOk p = false := h
        have h4 : may ⟨p, Acm.one k v⟩ = false := by
          cases h5 : may ⟨p, Acm.one k v⟩
          · rfl
          · have := ((may_ok _).1 h5).1
            rw [h3] at this; cases this
        rw [h4]; rfl
  rw [this]
  rfl
/-- A fold that is there. -/
theorem allO_kind {k : Int} (h : 1 ≤ k ∧ k ≤ 5) : ∀ (vs : List (Pl × Int)), vs.length ≤ 1000 → allO k vs = if vs.all (fun v => plOk v.1) then some (adds k vs) else none := by
  refine list_snoc (by simp [allO, adds]) fun l v ih hl => ?_
  rw [List.length_append, List.length_singleton] at hl
  have ih := ih (by omega)
  have e : allO k (l ++ [v]) = step k (allO k l) v := by unfold allO; rw [List.foldl_append]; rfl
  rw [e, ih, List.all_append]
  by_cases h1 : l.all (fun v => plOk v.1) = true
  · have hm : ∀ v ∈ l, plOk v.1 = true := fun v hv => List.all_eq_true.1 h1 v hv
    rw [if_pos h1, h1, Bool.true_and]
    show (if (aOut k (adds k l) v.1 v.2).2 = 0 then some (aOut k (adds k l) v.1 v.2).1 else none) = _
    by_cases h2 : plOk v.1 = true
    · rw [aOut_few h (adds_ok h hm (by omega)) (adds_n h (by omega)) (by have := len_adds k l; omega) h2, adds_push]
      simp [h2]
    · have h2' : plOk v.1 = false := by simpa using h2
      rw [if_neg (by rw [aOut_not (by rw [h2', Bool.and_false])]; omega)]
      simp [h2']
  · rw [if_neg h1, if_neg (by rw [Bool.and_eq_true]; exact fun h => h1 h.1)]
    rfl
/-- One that is not. -/
theorem allO_not {k : Int} (h : ¬ (1 ≤ k ∧ k ≤ 5)) (vs : List (Pl × Int)) : allO k vs = if vs = [] then some [] else none := by
  cases vs with
  | nil => rfl
  | cons v vs =>
    rw [if_neg (by simp)]
    have : step k (some []) v = none := by
      show (if (aOut k [] v.1 v.2).2 = 0 then some (aOut k [] v.1 v.2).1 else none) = none
      rw [if_neg (by rw [aOut_not (by rw [isK_false h, Bool.and_false, Bool.false_and])]; omega)]
    unfold allO
    rw [List.foldl_cons, this, foldl_none]
theorem all_perm {l m : List (Pl × Int)} (hp : l.Perm m) : l.all (fun v => plOk v.1) = m.all (fun v => plOk v.1) := by
  cases h : m.all (fun v => plOk v.1)
  · rw [List.all_eq_false] at h ⊢
    obtain ⟨v, hv, hn⟩ := h
    exact ⟨v, hp.mem_iff.2 hv, hn⟩
  · rw [List.all_eq_true] at h ⊢
    exact fun v hv => h v (hp.mem_iff.1 hv)
/-- THE STAGE'S THEOREM, of what is told. -/
theorem allO_perm {k : Int} {l m : List (Pl × Int)} (hp : l.Perm m) (hl : l.length ≤ 1000) : allO k l = allO k m := by
  by_cases h : 1 ≤ k ∧ k ≤ 5
  · rw [allO_kind h l hl, allO_kind h m (by rw [← hp.length_eq]; exact hl), all_perm hp, adds_perm h hp (by omega)]
  · rw [allO_not h, allO_not h]
    by_cases e : l = []
    · subst e; rw [if_pos rfl, if_pos hp.nil_eq.symm]
    · rw [if_neg e, if_neg (fun e2 => e (by subst e2; exact hp.eq_nil))]
theorem allO_right {k : Int} {l : List (Pl × Int)} {xs : List Pn} (hl : l.length ≤ 1000) (h : allO k l = some xs) : right xs = true := by
  by_cases hk : 1 ≤ k ∧ k ≤ 5
  · rw [allO_kind hk l hl] at h
    split at h
    · rename_i h1
      cases h
      exact adds_ok hk (fun v hv => List.all_eq_true.1 h1 v hv) hl
    · cases h
  · rw [allO_not hk] at h
    split at h
    · cases h; rfl
    · cases h
end Pan
end Go.Proofs.Ythfbcfddfbipfaa
