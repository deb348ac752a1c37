/- Who owns a group: the least point, then the least worker; a worker more or less. -/
import Derived.Test.YtgpcbiballdioaaDoorRingAsgR
namespace Go.Proofs.YtgpcbiballdioaaDoor
open Go.RowKit
set_option linter.unusedVariables false
set_option maxRecDepth 8000
namespace Rg
noncomputable def ptOf (t : Nat) (w : Int) (i : Nat) : Nat := over t (wPt w.toNat i)
/-- The least of the first n + 1 points. -/
noncomputable def least (t : Nat) (w : Int) : Nat → Nat
  | 0 => ptOf t w 0
  | n + 1 => if ptOf t w (n + 1) < least t w n then ptOf t w (n + 1) else least t w n
theorem one_eq (t : Nat) (w : Int) (s : Int × Nat) (i : Nat) : one t w s i = if s.1 = 0 ∨ ptOf t w i < s.2 then (w, ptOf t w i) else s := rfl
theorem some8_eq {t : Nat} {w : Int} (hw : w ≠ 0) (s : Int × Nat) : ∀ n, some8 t w (n + 1) s = if s.1 = 0 ∨ least t w n < s.2 then (w, least t w n) else s
  | 0 => by
    rw [some8_next]
    show one t w s 0 = _
    rw [one_eq]; rfl
  | n + 1 => by
    rw [some8_next, some8_eq hw s n, one_eq]
    by_cases h : s.1 = 0 ∨ least t w n < s.2
    · rw [if_pos h]
      by_cases h2 : ptOf t w (n + 1) < least t w n
      · rw [if_pos (Or.inr h2)]
        have e : least t w (n + 1) = ptOf t w (n + 1) := if_pos h2
        rw [e, if_pos]
        rcases h with h | h
        · exact .inl h
        · exact .inr (by omega)
      · rw [if_neg (by rintro (h3 | h3); exact hw h3; exact h2 h3)]
        have e : least t w (n + 1) = least t w n := if_neg h2
        rw [e, if_pos h]
    · rw [if_neg h]
      by_cases h2 : ptOf t w (n + 1) < least t w n
      · have e : least t w (n + 1) = ptOf t w (n + 1) := if_pos h2
        rw [e]
      · have e : least t w (n + 1) = least t w n := if_neg h2
        rw [e, if_neg h, if_neg]
        rintro (h3 | h3)
        · exact h (.inl h3)
        · exact h (.inr (by omega))
/-- A worker's least point. -/
noncomputable def low (t : Nat) (w : Int) : Nat := least t w 7
theorem low_eq (t : Nat) (w : Int) : low t w = least t w 7 := rfl
/-- Ahead of all others of the list, itself one of them. -/
def Owns (t : Nat) (l : List Int) (o : Int) : Prop := o ∈ l ∧ ∀ x ∈ l, low t o < low t x ∨ (low t o = low t x ∧ o ≤ x)
theorem Owns.uniq {t : Nat} {l : List Int} {a b : Int} (ha : Owns t l a) (hb : Owns t l b) : a = b := by
  have h1 := ha.2 b hb.1
  have h2 := hb.2 a ha.1
  omega
theorem Owns.sub {t : Nat} {l m : List Int} {o : Int} (h : Owns t l o) (ho : o ∈ m) (hs : ∀ x ∈ m, x ∈ l) : Owns t m o := ⟨ho, fun x hx => h.2 x (hs x hx)⟩
attribute [irreducible] low
theorem Owns.one (t : Nat) (w : Int) : Owns t [w] w := ⟨List.mem_singleton.2 rfl, fun x hx => by rw [List.mem_singleton.1 hx]; exact .inr ⟨rfl, Int.le_refl _⟩⟩
def Inv (t : Nat) (l : List Int) (s : Int × Nat) : Prop := (l = [] ∧ s = (0, 0)) ∨ (s.1 ≠ 0 ∧ s.2 = low t s.1 ∧ Owns t l s.1)
theorem some8_low {t : Nat} {w : Int} (hw : w ≠ 0) (s : Int × Nat) : some8 t w 8 s = if s.1 = 0 ∨ low t w < s.2 then (w, low t w) else s := by
  rw [low_eq]; exact some8_eq hw s 7
theorem Inv.next {t : Nat} {l : List Int} {s : Int × Nat} {w : Int} (h : Inv t l s) (hw : 0 < w) (hl : ∀ x ∈ l, x < w) : Inv t (l ++ [w]) (some8 t w 8 s) := by
  have hw0 : w ≠ 0 := by omega
  rw [some8_low hw0]
  right
  rcases h with ⟨rfl, rfl⟩ | ⟨h0, h1, h2⟩
  · rw [if_pos (.inl rfl)]
    exact ⟨hw0, rfl, Owns.one t w⟩
  · by_cases hc : low t w < s.2
    · rw [if_pos (.inr hc)]
      have h3 : Owns t (l ++ [w]) w := by
        refine ⟨List.mem_append.2 (.inr (List.mem_singleton.2 rfl)), fun x hx => ?_⟩
        rcases List.mem_append.1 hx with hx | hx
        · have := h2.2 x hx
          rw [h1] at hc
          left
          omega
        · rw [List.mem_singleton.1 hx]; exact .inr ⟨rfl, Int.le_refl _⟩
      exact ⟨hw0, rfl, h3⟩
    · rw [if_neg (by rintro (h | h); exact h0 h; exact hc h)]
      refine ⟨h0, h1, List.mem_append.2 (.inl h2.1), fun x hx => ?_⟩
      rcases List.mem_append.1 hx with hx | hx
      · exact h2.2 x hx
      · rw [List.mem_singleton.1 hx]
        have := hl _ h2.1
        rw [h1] at hc
        omega
theorem rise_lt : ∀ {p : Int} {l : List Int} {x : Int} {m : List Int}, rise p (l ++ x :: m) = true → ∀ y ∈ l, y < x
  | _, [], _, _, _, y, hy => by simp at hy
  | p, z :: l, x, m, h, y, hy => by
    simp only [List.cons_append, rise, Bool.and_eq_true, decide_eq_true_eq] at h
    rcases List.mem_cons.1 hy with rfl | hy
    · exact (rise_mem h.2 x (by simp)).1
    · exact rise_lt h.2 y hy
theorem best_inv (t : Nat) : ∀ (m l : List Int) (s : Int × Nat), rise 0 (l ++ m) = true → Inv t l s → Inv t (l ++ m) (m.foldl (fun s w => some8 t w 8 s) s)
  | [], l, s, _, h => by rw [List.append_nil]; exact h
  | w :: m, l, s, hr, h => by
    have h1 := h.next (w := w) (rise_mem hr w (by simp)).1 (rise_lt hr)
    have h2 := best_inv t m (l ++ [w]) _ (by rw [List.append_assoc]; exact hr) h1
    rw [List.append_assoc] at h2
    exact h2
/-- The owner, as the document has it: the least point at or above the group's, among equals the least worker. -/
theorem owner_owns {l : List Int} (h : right l = true) (g : Nat) : Owns (gPt g) l (owner l g) := by
  unfold right at h
  rw [Bool.and_eq_true, decide_eq_true_eq] at h
  have h1 := best_inv (gPt g) l [] (0, 0) h.2 (.inl ⟨rfl, rfl⟩)
  rw [List.nil_append] at h1
  rcases h1 with ⟨h2, _⟩ | ⟨_, _, h2⟩
  · rw [h2] at h; simp at h
  · exact h2
theorem owner_mem {l : List Int} (h : right l = true) (g : Nat) : owner l g ∈ l := (owner_owns h g).1
/-- With a worker less the others' groups stay. -/
theorem owner_less {l m : List Int} (hl : right l = true) (hm : right m = true) {w : Int} (hs : ∀ x, x ∈ m ↔ x ∈ l ∧ x ≠ w) (g : Nat) : (owner l g = w ↔ owner l g ≠ owner m g) ∧ (owner m g ≠ owner l g → owner l g = w) := by
  have h1 := owner_owns hl g
  have h2 := owner_owns hm g
  have key : owner l g ≠ w → owner m g = owner l g := fun h => h2.uniq (h1.sub ((hs _).2 ⟨h1.1, h⟩) fun x hx => ((hs x).1 hx).1)
  refine ⟨⟨fun e he => ?_, fun h => ?_⟩, fun h => ?_⟩
  · have := ((hs _).1 h2.1).2
    omega
  · by_cases e : owner l g = w
    · exact e
    · exact absurd (key e).symm h
  · by_cases e : owner l g = w
    · exact e
    · exact absurd (key e) h
/-- The list without its k-th. -/
theorem rise_less : ∀ {p : Int} {l : List Int} (k : Nat), rise p l = true → rise p (l.eraseIdx k) = true
  | _, [], k, h => by simp [rise]
  | p, y :: r, 0, h => by
    simp only [rise, Bool.and_eq_true, decide_eq_true_eq] at h
    show rise p r = true
    cases r with
    | nil => rfl
    | cons z r =>
      have h2 := h.2
      simp only [rise, Bool.and_eq_true, decide_eq_true_eq] at h2 ⊢
      exact ⟨⟨by omega, h2.1.2⟩, h2.2⟩
  | p, y :: r, k + 1, h => by
    simp only [rise, Bool.and_eq_true, List.eraseIdx_cons_succ] at h ⊢
    exact ⟨h.1, rise_less k h.2⟩
theorem right_less {l : List Int} (h : right l = true) (h2 : 2 ≤ l.length) (k : Nat) : right (l.eraseIdx k) = true := by
  unfold right at h ⊢
  rw [Bool.and_eq_true, decide_eq_true_eq] at h ⊢
  refine ⟨?_, rise_less k h.2⟩
  rw [List.length_eraseIdx]
  split <;> omega
theorem mem_less : ∀ {p : Int} {l : List Int} {k : Nat} {w : Int}, rise p l = true → l[k]? = some w → ∀ x, x ∈ l.eraseIdx k ↔ x ∈ l ∧ x ≠ w
  | _, [], _, _, _, hk, _ => by simp at hk
  | p, y :: r, 0, w, h, hk, x => by
    simp only [List.getElem?_cons_zero, Option.some.injEq] at hk
    subst hk
    simp only [rise, Bool.and_eq_true, decide_eq_true_eq] at h
    show x ∈ r ↔ _
    constructor
    · intro hx
      have := (rise_mem h.2 x hx).1
      exact ⟨List.mem_cons_of_mem _ hx, by omega⟩
    · rintro ⟨hx, hne⟩
      rcases List.mem_cons.1 hx with rfl | hx
      · exact absurd rfl hne
      · exact hx
  | p, y :: r, k + 1, w, h, hk, x => by
    simp only [rise, Bool.and_eq_true, decide_eq_true_eq] at h
    rw [List.getElem?_cons_succ] at hk
    have ih := mem_less h.2 hk x
    rw [List.eraseIdx_cons_succ, List.mem_cons, List.mem_cons, ih]
    have hw := (rise_mem h.2 w (List.mem_of_getElem? hk)).1
    constructor
    · rintro (rfl | h3)
      · exact ⟨.inl rfl, by omega⟩
      · exact ⟨.inr h3.1, h3.2⟩
    · rintro ⟨rfl | h3, h4⟩
      · exact .inl rfl
      · exact .inr ⟨h3, h4⟩
theorem right_rise {l : List Int} (h : right l = true) : rise 0 l = true := by
  unfold right at h
  rw [Bool.and_eq_true] at h
  exact h.2
/-- P11.4. -/
theorem keeps {l : List Int} (h : right l = true) (h2 : 2 ≤ l.length) {k : Nat} {w : Int} (hk : l[k]? = some w) (g : Nat) : (owner l g = w ↔ owner l g ≠ owner (l.eraseIdx k) g) ∧ (owner (l.eraseIdx k) g ≠ owner l g → owner l g = w) :=
  owner_less h (right_less h h2 k) (mem_less (right_rise h) hk) g
end Rg
end Go.Proofs.YtgpcbiballdioaaDoor
