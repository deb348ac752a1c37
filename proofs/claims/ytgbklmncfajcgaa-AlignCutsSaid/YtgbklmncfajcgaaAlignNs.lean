/- Rows of rows of items, the call's own, apart from one another. -/
import Derived.Test.YtgbklmncfajcgaaAlignS
import Derived.Test.YtgbklmncfajcgaaGenOwn
namespace Go.Proofs.Ytgbklmncfajcgaa
open Go.ChangeShapes Go.WideShapes Go.ChangeAt Go.RowKit
set_option linter.unusedVariables false
set_option maxRecDepth 8000
namespace Aln
open Gen (TellsB TellsI row_one flat_len flat_get Mine)
open Itm
theorem set_at {α : Type} {l : List α} {k i : Nat} {x y : α} (h : (l.set k x)[i]? = some y) : (i = k ∧ y = x) ∨ (i ≠ k ∧ l[i]? = some y) := by
  by_cases e : i = k
  · subst e
    left
    have hlt : i < (l.set i x).length := (List.getElem?_eq_some_iff.1 h).1
    rw [List.length_set] at hlt
    rw [List.getElem?_set_self hlt] at h
    cases h
    exact ⟨rfl, rfl⟩
  · right
    rw [List.getElem?_set_ne (Ne.symm e)] at h
    exact ⟨e, h⟩
abbrev hv (x : Hd) : Value := .slice x.1 x.2.2.length x.2.1
/-- Rows of items in a row, all the call's own, apart from one another. -/
structure Nest (w : World) (B : Nat) (v : Value) (n : Nat) (hs : List Hd) : Prop where
  outer : w.ownsRow B 30 1 v n (hsc hs)
  each : ∀ x ∈ hs, OwnI w B x
  apart : ∀ (i j : Nat) (x y : Hd), i ≠ j → hs[i]? = some x → hs[j]? = some y → ∀ k, (hv x).ownBlock = some k → (hv y).ownBlock ≠ some k
theorem Nest.next {w w' : World} {B : Nat} {v : Value} {n : Nat} {hs : List Hd} (h : Nest w B v n hs) (hb : Below w.heap.size w w') : Nest w' B v n hs := ⟨own_upA h.outer hb, fun x hx => own_upA (h.each x hx) hb, h.apart⟩
theorem Nest.len {w : World} {B : Nat} {v : Value} {n : Nat} {hs : List Hd} (h : Nest w B v n hs) : n = hs.length := by
  have := h.outer.1
  rw [lenH] at this
  omega
/-- A new row, of a block that none has, behind them. -/
theorem Nest.push {w w' : World} {B : Nat} {v v' : Value} {n : Nat} {hs : List Hd} {y : Hd} (h : Nest w B v n hs) (hy : OwnI w B y) (hn : ∀ x ∈ hs, ∀ k, (hv x).ownBlock = some k → (hv y).ownBlock ≠ some k) (hg : w.grownBy w' v.ownBlock) (ho : w'.ownsRow B 30 1 v' (n + 1) (hsc (hs ++ [y]))) : Nest w' B v' (n + 1) (hs ++ [y]) := by
  refine ⟨ho, fun x hx => ?_, fun i j x z hij hx hz k hk e => ?_⟩
  · rcases List.mem_append.1 hx with hx | hx
    · exact own_grownA (h.each x hx) hg (own_kindA (h.each x hx) h.outer it_rows)
    · rw [List.mem_singleton.1 hx]; exact own_grownA hy hg (own_kindA hy h.outer it_rows)
  · have split : ∀ (i : Nat) (x : Hd), (hs ++ [y])[i]? = some x → hs[i]? = some x ∨ (i = hs.length ∧ x = y) := by
      intro i x hx
      rcases Nat.lt_or_ge i hs.length with h1 | h1
      · rw [List.getElem?_append_left h1] at hx; exact .inl hx
      · rw [List.getElem?_append_right h1] at hx
        have h2 := (List.getElem?_eq_some_iff.1 hx).1
        simp at h2
        have h3 : i = hs.length := by omega
        subst h3
        rw [Nat.sub_self] at hx
        simp at hx
        exact .inr ⟨rfl, hx.symm⟩
    rcases split i x hx with h1 | ⟨h1, h1'⟩
    · rcases split j z hz with h2 | ⟨h2, h2'⟩
      · exact h.apart i j x z hij h1 h2 k hk e
      · subst h2'
        exact hn x (List.mem_of_getElem? h1) k hk e
    · rcases split j z hz with h2 | ⟨h2, h2'⟩
      · subst h1'
        exact hn z (List.mem_of_getElem? h2) k e hk
      · omega
/-- One of them has grown; it lies in the row again. -/
theorem Nest.grow {w w1 : World} {B g n c : Nat} {hs : List Hd} {i : Nat} {x y : Hd} (h : Nest w B (.slice (some ⟨g, 0, none⟩) n c) n hs) (hx : hs[i]? = some x) (hg : w.grownBy w1 (hv x).ownBlock) (hy : OwnI w1 B y) (hl : (hv y).ownBlock = (hv x).ownBlock ∨ (hv y).ownBlock = some w.heap.size ∨ (hv y).ownBlock = none) :
    Nest (w1.setCell ⟨g, i, none⟩ (hv y)) B (.slice (some ⟨g, 0, none⟩) n c) n (hs.set i y) := by
  have hil := (List.getElem?_eq_some_iff.1 hx).1
  have ho1 : w1.ownsRow B 30 1 (.slice (some ⟨g, 0, none⟩) n c) n (hsc hs) := own_grownA h.outer hg (own_kindA h.outer (h.each x (List.mem_of_getElem? hx)) (Ne.symm it_rows))
  have hset : (hsc hs).set i (hv y) = hsc (hs.set i y) := by
    clear h ho1 hx hil
    induction hs generalizing i with
    | nil => rfl
    | cons a r ih =>
      cases i with
      | zero => rfl
      | succ i =>
        show (hsL a ++ hsc r).set (i + 1) _ = hsL a ++ hsc (r.set i y)
        rw [← ih]
        rfl
  have ho2 := (ho1.stored i (hv y)).1
  rw [hset] at ho2
  have gb : ∀ k, (hv y).ownBlock = some k → k ≠ g := fun k hk e => by
    subst e
    exact own_kindA hy ho1 it_rows k hk rfl
  refine ⟨ho2, fun z hz => ?_, fun a b p q hab hp hq k hk e => ?_⟩
  · obtain ⟨j, hj⟩ := List.getElem?_of_mem hz
    rcases set_at hj with ⟨e, e2⟩ | ⟨e, hj⟩
    · subst e2
      exact own_setA hy ⟨g, i, none⟩ (fun e => gb g e rfl) _
    · have hz0 := h.each z (List.mem_of_getElem? hj)
      have hz1 : OwnI w1 B z := own_grownA hz0 hg (fun k hk => h.apart j i z x e hj hx k hk)
      exact own_setA hz1 ⟨g, i, none⟩ (fun e => own_kindA hz1 ho1 it_rows g e rfl) _
  · have other : ∀ (j : Nat) (z : Hd), j ≠ i → hs[j]? = some z → ∀ k, (hv z).ownBlock = some k → (hv y).ownBlock ≠ some k := by
      intro j z hji hz k hk e
      rcases hl with hl | hl | hl
      · rw [hl] at e
        exact h.apart j i z x hji hz hx k hk e
      · rw [hl] at e
        have := ((h.each z (List.mem_of_getElem? hz)).lt k hk).2
        cases e
        omega
      · rw [hl] at e; cases e
    rcases set_at hp with ⟨e1, e2⟩ | ⟨e1, hp2⟩
    · rcases set_at hq with ⟨e3, e4⟩ | ⟨e3, hq2⟩
      · omega
      · subst e2
        exact other b q e3 hq2 k e hk
    · rcases set_at hq with ⟨e3, e4⟩ | ⟨e3, hq2⟩
      · subst e4
        exact other a p e1 hp2 k hk e
      · exact h.apart a b p q hab hp2 hq2 k hk e
theorem own_one1 (w : World) (T : TypeId) (v : Value) : (w.alloc (.cells #[v] T)).ownsRow w.heap.size T 1 (.slice (some ⟨w.heap.size, 0, none⟩) 1 1) 1 [v] :=
  ⟨rfl, .inr ⟨w.heap.size, 1, #[v], rfl, Nat.le_refl _, heap_alloc_new w _, Nat.le_refl _, by unfold maxLen; omega, rfl, rfl⟩⟩
theorem outer_block {w : World} {B n c : Nat} {A : Option Addr} {hs : List Hd} (h : w.ownsRow B 30 1 (.slice A n c) n (hsc hs)) (hn : 0 < n) : ∃ g, A = some ⟨g, 0, none⟩ := by
  obtain ⟨_, ⟨e, e0⟩ | ⟨g, cap, cur, e, _⟩⟩ := h
  · cases e; omega
  · cases e; exact ⟨g, rfl⟩
theorem outer_cell {w : World} {B n c g : Nat} {hs : List Hd} (h : w.ownsRow B 30 1 (.slice (some ⟨g, 0, none⟩) n c) n (hsc hs)) {i : Nat} {x : Hd} (hx : hs[i]? = some x) : w.cell? ⟨g, i, none⟩ = some (hv x) ∧ w.frozen? ⟨g, i, none⟩ = false := by
  have hi := (List.getElem?_eq_some_iff.1 hx).1
  have hl := h.1
  rw [lenH] at hl
  have f0 := flat_get hsL hsL_len (n := 1) (j := 0) hx (by omega)
  refine ⟨?_, h.frozenAt _⟩
  rw [h.cellAt _ (by omega)]
  simpa using f0
end Aln
end Go.Proofs.Ytgbklmncfajcgaa
