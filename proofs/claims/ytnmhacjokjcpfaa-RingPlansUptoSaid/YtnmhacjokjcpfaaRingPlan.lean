/- A plan carried out. -/
import Derived.Test.YtnmhacjokjcpfaaRingMath
namespace Go.Proofs.Ytnmhacjokjcpfaa
set_option linter.unusedVariables false
namespace Rg
/-- The moves from group p on: in order, each where the owners differ, none left out. -/
def Seg (old now : List Int) : Nat → List Mv → Prop
  | p, [] => ∀ i, p ≤ i → i < min old.length now.length → old[i]? = now[i]?
  | p, m :: ms => ∃ g : Nat, m.g = (g : Int) ∧ p ≤ g ∧ g < min old.length now.length ∧ old[g]? = some m.src ∧ now[g]? = some m.to ∧ m.src ≠ m.to ∧ (∀ i, p ≤ i → i < g → old[i]? = now[i]?) ∧ Seg old now (g + 1) ms
theorem Seg.skip {old now : List Int} {p : Nat} (h : old[p]? = now[p]?) : ∀ {ms : List Mv}, Seg old now (p + 1) ms → Seg old now p ms
  | [], hs => fun i h1 h2 => by
    rcases Nat.eq_or_lt_of_le h1 with rfl | h3
    · exact h
    · exact hs i h3 h2
  | m :: ms, ⟨g, e, h1, h2, h3, h4, h5, h6, h7⟩ => ⟨g, e, by omega, h2, h3, h4, h5, fun i a b => by
      rcases Nat.eq_or_lt_of_le a with rfl | h8
      · exact h
      · exact h6 i h8 b, h7⟩
theorem seg_from (old now : List Int) : ∀ (l m : List Int) (p : Nat), old.drop p = l → now.drop p = m → Seg old now p (movesFrom p l m)
  | [], m, p, hl, hm => by
    have : old.length ≤ p := by have h := congrArg List.length hl; simp at h; omega
    have e : movesFrom p [] m = [] := by cases m <;> rfl
    rw [e]
    intro i h1 h2
    omega
  | a :: l, [], p, hl, hm => by
    have : now.length ≤ p := by have h := congrArg List.length hm; simp at h; omega
    show Seg old now p []
    intro i h1 h2
    omega
  | a :: l, b :: m, p, hl, hm => by
    have ha : old[p]? = some a := by have h := congrArg (fun x => x[0]?) hl; simpa using h
    have hb : now[p]? = some b := by have h := congrArg (fun x => x[0]?) hm; simpa using h
    have hl' : old.drop (p + 1) = l := by rw [← List.drop_drop, hl]; rfl
    have hm' : now.drop (p + 1) = m := by rw [← List.drop_drop, hm]; rfl
    have ih := seg_from old now l m (p + 1) hl' hm'
    have h1 := (List.getElem?_eq_some_iff.1 ha).1
    have h2 := (List.getElem?_eq_some_iff.1 hb).1
    unfold movesFrom
    by_cases e : a = b
    · rw [if_pos e]
      exact ih.skip (by rw [ha, hb, e])
    · rw [if_neg e]
      exact ⟨p, rfl, Nat.le_refl _, by omega, ha, hb, e, fun i a b => by omega, ih⟩
theorem seg_moves (old now : List Int) : Seg old now 0 (moves old now) := seg_from old now old now 0 rfl rfl
/-- What the owners are when the moves below p are carried out. -/
structure Done (old now : List Int) (p : Nat) (own : List Int) : Prop where
  len : own.length = min old.length now.length
  new : ∀ i, i < p → i < min old.length now.length → own[i]? = now[i]?
  rest : ∀ i, p ≤ i → i < min old.length now.length → own[i]? = old[i]?
theorem Done.start (old now : List Int) : Done old now 0 (old.take (min old.length now.length)) :=
  ⟨by rw [List.length_take]; omega, fun i h => by omega, fun i _ h => by rw [List.getElem?_take, if_pos h]⟩
theorem Done.next {old now own : List Int} {p g : Nat} {b : Int} (h : Done old now p own) (hp : p ≤ g) (hg : g < min old.length now.length) (hb : now[g]? = some b) (hs : ∀ i, p ≤ i → i < g → old[i]? = now[i]?) : Done old now (g + 1) (own.set g b) := by
  refine ⟨by rw [List.length_set]; exact h.len, fun i h1 h2 => ?_, fun i h1 h2 => ?_⟩
  · by_cases e : g = i
    · subst e
      rw [List.getElem?_set_self (by rw [h.len]; exact hg), hb]
    · rw [List.getElem?_set_ne e]
      by_cases h3 : i < p
      · exact h.new i h3 h2
      · rw [h.rest i (by omega) h2]; exact hs i (by omega) (by omega)
  · rw [List.getElem?_set_ne (by omega)]
    exact h.rest i (by omega) h2
theorem Done.at_ {old now own : List Int} {p g : Nat} {a : Int} (h : Done old now p own) (hp : p ≤ g) (hg : g < min old.length now.length) (ha : old[g]? = some a) : own[g]? = some a := (h.rest g hp hg).trans ha
theorem Done.end_ {old now own : List Int} {p : Nat} (h : Done old now p own) (hs : Seg old now p []) : own = now.take (min old.length now.length) := by
  refine List.ext_getElem? fun i => ?_
  rw [List.getElem?_take]
  by_cases hi : i < min old.length now.length
  · rw [if_pos hi]
    by_cases h3 : i < p
    · exact h.new i h3 hi
    · rw [h.rest i (by omega) hi]; exact hs i (by omega) hi
  · rw [if_neg hi, List.getElem?_eq_none (by rw [h.len]; omega)]
end Rg
end Go.Proofs.Ytnmhacjokjcpfaa
