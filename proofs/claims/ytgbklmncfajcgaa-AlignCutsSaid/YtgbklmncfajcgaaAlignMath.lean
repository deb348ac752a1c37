/- What an offer makes of an aligner; that it stays right. -/
import Derived.Test.YtgbklmncfajcgaaAlignT
namespace Go.Proofs.Ytgbklmncfajcgaa
set_option linter.unusedVariables false
set_option maxRecDepth 8000
namespace Aln
open Itm
structure OkA (a : Al) : Prop where
  len : 1 ≤ a.got.length ∧ a.got.length ≤ 8
  hl : a.held.length = a.got.length
  num : 0 ≤ a.n ∧ a.n ≤ 1073741824
  slot : ∀ (i : Nat) (g : Bool) (l : List It), a.got[i]? = some g → a.held[i]? = some l → slotOk g l = true
  fin : endOk a.n (trues a.got) a.got.length = true
theorem ok_iff (a : Al) : rightA a = true ↔ OkA a := by
  unfold rightA headOk
  simp only [Bool.and_eq_true, decide_eq_true_eq]
  constructor
  · rintro ⟨⟨h1, h2, h3, h4, h5⟩, h6, h7⟩
    exact ⟨⟨h1, h2⟩, h3, ⟨h4, h5⟩, (zip_all h3).1 h6, h7⟩
  · rintro ⟨⟨h1, h2⟩, h3, ⟨h4, h5⟩, h6, h7⟩
    exact ⟨⟨h1, h2, h3, h4, h5⟩, (zip_all h3).2 h6, h7⟩
theorem end_iff {n : Int} {c len : Nat} : endOk n c len = true ↔ (n = 0 ∧ c = 0) ∨ (0 < n ∧ 0 < c ∧ c < len) := by
  unfold endOk
  simp only [Bool.or_eq_true, Bool.and_eq_true, decide_eq_true_eq]
theorem slot_iff {g : Bool} {l : List It} : slotOk g l = true ↔ (g = false → l = []) ∧ l.length ≤ 16 ∧ ∀ x ∈ l, right x = true := by
  unfold slotOk
  simp only [Bool.and_eq_true, Bool.or_eq_true, decide_eq_true_eq, List.isEmpty_iff, List.all_eq_true]
  constructor
  · rintro ⟨h1, h2, h3⟩
    exact ⟨fun e => by rcases h1 with h1 | h1 <;> simp_all, h2, h3⟩
  · rintro ⟨h1, h2, h3⟩
    refine ⟨?_, h2, h3⟩
    cases g
    · exact .inr (h1 rfl)
    · exact .inl rfl
/-- The aligner with an input's barrier got, or an item more held. -/
def behindA (a : Al) (j : Nat) (i : It) : Al :=
  ⟨if a.got[j]? = some false then i.n else a.n, a.got.set j true, if a.got[j]? = some true then a.held.set j (a.held[j]?.getD [] ++ [i]) else a.held⟩
def lateOf : Nat → List (List It) → List Lt
  | _, [] => []
  | k, l :: r => l.map (fun x => ((k : Int), x)) ++ lateOf (k + 1) r
/-- What an offer is answered by. -/
structure An where
  a : Al
  pass : Bool
  done : Int
  late : List Lt
  e : Int
def offerA (a : Al) (input : Int) (i : It) (stage : Int) : An :=
  if rightA a = false ∨ input < 0 ∨ (a.got.length : Int) ≤ input ∨ right i = false then ⟨zA, false, 0, [], 1⟩
  else if a.got[input.toNat]? = some true then
    if (a.held[input.toNat]?.getD []).length = 16 then ⟨zA, false, 0, [], 3⟩ else ⟨behindA a input.toNat i, false, 0, [], 0⟩
  else if i.k ≠ 4 then ⟨a, true, 0, [], 0⟩
  else if a.n ≠ 0 ∧ a.n ≠ i.n then ⟨zA, false, 0, [], stage⟩
  else if (behindA a input.toNat i).got.all id = true then ⟨anew a.got.length, false, i.n, lateOf 0 (behindA a input.toNat i).held, 0⟩
  else ⟨behindA a input.toNat i, false, 0, [], 0⟩
theorem trues_set : ∀ {l : List Bool} {j : Nat}, l[j]? = some false → trues (l.set j true) = trues l + 1
  | [], j, h => by simp at h
  | b :: r, 0, h => by
    simp only [List.getElem?_cons_zero, Option.some.injEq] at h
    subst h
    simp [trues]
  | b :: r, j + 1, h => by
    rw [List.getElem?_cons_succ] at h
    have ih := trues_set h
    unfold trues at ih ⊢
    rw [List.set_cons_succ, List.count_cons, List.count_cons, ih]
    omega
theorem trues_lt {l : List Bool} (h : ¬ l.all id = true) : trues l < l.length := by
  rcases Nat.lt_or_ge (trues l) l.length with h1 | h1
  · exact h1
  · exfalso
    apply h
    have h2 : l.count true = l.length := Nat.le_antisymm List.count_le_length h1
    rw [List.count_eq_length] at h2
    rw [List.all_eq_true]
    intro x hx
    exact (h2 x hx).symm
theorem right_bar {i : It} (h : right i = true) (hk : i.k = 4) : 1 ≤ i.n ∧ i.n ≤ 1073741824 := by
  unfold right at h
  rw [if_neg (by omega), if_neg (by omega), if_neg (by omega), if_pos hk, Bool.and_eq_true] at h
  have := h.1
  unfold wn at this
  exact of_decide_eq_true this
theorem ok_anew {n : Nat} (h1 : 1 ≤ n) (h2 : n ≤ 8) : OkA (anew n) := by
  refine ⟨by simp [anew]; omega, by simp [anew], by simp [anew], fun i g l hg hl => ?_, ?_⟩
  · have hg := List.mem_of_getElem? hg
    have hl := List.mem_of_getElem? hl
    simp only [anew, List.mem_replicate] at hg hl
    rw [hg.2, hl.2]
    rfl
  · rw [end_iff]
    left
    refine ⟨rfl, ?_⟩
    unfold trues anew
    rw [List.count_replicate]
    simp
/-- One more is held. -/
theorem ok_hold {a : Al} (h : OkA a) {j : Nat} {i : It} (hi : right i = true) (hg : a.got[j]? = some true) (hn : (a.held[j]?.getD []).length ≠ 16) : OkA (behindA a j i) := by
  have hj : j < a.got.length := (List.getElem?_eq_some_iff.1 hg).1
  obtain ⟨l, hl⟩ : ∃ l, a.held[j]? = some l := ⟨_, List.getElem?_eq_getElem (by rw [h.hl]; exact hj)⟩
  have hs := slot_iff.1 (h.slot j true l hg hl)
  have e1 : a.got.set j true = a.got := by
    apply List.ext_getElem?
    intro k
    by_cases e : j = k
    · subst e; rw [List.getElem?_set_self hj, hg]
    · rw [List.getElem?_set_ne e]
  have e2 : behindA a j i = ⟨a.n, a.got, a.held.set j (l ++ [i])⟩ := by
    unfold behindA
    rw [hg, hl, e1]
    simp
  rw [hl] at hn
  rw [e2]
  refine ⟨h.len, by simp only [List.length_set]; exact h.hl, h.num, fun k g m hk hm => ?_, h.fin⟩
  simp only at hk hm
  by_cases e : j = k
  · subst e
    rw [List.getElem?_set_self (by rw [h.hl]; exact hj)] at hm
    rw [hg] at hk
    cases hk
    cases hm
    simp only [Option.getD_some] at hn
    refine slot_iff.2 ⟨fun e => (by cases e), by rw [List.length_append]; simp; omega, fun x hx => ?_⟩
    rcases List.mem_append.1 hx with hx | hx
    · exact hs.2.2 x hx
    · rw [List.mem_singleton.1 hx]; exact hi
  · rw [List.getElem?_set_ne e] at hm
    exact h.slot k g m hk hm
/-- One more barrier is got. -/
theorem ok_got {a : Al} (h : OkA a) {j : Nat} {i : It} (hi : right i = true) (hk4 : i.k = 4) (hg : a.got[j]? = some false) (hn : ¬ (behindA a j i).got.all id = true) : OkA (behindA a j i) := by
  have hj : j < a.got.length := (List.getElem?_eq_some_iff.1 hg).1
  have e2 : behindA a j i = ⟨i.n, a.got.set j true, a.held⟩ := by
    unfold behindA
    rw [hg]
    simp
  rw [e2] at hn ⊢
  have hb := right_bar hi hk4
  have hlt := trues_lt hn
  refine ⟨by simp only [List.length_set]; exact h.len, by simp only [List.length_set]; exact h.hl, ⟨by simp only; omega, hb.2⟩, fun k g m hk hm => ?_, end_iff.2 (.inr ⟨by simp only; omega, ?_, hlt⟩)⟩
  · simp only at hk hm
    by_cases e : j = k
    · subst e
      rw [List.getElem?_set_self hj] at hk
      cases hk
      have hs := slot_iff.1 (h.slot j false m hg hm)
      exact slot_iff.2 ⟨fun e => (by cases e), hs.2⟩
    · rw [List.getElem?_set_ne e] at hk
      exact h.slot k g m hk hm
  · simp only
    rw [trues_set hg]
    omega
/-- Behind an offer that is answered OK an aligner is right. -/
theorem offer_ok {a : Al} {input : Int} {i : It} {stage : Int} (hst : stage ≠ 0) (he : (offerA a input i stage).e = 0) : OkA (offerA a input i stage).a := by
  unfold offerA at he ⊢
  split at he
  · cases he
  · rename_i h0
    have hr : OkA a := (ok_iff a).1 (by cases e : rightA a with | true => rfl | false => exact absurd (.inl e) h0)
    have hi : right i = true := by cases e : right i with | true => rfl | false => exact absurd (.inr (.inr (.inr e))) h0
    have hb : ¬ input < 0 ∧ ¬ (a.got.length : Int) ≤ input := ⟨fun e => h0 (.inr (.inl e)), fun e => h0 (.inr (.inr (.inl e)))⟩
    have hj : input.toNat < a.got.length := by omega
    rw [if_neg h0]
    split at he
    · rename_i h1
      rw [if_pos h1]
      split at he
      · cases he
      · rename_i h2
        rw [if_neg h2]
        exact ok_hold hr hi h1 h2
    · rename_i h1
      have hg : a.got[input.toNat]? = some false := by
        have e := List.getElem?_eq_getElem hj
        rw [e] at h1 ⊢
        cases hv : a.got[input.toNat] with
        | false => rfl
        | true => exact absurd (by rw [hv]) h1
      rw [if_neg h1]
      split at he
      · rename_i h2
        rw [if_pos h2]
        exact hr
      · rename_i h2
        rw [if_neg h2]
        split at he
        · exact absurd he hst
        · rename_i h3
          rw [if_neg h3]
          split at he
          · rename_i h4
            rw [if_pos h4]
            exact ok_anew hr.len.1 hr.len.2
          · rename_i h4
            rw [if_neg h4]
            exact ok_got hr hi (by omega) hg h4
end Aln
end Go.Proofs.Ytgbklmncfajcgaa
