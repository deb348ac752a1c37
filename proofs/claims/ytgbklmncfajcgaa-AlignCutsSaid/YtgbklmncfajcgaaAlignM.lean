/- What the laws AlignFresh, AlignOne, AlignHolds rest on. No code. -/
import Derived.Test.YtgbklmncfajcgaaAlignS
namespace Go.Proofs.Ytgbklmncfajcgaa
set_option linter.unusedVariables false
set_option maxRecDepth 8000
namespace Aln
open Itm
/-- How an offer is answered. -/
inductive How (a : Al) (j : Nat) (i : It) (st : Int) (o : An) : Prop where
  | bad (hi : right i = false) (h : o = ⟨zA, false, 0, [], 1⟩)
  | full (l : List It) (hg : a.got[j]? = some true) (hl : a.held[j]? = some l) (hn : l.length = 16) (h : o = ⟨zA, false, 0, [], 3⟩)
  | hold (l : List It) (hi : right i = true) (hg : a.got[j]? = some true) (hl : a.held[j]? = some l) (hn : l.length < 16) (h : o = ⟨behindA a j i, false, 0, [], 0⟩)
  | pass (hi : right i = true) (hg : a.got[j]? = some false) (hk : i.k ≠ 4) (h : o = ⟨a, true, 0, [], 0⟩)
  | stage (hi : right i = true) (hg : a.got[j]? = some false) (hk : i.k = 4) (hn : a.n ≠ 0 ∧ a.n ≠ i.n) (h : o = ⟨zA, false, 0, [], st⟩)
  | got (hi : right i = true) (hg : a.got[j]? = some false) (hk : i.k = 4) (hn : a.n = 0 ∨ a.n = i.n) (hb : ¬ (behindA a j i).got.all id = true) (h : o = ⟨behindA a j i, false, 0, [], 0⟩)
  | all (hi : right i = true) (hg : a.got[j]? = some false) (hk : i.k = 4) (hn : a.n = 0 ∨ a.n = i.n) (hb : (behindA a j i).got.all id = true) (h : o = ⟨anew a.got.length, false, i.n, lateOf 0 a.held, 0⟩)
theorem how {a : Al} (ha : rightA a = true) {j : Nat} (hj : j < a.got.length) (i : It) (st : Int) : How a j i st (offerA a (j : Int) i st) := by
  have hr := (ok_iff a).1 ha
  obtain ⟨o, ho⟩ : ∃ o, o = offerA a (j : Int) i st := ⟨_, rfl⟩
  rw [← ho]
  unfold offerA at ho
  rw [Int.toNat_natCast] at ho
  cases hi : right i with
  | false => exact .bad hi (by rw [ho, if_pos (.inr (.inr (.inr hi)))])
  | true =>
    rw [if_neg (by rw [ha, hi]; simp; omega)] at ho
    obtain ⟨g, hg⟩ : ∃ g, a.got[j]? = some g := ⟨_, List.getElem?_eq_getElem hj⟩
    obtain ⟨l, hl⟩ : ∃ l, a.held[j]? = some l := ⟨_, List.getElem?_eq_getElem (by rw [hr.hl]; exact hj)⟩
    cases g with
    | true =>
      rw [if_pos hg, hl] at ho
      simp only [Option.getD_some] at ho
      by_cases h16 : l.length = 16
      · rw [if_pos h16] at ho
        exact .full l hg hl h16 ho
      · rw [if_neg h16] at ho
        have := (slot_iff.1 (hr.slot j true l hg hl)).2.1
        exact .hold l hi hg hl (by omega) ho
    | false =>
      rw [if_neg (by rw [hg]; simp)] at ho
      by_cases hk : i.k = 4
      · rw [if_neg (by simpa using hk)] at ho
        by_cases hn : a.n ≠ 0 ∧ a.n ≠ i.n
        · rw [if_pos hn] at ho
          exact .stage hi hg hk hn ho
        · rw [if_neg hn] at ho
          have hn2 : a.n = 0 ∨ a.n = i.n := by
            by_cases h0 : a.n = 0
            · exact .inl h0
            · by_cases h1 : a.n = i.n
              · exact .inr h1
              · exact absurd ⟨h0, h1⟩ hn
          by_cases hb : (behindA a j i).got.all id = true
          · rw [if_pos hb] at ho
            have hh : (behindA a j i).held = a.held := by unfold behindA; rw [hg]; simp
            rw [hh] at ho
            exact .all hi hg hk hn2 hb ho
          · rw [if_neg hb] at ho
            exact .got hi hg hk hn2 hb ho
      · rw [if_pos (by simpa using hk)] at ho
        exact .pass hi hg hk ho
/-- What is whole, or not. -/
theorem done_or (a : Al) (input : Int) (i : It) (st : Int) : ((offerA a input i st).done = 0 ∧ (offerA a input i st).late = []) ∨
    ((offerA a input i st).done ≠ 0 ∧ offerA a input i st = ⟨anew a.got.length, false, i.n, lateOf 0 a.held, 0⟩ ∧ OkA a) := by
  by_cases h0 : rightA a = false ∨ input < 0 ∨ (a.got.length : Int) ≤ input
  · left
    unfold offerA
    rw [if_pos (by rcases h0 with h | h | h; exact .inl h; exact .inr (.inl h); exact .inr (.inr (.inl h)))]
    exact ⟨rfl, rfl⟩
  · have ha : rightA a = true := by cases e : rightA a with | true => rfl | false => exact absurd (.inl e) h0
    obtain ⟨j, hj⟩ : ∃ j : Nat, input = (j : Int) := ⟨input.toNat, by have : ¬ input < 0 := fun e => h0 (.inr (.inl e)); omega⟩
    subst hj
    have hjn : j < a.got.length := by have : ¬ (a.got.length : Int) ≤ (j : Int) := fun e => h0 (.inr (.inr e)); omega
    rcases how ha hjn i st with ⟨_, h⟩ | ⟨l, _, _, _, h⟩ | ⟨l, _, _, _, _, h⟩ | ⟨_, _, _, h⟩ | ⟨_, _, _, _, h⟩ | ⟨_, _, _, _, _, h⟩ | ⟨hi, _, hk, _, _, h⟩
    all_goals first
      | (left; rw [h]; exact ⟨rfl, rfl⟩)
      | (right; refine ⟨?_, h, (ok_iff a).1 ha⟩; rw [h]; have := right_bar hi hk; show i.n ≠ 0; omega)
/-- With one input. -/
theorem one_offer (x : It) : offerA (anew 1) 0 x 190 = if right x = false then ⟨zA, false, 0, [], 1⟩ else if x.k ≠ 4 then ⟨anew 1, true, 0, [], 0⟩ else ⟨anew 1, false, x.n, [], 0⟩ := by
  have ha : rightA (anew 1) = true := (ok_iff _).2 (ok_anew (by omega) (by omega))
  rcases how ha (j := 0) (show 0 < 1 by omega) x 190 with ⟨hi, h⟩ | ⟨l, hg, _, _, h⟩ | ⟨l, _, hg, _, _, h⟩ | ⟨hi, _, hk, h⟩ | ⟨_, _, _, hn, h⟩ | ⟨_, _, _, _, hb, h⟩ | ⟨hi, _, hk, _, _, h⟩
  · rw [if_pos hi]; exact h
  · cases hg
  · cases hg
  · rw [if_neg (by rw [hi]; simp), if_pos hk]; exact h
  · exact absurd rfl hn.1
  · exact absurd (by unfold behindA; rfl) hb
  · rw [if_neg (by rw [hi]; simp), if_neg (by simpa using hk)]; exact h
theorem one_room : roomO (anew 1) 0 = 16 := by
  have ha : rightA (anew 1) = true := (ok_iff _).2 (ok_anew (by omega) (by omega))
  exact room_is ha (j := 0) (l := []) (show 0 < 1 by omega) rfl
/-- One more is held: one less may be. -/
theorem hold_room {a : Al} (ha : rightA a = true) {j : Nat} {i : It} (hi : right i = true) {l : List It} (hg : a.got[j]? = some true) (hl : a.held[j]? = some l) (hn : l.length < 16) :
    roomO a (j : Int) = 16 - (l.length : Int) ∧ roomO (behindA a j i) (j : Int) = 16 - (l.length : Int) - 1 := by
  have hj := (List.getElem?_eq_some_iff.1 hg).1
  have hr := (ok_iff a).1 ha
  have hb := (ok_iff _).2 (ok_hold hr hi hg (by rw [hl]; simp; omega))
  refine ⟨room_is ha hj hl, ?_⟩
  have e : (behindA a j i).held[j]? = some (l ++ [i]) := by
    unfold behindA
    simp only [hg, if_true, hl, Option.getD_some]
    rw [List.getElem?_set_self (by rw [hr.hl]; exact hj)]
  rw [room_is hb (by rw [behind_len.1]; exact hj) e, List.length_append]
  simp
  omega
theorem room_full {a : Al} (ha : rightA a = true) {j : Nat} {l : List It} (hj : j < a.got.length) (hl : a.held[j]? = some l) (hn : l.length = 16) : roomO a (j : Int) = 0 := by
  rw [room_is ha hj hl, hn]; rfl
theorem room_in (a : Al) (input : Int) : 0 ≤ roomO a input ∧ roomO a input ≤ 16 := by
  unfold roomO
  split
  · omega
  · rename_i h
    have ha : OkA a := (ok_iff a).1 (by cases e : rightA a with | true => rfl | false => exact absurd (.inl e) h)
    cases e : a.held[input.toNat]? with
    | none => simp
    | some l =>
      have := ok_held ha l (List.mem_of_getElem? e)
      simp
      omega
theorem offer_len {a : Al} {j : Nat} {i : It} (ha : rightA a = true) (hj : j < a.got.length) (he : (offerA a (j : Int) i 190).e = 0) : (offerA a (j : Int) i 190).a.got.length = a.got.length := by
  rcases how ha hj i 190 with ⟨_, h⟩ | ⟨l, _, _, _, h⟩ | ⟨l, _, _, _, _, h⟩ | ⟨_, _, _, h⟩ | ⟨_, _, _, _, h⟩ | ⟨_, _, _, _, _, h⟩ | ⟨hi, _, hk, _, _, h⟩
  all_goals first
    | (rw [h] at he; cases he; done)
    | (rw [h]; exact behind_len.1)
    | (rw [h]; done)
    | (rw [h]; exact List.length_replicate)
end Aln
end Go.Proofs.Ytgbklmncfajcgaa
