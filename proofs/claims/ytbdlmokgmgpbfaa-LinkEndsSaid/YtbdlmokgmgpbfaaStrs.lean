/- A slice of strings that came in, as a row. -/
import Derived.Test.YtbdlmokgmgpbfaaMem
import Derived.Deep.Strs
namespace Go.Proofs.Ytbdlmokgmgpbfaa
open Go.ChangeShapes Go.WideShapes Go.ChangeAt Go.RowKit
set_option linter.unusedVariables false
abbrev strv (b : List UInt8) : Value := .string ⟨b.toArray⟩
theorem strv_ones {bs : List (List UInt8)} : ∀ u ∈ bs.map strv, u.oneCell' = true := by
  intro u hu
  obtain ⟨z, _, rfl⟩ := List.mem_map.1 hu
  rfl
theorem openStrs {H : Type} {enc : TypeId × Value → H} {P : Program} {W : World} {base : Nat} {sp : Nat → Bool} {held : Bool} {t e : TypeId} {v : Value} {d : DataW H} {ps : List MemPlace}
    {r : Reach} {b0 : Nat} (ht : P.underlying t = some (.slice e)) (he : P.underlying e = some .string) (hc : P.cellsOf e = 1) (hval : Value.okWide P W r b0 t v) (h : DataW.Trod enc P W base sp held t v d ps) :
    ∃ (A : Option Addr) (c : Nat) (bs : List (List UInt8)), v = .slice A bs.length c ∧ bs.length ≤ c ∧ c ≤ maxLen ∧ Row W A (bs.map strv) ∧ (∀ b ∈ bs, b.length ≤ maxLen) ∧
      (d = .nil ∧ bs = [] ∨ ∃ spare, d = .slice (bs.map fun b => .lit (.string b)) spare) := by
  obtain ⟨a0, len0, cap0, rfl⟩ := okWide_slice ht hval
  obtain ⟨fuel, hf⟩ := h
  rcases Deep.open_strs ht he hc hf with ⟨h1, h2⟩ | ⟨a, len, cap, m, Sx, h1, hb, hl, hm, hz, h2, hcell⟩
  · simp only [Value.cells, List.cons.injEq, Value.slice.injEq, and_true] at h1
    obtain ⟨rfl, rfl, rfl⟩ := h1
    exact ⟨none, 0, [], rfl, Nat.le_refl _, by simp [maxLen], Row.nil, by simp, .inl ⟨congrArg Prod.fst h2, rfl⟩⟩
  · simp only [Value.cells, List.cons.injEq, Value.slice.injEq, and_true] at h1
    obtain ⟨rfl, rfl, rfl⟩ := h1
    have hlm : len0 ≤ m := by rw [hz]; split <;> omega
    obtain ⟨bs, hbs⟩ : ∃ bs : List (List UInt8), bs = (List.range len0).map fun i => (Sx i).data.toList := ⟨_, rfl⟩
    have hlen : bs.length = len0 := by rw [hbs]; simp
    have hat : ∀ i (hi : i < len0), bs[i]? = some (Sx i).data.toList := fun i hi => by rw [hbs]; simp [hi]
    refine ⟨some a, cap0, bs, by rw [hlen], by rw [hlen]; exact hl, hm, ?_, ?_, .inr ⟨_, (Prod.mk.inj h2).1.trans (by rw [hbs, List.map_map]; rfl)⟩⟩
    · rcases Nat.eq_zero_or_pos len0 with h0 | h0
      · subst h0; exact .inl (by rw [List.eq_nil_of_length_eq_zero hlen]; rfl)
      · obtain ⟨b, off, spot⟩ := a
        have hspot : spot = none := by
          have h1 := (hcell 0 (by omega)).1
          simpa [Addr.add] using World.cell?_spot h1
        subst hspot
        refine .inr ⟨b, off, rfl, fun j u hu => ?_⟩
        have hj : j < len0 := by
          rcases Nat.lt_or_ge j len0 with h | h
          · exact h
          · rw [List.getElem?_eq_none (by rw [List.length_map, hlen]; exact h)] at hu; cases hu
        rw [List.getElem?_map, hat j hj] at hu
        cases hu
        rw [← Go.WideShapes.add_plain]
        exact (hcell j (by omega)).1
    · intro b hm
      rw [hbs] at hm
      obtain ⟨i, hi, rfl⟩ := List.mem_map.1 hm
      exact (hcell i (by have := List.mem_range.1 hi; omega)).2
end Go.Proofs.Ytbdlmokgmgpbfaa
