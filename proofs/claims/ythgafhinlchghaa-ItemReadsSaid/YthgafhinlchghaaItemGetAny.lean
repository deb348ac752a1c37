/- Get of package item, for any bytes. -/
import Derived.Test.YthgafhinlchghaaItemGet
namespace Go.Proofs.Ythgafhinlchghaa
open Go.RowKit
open Itm Vlq
set_option linter.unusedVariables false
/-- What comes of what was read. -/
def fin (s : ByteArray) (a : It) (i c : Nat) : It × Nat := if c ≠ 0 then (bare 0, c) else if i < s.size then (bare 0, 21) else if right a = true then (a, 0) else (bare 0, 1)
/-- What bytes are read as, and the error. -/
def getF (s : ByteArray) : It × Nat := fin s (getP s).1 (getP s).2.1 (getP s).2.2
theorem right_many {n : Int} (h : 1073741824 < n) : right { bare 4 with n := n } = false := by
  have hw : wn n 1 1073741824 = false := wn_hi (by omega)
  simp [right, hw]
/-- The number that is cut at one above the most changes no answer. -/
theorem fin_M (s : ByteArray) : fin s (getM s).1 (getM s).2.1 (getM s).2.2 = getF s := by
  obtain ⟨⟨x, k1, c1⟩, hK⟩ : ∃ K, numS s (0, 0) = K := ⟨_, rfl⟩
  unfold getF getM getP
  by_cases h4 : x = 4
  · subst h4
    simp only [hK]
    simp only [show ¬ (4 : Nat) = 1 by omega, show ¬ (4 : Nat) = 2 by omega, show ¬ (4 : Nat) = 3 by omega, if_false, if_true]
    obtain ⟨⟨v, i, c⟩, hA⟩ : ∃ K, numS s (k1, c1) = K := ⟨_, rfl⟩
    rw [hA]
    simp only
    by_cases hv : (v : Int) ≤ 1073741824
    · rw [show min (v : Int) 1073741825 = v by omega]
    · have e1 := right_many (n := v) (by omega)
      have e2 := right_many (n := min (v : Int) 1073741825) (by omega)
      unfold fin
      rw [e1, e2]
      simp
  · simp only [hK]
    by_cases h1 : x = 1
    · simp [h1]
    · by_cases h2 : x = 2
      · simp [h2]
      · by_cases h3 : x = 3
        · simp [h3]
        · by_cases h5 : x = 5
          · simp [h5]
          · simp [h1, h2, h3, h4, h5, failP]
theorem itGet (s : ByteArray) (hs : s.size ≤ 9223372036854775807) (w : World) : Calls Try.prog 16 #[.string s] w (GotI (getF s).1 (getF s).2 w) := by
  rw [← fin_M]
  obtain ⟨⟨a, i, c⟩, hM⟩ : ∃ K, getM s = K := ⟨_, rfl⟩
  rw [hM]
  simp only
  unfold fin
  split
  · exact itGet_err s hs a i c hM (by assumption) w
  · obtain rfl : c = 0 := by omega
    split
    · exact itGet_form s hs a i hM (by assumption) w
    · split
      · exact itGet_ok s hs a i hM (by assumption) (by assumption) w
      · exact itGet_arg s hs a i hM (by assumption) (by simpa using ‹¬ right a = true›) w
end Go.Proofs.Ythgafhinlchghaa
