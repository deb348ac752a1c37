/- Print of the code: lines out of words and digits. -/
import Derived.Test.YtileonenphmkkaaDoorJobNum
import Derived.Test.YtileonenphmkkaaDoorJobRight
import Derived.Test.YtileonenphmkkaaDoorJobCut
import Derived.Deep.RegionHeld3
namespace Go.Proofs.YtileonenphmkkaaDoor
open Go.RowKit
set_option linter.unusedVariables false
set_option maxRecDepth 8000
namespace Jo
open Gen
open Go.Lib (decDigits)
/-- Fields with a blank between, and the line's end. -/
def joined (fs : List (List UInt8)) : List UInt8 := Lib.join fs [32] ++ [10]
theorem joined2 (a b : List UInt8) : joined [a, b] = a ++ [32] ++ b ++ [10] := by
  unfold joined Lib.join
  simp [List.intercalate, List.intersperse]
theorem joined3 (a b c : List UInt8) : joined [a, b, c] = a ++ [32] ++ b ++ [32] ++ c ++ [10] := by
  unfold joined Lib.join
  simp [List.intercalate, List.intersperse]
/-- A row of strings that the call has just laid. -/
def Flds (w : World) (b : Nat) (fs : List (List UInt8)) : Prop := ∀ (j : Nat) x, fs[j]? = some x → w.cell? ⟨b, j, none⟩ = some (strv x)
theorem jPrinted (b c : Nat) (fs : List (List UInt8)) (w : World) (h : Flds w b fs) (hb : b < w.heap.size) (hl : fs.length ≤ 100) (hc : fs.length ≤ c) (hz : (Lib.join fs [32]).length ≤ 50000) :
    Calls Tryd.prog 17 #[.slice (some ⟨b, 0, none⟩) fs.length c] w (GivesS (joined fs) w) := by
  have HJ := Lib.hid (show Calls Tryd.prog 16 #[.slice (some ⟨b, 0, none⟩) fs.length c, strv [32]] w (GivesS (Lib.join fs [32]) w) from by
    have hm : ((fs.map fun l => (⟨l.toArray⟩ : ByteArray)).map (·.data.toList)) = fs := by
      rw [List.map_map]
      conv => rhs; rw [← List.map_id fs]
      rfl
    have g := Tryd.strings_Join b 0 c (fs.map fun l => (⟨l.toArray⟩ : ByteArray)) ⟨#[32]⟩ w (fun j x hx => by
      rw [List.getElem?_map] at hx
      obtain ⟨l, h1, rfl⟩ := Option.map_eq_some_iff.1 hx
      rw [Nat.zero_add]
      exact h j l h1) hb (by rw [List.length_map]; omega) (by rw [List.length_map]; exact hc) (by rw [hm]; exact Nat.le_trans hz (by omega))
    rw [hm, List.length_map] at g
    exact g)
  have ha := addS (Lib.join fs [32]) [10] (by simp; omega)
  obtain ⟨l, hl0⟩ : ∃ l, l = Lib.join fs [32] := ⟨_, rfl⟩
  unfold joined
  rw [← hl0] at HJ ha ⊢
  obtain ⟨m, hm⟩ : ∃ m, m = l ++ [10] := ⟨_, rfl⟩
  obtain ⟨n, hn⟩ : ∃ n, n = fs.length := ⟨_, rfl⟩
  rw [← hm] at ha ⊢
  rw [← hn] at HJ ⊢
  clear h hb hl hc hz hl0 hm hn
  go_enter Tryd.func17, Tryd.ntmps17
  go_wp2_with fail
  refine HJ.out.mono ?_
  rintro e w1 ⟨rfl, hb1⟩
  have HB := Lib.hid hb1
  clear hb1
  go_wp2_with fail
  go_ret
  exact ⟨rfl, HB.out⟩
end Jo
end Go.Proofs.YtileonenphmkkaaDoor
