/- after, Number of the reference. -/
import Derived.Test.YtileonenphmkkaaDoorJobLine3
namespace Go.Proofs.YtileonenphmkkaaDoor
open Go.RowKit
set_option linter.unusedVariables false
set_option maxRecDepth 8000
namespace Jo
open Gen
theorem ext_drop (s : List UInt8) (i : Nat) : (⟨s.toArray⟩ : ByteArray).extract i s.length = ⟨(s.drop i).toArray⟩ := by
  apply ByteArray.ext
  rw [ByteArray.data_extract]
  apply Array.ext'
  rw [Array.toList_extract]
  show (s.drop i).take (s.length - i) = s.drop i
  rw [List.take_of_length_le (by rw [List.length_drop]; omega)]
theorem ext_same (s t : List UInt8) (n : Nat) : (((⟨s.toArray⟩ : ByteArray).extract 0 n).toList == t) = (s.take n == t) := by
  rw [ext_take, Lib.toList_data]
/-- What after hands back. -/
def Aft (t s : List UInt8) (w : World) (e : Ending) (w' : World) : Prop := e = .returned (.tuple #[strv ((pre t s).getD s), .bool (pre t s).isSome]) ∧ w' = w
theorem rAfter (t s : List UInt8) (hs : s.length ≤ 140737488355328) (w : World) :
    Calls Tryd.prog 44 #[strv s, strv t] w (Aft t s w) := by
  unfold Aft
  by_cases hl : s.length < t.length
  · have hp : pre t s = none := by
      apply pre_not
      intro r e
      rw [e, List.length_append] at hl
      omega
    rw [hp]
    have h1 : (s.length : Int) < t.length := by omega
    clear hp hs
    go_enter Tryd.func44, Tryd.ntmps44
    go_wp2_with fail
    go_ret2
    exact ⟨rfl, rfl⟩
  · have hn : t.length ≤ s.length := by omega
    have h1 : ¬ (s.length : Int) < t.length := by omega
    have h2 : (t.length : Int) ≤ s.length := by omega
    have h3 : (0 : Int) ≤ t.length := by omega
    have hpre : (pre t s = some (s.drop t.length) ∧ s.take t.length = t) ∨ (pre t s = none ∧ s.take t.length ≠ t) := by
      unfold pre
      by_cases h : t.isPrefixOf s = true
      · left
        rw [if_pos h]
        refine ⟨rfl, ?_⟩
        rw [List.isPrefixOf_iff_prefix] at h
        obtain ⟨r, rfl⟩ := h
        rw [List.take_left]
      · right
        rw [if_neg h]
        refine ⟨rfl, fun e => h ?_⟩
        rw [List.isPrefixOf_iff_prefix, ← e]
        exact List.take_prefix _ _
    rcases hpre with ⟨hp, hq⟩ | ⟨hp, hq⟩
    · rw [hp]
      have hc : (((⟨s.toArray⟩ : ByteArray).extract 0 t.length).toList == t) = true := by rw [ext_same, hq]; simp
      have E := Lib.hid (ext_drop s t.length)
      clear hp hs hq
      go_enter Tryd.func44, Tryd.ntmps44
      go_wp2_with fail
      go_ret2
      refine ⟨?_, rfl⟩
      show _ = Ending.returned (.tuple #[.string ⟨(s.drop t.length).toArray⟩, .bool true])
      rw [← E.out]
      rfl
    · rw [hp]
      have hc : (((⟨s.toArray⟩ : ByteArray).extract 0 t.length).toList == t) = false := by rw [ext_same]; simpa using hq
      clear hp hs hq
      go_enter Tryd.func44, Tryd.ntmps44
      go_wp2_with fail
      go_ret2
      exact ⟨rfl, rfl⟩
end Jo
end Go.Proofs.YtileonenphmkkaaDoor
