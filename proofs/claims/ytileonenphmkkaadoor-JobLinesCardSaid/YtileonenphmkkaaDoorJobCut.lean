/- The word up to the line's end; a fold's name. -/
import Derived.Test.YtileonenphmkkaaDoorJobLine2
import Derived.Laws.Slices
namespace Go.Proofs.YtileonenphmkkaaDoor
open Go.RowKit
set_option linter.unusedVariables false
set_option maxRecDepth 8000
namespace Jo
open Gen
def isW (b : UInt8) : Bool := b != 10
def word (s : List UInt8) : List UInt8 := s.takeWhile isW
theorem index_word (s : List UInt8) : (Lib.indexByte s 10 = -1 ∧ word s = s) ∨ ∃ i : Nat, Lib.indexByte s 10 = i ∧ i < s.length ∧ s.take i = word s := by
  induction s with
  | nil => exact .inl ⟨rfl, rfl⟩
  | cons b l ih =>
    unfold Lib.indexByte word
    by_cases hb : b = 10
    · subst hb
      exact .inr ⟨0, by simp, by simp, by simp [isW]⟩
    · have hw : isW b = true := by unfold isW; simpa using hb
      have hne : (b == 10) = false := by simpa using hb
      rw [List.takeWhile_cons_of_pos hw, hne]
      rcases ih with ⟨h1, h2⟩ | ⟨i, h1, h2, h3⟩
      · left
        rw [h1]
        refine ⟨by simp, ?_⟩
        have : List.takeWhile isW l = l := h2
        rw [this]
      · right
        refine ⟨i + 1, ?_, by rw [List.length_cons]; omega, ?_⟩
        · rw [h1]
          have : ((i : Int) == -1) = false := ne_b (by omega)
          simp [this]
        · rw [List.take_succ_cons, h3]; rfl
theorem ext_take (s : List UInt8) (i : Nat) : (⟨s.toArray⟩ : ByteArray).extract 0 i = ⟨(s.take i).toArray⟩ := by
  apply ByteArray.ext
  rw [ByteArray.data_extract]
  apply Array.ext'
  rw [Array.toList_extract]
  simp
/-- The word handed back, with what is behind it. -/
def Words (l : List UInt8) (w : World) (e : Ending) (w' : World) : Prop := ∃ (r : ByteArray) (q : Bool), e = .returned (.tuple #[strv l, .string r, .bool q]) ∧ Below w.heap.size w w'
theorem jCutL (s : List UInt8) (hs : s.length ≤ 140737488355328) (w : World) : Calls Tryd.prog 75 #[strv s, strv [10]] w (Words (word s) w) := by
  have HI := Lib.hid (fun w => show Calls Tryd.prog 60 #[strv s, strv [10]] w fun e w' => e = .returned (.int .i64 (Lib.indexByte s 10)) ∧ w' = w from Tryd.stringslite_Index_one ⟨s.toArray⟩ 10 w)
  have hz := bsz s
  rcases index_word s with ⟨h1, h2⟩ | ⟨i, h1, h2, h3⟩
  · rw [h1] at HI
    rw [h2]
    clear h1 h2 hz
    go_enter Tryd.func75, Tryd.ntmps75
    go_wp2_with fail
    refine (HI.out _).mono ?_
    rintro e w1 ⟨rfl, rfl⟩
    go_wp2_with fail
    go_ret3
    exact ⟨_, _, rfl, Below.refl _ _⟩
  · rw [h1] at HI
    rw [← h3]
    have l1 : (0 : Int) ≤ i := by omega
    obtain ⟨S, hS⟩ : ∃ S : ByteArray, S = ⟨s.toArray⟩ := ⟨_, rfl⟩
    have l2 : (i : Int) ≤ S.size := by rw [hS]; omega
    have l3 : (0 : Int) ≤ (i : Int) + 1 := by omega
    have l4 : (i : Int) + 1 ≤ S.size := by rw [hS]; omega
    have l5 : IntKind.i64.wrap ((i : Int) + 1) = (i : Int) + 1 := by simp [IntKind.wrap, IntKind.bits, IntKind.signed]; omega
    have HI := Lib.hid (fun w => show Calls Tryd.prog 60 #[.string S, strv [10]] w fun e w' => e = .returned (.int .i64 i) ∧ w' = w from by rw [hS]; exact HI.out w)
    have E3 := Lib.hid (show Value.string (S.extract 0 i) = strv (s.take i) from by rw [hS, ext_take])
    have e0 : strv s = .string S := by rw [hS]
    rw [e0]
    clear h1 h2 h3 hz hS e0
    go_enter Tryd.func75, Tryd.ntmps75
    go_wp2_with fail
    refine (HI.out _).mono ?_
    rintro e w1 ⟨rfl, rfl⟩
    go_wp2_with fail
    go_quiet (fail)
    go_wp2_with fail
    go_ret3
    refine ⟨S.extract (i + 1) S.size, true, ?_, below_drewN (Below.refl _ _)⟩
    rw [← E3.out]
    rfl
theorem jCut (s : List UInt8) (hs : s.length ≤ 140737488355328) (w : World) : Calls Tryd.prog 56 #[strv s, strv [10]] w (Words (word s) w) := by
  have HI := Lib.hid (fun w => jCutL s hs w)
  obtain ⟨l, hl⟩ : ∃ l, l = word s := ⟨_, rfl⟩
  rw [← hl] at HI ⊢
  clear hl
  go_enter Tryd.func56, Tryd.ntmps56
  go_wp2_with fail
  refine (HI.out _).mono ?_
  rintro e w1 ⟨r, q, rfl, hb⟩
  have HB := Lib.hid hb
  clear hb
  go_wp2_with fail
  go_ret3
  exact ⟨_, _, rfl, HB.out⟩
theorem jName (k : Nat) (hk : k ≤ 6) (w : World) : Calls Tryd.prog 19 #[.int .i64 (k : Int)] w fun e w' => e = .returned (strv (name k)) ∧ w' = w := by
  have hway : k = 1 ∨ k = 2 ∨ k = 3 ∨ k = 4 ∨ k = 5 ∨ (k ≠ 1 ∧ k ≠ 2 ∧ k ≠ 3 ∧ k ≠ 4 ∧ k ≠ 5 ∧ name k = []) := by
    by_cases h : k = 0 ∨ k = 6
    · rcases h with rfl | rfl <;> simp [name]
    · omega
  rcases hway with rfl | rfl | rfl | rfl | rfl | ⟨h1, h2, h3, h4, h5, h6⟩
  · go_enter Tryd.func19, Tryd.ntmps19
    go_wp2
    go_ret
    exact ⟨rfl, rfl⟩
  · go_enter Tryd.func19, Tryd.ntmps19
    go_wp2
    go_ret
    exact ⟨rfl, rfl⟩
  · go_enter Tryd.func19, Tryd.ntmps19
    go_wp2
    go_ret
    exact ⟨rfl, rfl⟩
  · go_enter Tryd.func19, Tryd.ntmps19
    go_wp2
    go_ret
    exact ⟨rfl, rfl⟩
  · go_enter Tryd.func19, Tryd.ntmps19
    go_wp2
    go_ret
    exact ⟨rfl, rfl⟩
  · rw [h6]
    have g1 : ((k : Int) == 1) = false := ne_b (by omega)
    have g2 : ((k : Int) == 2) = false := ne_b (by omega)
    have g3 : ((k : Int) == 3) = false := ne_b (by omega)
    have g4 : ((k : Int) == 4) = false := ne_b (by omega)
    have g5 : ((k : Int) == 5) = false := ne_b (by omega)
    clear h1 h2 h3 h4 h5 h6
    go_enter Tryd.func19, Tryd.ntmps19
    go_wp2
    go_ret
    exact ⟨rfl, rfl⟩
end Jo
end Go.Proofs.YtileonenphmkkaaDoor
