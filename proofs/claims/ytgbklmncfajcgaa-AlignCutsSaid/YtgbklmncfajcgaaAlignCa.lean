/- slices.Clone of rows of bools, of rows of rows, of rows of items: a row of the call's own. -/
import Derived.Test.YtgbklmncfajcgaaAlignS
import Derived.Lib.SliceRun
namespace Go.Proofs.Ytgbklmncfajcgaa
open Go.ChangeShapes Go.WideShapes Go.ChangeAt Go.RowKit
set_option linter.unusedVariables false
set_option maxRecDepth 8000
namespace Aln
open Gen (TellsB row_one flat_len flat_get)
open Itm
/-- A row of the call's own. -/
def GivesRG (n : Nat) (xs : List Bool) (w : World) (e : Ending) (w' : World) : Prop := ∃ A c, e = .returned (.slice A n c) ∧ w'.ownsRow w.heap.size 4 1 (.slice A n c) n (gcs xs) ∧ Below w.heap.size w w'
set_option maxHeartbeats 1000000 in
theorem ckCloneG (xs : List Bool) (n : Nat) (hn : n = xs.length) (A : Option Addr) (c : Nat) (w : World) (hA : Row w A (gcs xs)) (hl : n ≤ 100000) : Calls Try.prog 42 #[.slice A n c] w (GivesRG n xs w) := by
  have hcl : (gcs xs).length = n * 1 := by rw [lenG, hn]
  rcases A with _ | ⟨b, off, sp⟩
  · have e : xs = [] := by
      rcases hA with h | ⟨_, _, h, _⟩
      · rw [h] at hcl; exact List.eq_nil_of_length_eq_zero (by simp at hcl; omega)
      · cases h
    subst e
    have hn0 : n = 0 := hn
    subst hn0
    clear hA hcl hn hl
    have q : ∀ (w : World) (n c n' c' : Nat), (binOp .eql 22 (.slice none n c) (.slice none n' c')).run Try.prog w = .ok (.bool true) w := fun w n c n' c' => Lib.run_eql_slice_nil w _ _ none n c n' c' Try.underlying22
    go_enter Try.func42, Try.ntmps42
    go_wp2_with fail
    go_ret
    exact ⟨none, 0, rfl, own_none, Below.refl _ _⟩
  · obtain ⟨i0, hi0, hz0, hz1, hz2⟩ := info_partsA InfoG
    have HI0 := Lib.hid hi0; have HZ0 := Lib.hid hz0; have HZ1 := Lib.hid hz1; have HZ2 := Lib.hid hz2
    have HCL := Lib.hid hcl
    have q : ∀ (w : World) (n c n' c' : Nat), (binOp .eql 22 (.slice (some ⟨b, off, sp⟩) n c) (.slice none n' c')).run Try.prog w = .ok (.bool false) w := fun w n c n' c' => Lib.run_eql_slice_nil w _ _ (some _) n c n' c' Try.underlying22
    have hcells : ∀ j u, (gcs xs)[j]? = some u → (w.alloc (.cells #[] 4)).cell? ((⟨b, off, sp⟩ : Addr).add j) = some u := by
      rcases hA with hA | ⟨b', off', e, hA⟩
      · intro j u hu; rw [hA] at hu; cases hu
      · cases e
        intro j u hu
        rw [Go.WideShapes.add_plain]
        exact Gen.cell_below (hA j u hu) (below_al (Below.refl _ _))
    have HCE := Lib.hid hcells
    clear hA hi0 hz0 hz1 hz2 hn hcl hcells
    go_enter Try.func42, Try.ntmps42
    go_wp2_with (at_builtin; refine hold_mk ?_)
    refine hold_out ?_
    refine wpList_append_own_at _ rfl _ _ 22 rfl w.heap.size 4 i0 _ 1 1 Try.underlying22 HI0.out HZ0.out HZ1.out HZ2.out rfl (by omega) _ 0 [] rfl
      (own_new (Nat.le_refl _)) ⟨b, off, sp⟩ n c (gcs xs) rfl HCL.out HCE.out (onesG xs) (by unfold maxLen; omega) (by omega) (by simp) ?_
    intro v2 w2 hown hg _ hat
    have HOW := Lib.hid hown
    have HB := Lib.hid ((below_al (o := .cells #[] 4) (Below.refl w.heap.size w)).grown hg (by simp) (fun q hq => by cases hq; simp))
    clear hown hg hat
    go_wp2_with fail
    go_ret
    have ho := HOW.out
    rw [Nat.zero_add, List.nil_append] at ho
    obtain ⟨A', c', e', _⟩ := own_form ho (by omega)
    subst e'
    exact ⟨A', c', rfl, ho, HB.out⟩
/-- A row of the call's own. -/
def GivesRH (n : Nat) (xs : List Hd) (w : World) (e : Ending) (w' : World) : Prop := ∃ A c, e = .returned (.slice A n c) ∧ w'.ownsRow w.heap.size 30 1 (.slice A n c) n (hsc xs) ∧ Below w.heap.size w w'
set_option maxHeartbeats 1000000 in
theorem ckCloneH (xs : List Hd) (n : Nat) (hn : n = xs.length) (A : Option Addr) (c : Nat) (w : World) (hA : Row w A (hsc xs)) (hl : n ≤ 100000) : Calls Try.prog 43 #[.slice A n c] w (GivesRH n xs w) := by
  have hcl : (hsc xs).length = n * 1 := by rw [lenH, hn]
  rcases A with _ | ⟨b, off, sp⟩
  · have e : xs = [] := by
      rcases hA with h | ⟨_, _, h, _⟩
      · rw [h] at hcl; exact List.eq_nil_of_length_eq_zero (by simp at hcl; omega)
      · cases h
    subst e
    have hn0 : n = 0 := hn
    subst hn0
    clear hA hcl hn hl
    have q : ∀ (w : World) (n c n' c' : Nat), (binOp .eql 23 (.slice none n c) (.slice none n' c')).run Try.prog w = .ok (.bool true) w := fun w n c n' c' => Lib.run_eql_slice_nil w _ _ none n c n' c' Try.underlying23
    go_enter Try.func43, Try.ntmps43
    go_wp2_with fail
    go_ret
    exact ⟨none, 0, rfl, own_none, Below.refl _ _⟩
  · obtain ⟨i0, hi0, hz0, hz1, hz2⟩ := info_partsA InfoH
    have HI0 := Lib.hid hi0; have HZ0 := Lib.hid hz0; have HZ1 := Lib.hid hz1; have HZ2 := Lib.hid hz2
    have HCL := Lib.hid hcl
    have q : ∀ (w : World) (n c n' c' : Nat), (binOp .eql 23 (.slice (some ⟨b, off, sp⟩) n c) (.slice none n' c')).run Try.prog w = .ok (.bool false) w := fun w n c n' c' => Lib.run_eql_slice_nil w _ _ (some _) n c n' c' Try.underlying23
    have hcells : ∀ j u, (hsc xs)[j]? = some u → (w.alloc (.cells #[] 30)).cell? ((⟨b, off, sp⟩ : Addr).add j) = some u := by
      rcases hA with hA | ⟨b', off', e, hA⟩
      · intro j u hu; rw [hA] at hu; cases hu
      · cases e
        intro j u hu
        rw [Go.WideShapes.add_plain]
        exact Gen.cell_below (hA j u hu) (below_al (Below.refl _ _))
    have HCE := Lib.hid hcells
    clear hA hi0 hz0 hz1 hz2 hn hcl hcells
    go_enter Try.func43, Try.ntmps43
    go_wp2_with (at_builtin; refine hold_mk ?_)
    refine hold_out ?_
    refine wpList_append_own_at _ rfl _ _ 23 rfl w.heap.size 30 i0 _ 1 24 Try.underlying23 HI0.out HZ0.out HZ1.out HZ2.out rfl (by omega) _ 0 [] rfl
      (own_new (Nat.le_refl _)) ⟨b, off, sp⟩ n c (hsc xs) rfl HCL.out HCE.out (onesH xs) (by unfold maxLen; omega) (by omega) (by simp) ?_
    intro v2 w2 hown hg _ hat
    have HOW := Lib.hid hown
    have HB := Lib.hid ((below_al (o := .cells #[] 30) (Below.refl w.heap.size w)).grown hg (by simp) (fun q hq => by cases hq; simp))
    clear hown hg hat
    go_wp2_with fail
    go_ret
    have ho := HOW.out
    rw [Nat.zero_add, List.nil_append] at ho
    obtain ⟨A', c', e', _⟩ := own_form ho (by omega)
    subst e'
    exact ⟨A', c', rfl, ho, HB.out⟩
/-- A row of the call's own. -/
def GivesRI (n : Nat) (xs : List It) (w : World) (e : Ending) (w' : World) : Prop := ∃ A c, e = .returned (.slice A n c) ∧ w'.ownsRow w.heap.size 42 11 (.slice A n c) n (itc xs) ∧ Below w.heap.size w w'
set_option maxHeartbeats 1000000 in
theorem ckCloneI (xs : List It) (n : Nat) (hn : n = xs.length) (A : Option Addr) (c : Nat) (w : World) (hA : Row w A (itc xs)) (hl : n ≤ 100000) : Calls Try.prog 44 #[.slice A n c] w (GivesRI n xs w) := by
  have hcl : (itc xs).length = n * 11 := by rw [lenI, hn]
  rcases A with _ | ⟨b, off, sp⟩
  · have e : xs = [] := by
      rcases hA with h | ⟨_, _, h, _⟩
      · rw [h] at hcl; exact List.eq_nil_of_length_eq_zero (by simp at hcl; omega)
      · cases h
    subst e
    have hn0 : n = 0 := hn
    subst hn0
    clear hA hcl hn hl
    have q : ∀ (w : World) (n c n' c' : Nat), (binOp .eql 30 (.slice none n c) (.slice none n' c')).run Try.prog w = .ok (.bool true) w := fun w n c n' c' => Lib.run_eql_slice_nil w _ _ none n c n' c' Try.underlying30
    go_enter Try.func44, Try.ntmps44
    go_wp2_with fail
    go_ret
    exact ⟨none, 0, rfl, own_none, Below.refl _ _⟩
  · obtain ⟨i0, hi0, hz0, hz1, hz2⟩ := info_partsA InfoI
    have HI0 := Lib.hid hi0; have HZ0 := Lib.hid hz0; have HZ1 := Lib.hid hz1; have HZ2 := Lib.hid hz2
    have HCL := Lib.hid hcl
    have q : ∀ (w : World) (n c n' c' : Nat), (binOp .eql 30 (.slice (some ⟨b, off, sp⟩) n c) (.slice none n' c')).run Try.prog w = .ok (.bool false) w := fun w n c n' c' => Lib.run_eql_slice_nil w _ _ (some _) n c n' c' Try.underlying30
    have hcells : ∀ j u, (itc xs)[j]? = some u → (w.alloc (.cells #[] 42)).cell? ((⟨b, off, sp⟩ : Addr).add j) = some u := by
      rcases hA with hA | ⟨b', off', e, hA⟩
      · intro j u hu; rw [hA] at hu; cases hu
      · cases e
        intro j u hu
        rw [Go.WideShapes.add_plain]
        exact Gen.cell_below (hA j u hu) (below_al (Below.refl _ _))
    have HCE := Lib.hid hcells
    clear hA hi0 hz0 hz1 hz2 hn hcl hcells
    go_enter Try.func44, Try.ntmps44
    go_wp2_with (at_builtin; refine hold_mk ?_)
    refine hold_out ?_
    refine wpList_append_own_at _ rfl _ _ 30 rfl w.heap.size 42 i0 _ 11 104 Try.underlying30 HI0.out HZ0.out HZ1.out HZ2.out rfl (by omega) _ 0 [] rfl
      (own_new (Nat.le_refl _)) ⟨b, off, sp⟩ n c (itc xs) rfl HCL.out HCE.out (onesI xs) (by unfold maxLen; omega) (by omega) (by simp) ?_
    intro v2 w2 hown hg _ hat
    have HOW := Lib.hid hown
    have HB := Lib.hid ((below_al (o := .cells #[] 42) (Below.refl w.heap.size w)).grown hg (by simp) (fun q hq => by cases hq; simp))
    clear hown hg hat
    go_wp2_with fail
    go_ret
    have ho := HOW.out
    rw [Nat.zero_add, List.nil_append] at ho
    obtain ⟨A', c', e', _⟩ := own_form ho (by omega)
    subst e'
    exact ⟨A', c', rfl, ho, HB.out⟩
end Aln
end Go.Proofs.Ytgbklmncfajcgaa
