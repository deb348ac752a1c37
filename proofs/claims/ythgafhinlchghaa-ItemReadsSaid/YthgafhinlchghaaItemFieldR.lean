/- Contracts of the reference's reader. -/
import Derived.Test.YthgafhinlchghaaItemRead
namespace Go.Proofs.Ythgafhinlchghaa
open Go.RowKit
open Itm Vlq
set_option linter.unusedVariables false
theorem rfR_num (g : Nat) (s : ByteArray) (i : Int) (v : Value) (x y : Int) (hG : ∀ w, Calls Try.prog 44 #[.string s, .int .i64 i] w fun e w' => e = .returned (.tuple #[v, .int .i64 x, .int .i64 y]) ∧ Below w.heap.size w w')
    (w : World) (h : RdAt 54 g s i 0 w) :
    Calls Try.prog 30 #[.pointer (some ⟨g, 0, none⟩)] w (Took 54 g s v x y w) := by
  have HG := Lib.hid hG
  have H := Lib.hid h
  have c0 := h.c0; have c1 := h.c1; have c2 := h.c2
  clear hG h
  go_enter Try.func30, Try.ntmps30
  go_wp2_with fail
  go_region_with (go_at_call 44; refine (HG.out _).mono ?_; rintro e w5 ⟨rfl, hb5⟩; have H5 := Lib.hid (RdAt.below (w := w) H.out ⟨hb5.os, hb5.tape, hb5.output, hb5.size, hb5.block⟩); have d1 := H5.out.c1; have d2 := H5.out.c2; have f1 := H5.out.free 1; have f2 := H5.out.free 2)
  all_goals (
    go_wp2_with fail
    go_ret
    exact ⟨rfl, after_two H.out hb5⟩)
theorem rfRE_num (g : Nat) (s : ByteArray) (i c : Int) (hc : c ≠ 0) (w : World) (h : RdAt 54 g s i c w) :
    Calls Try.prog 30 #[.pointer (some ⟨g, 0, none⟩)] w (Took 54 g s (.int .i64 0) i c w) := by
  have H := Lib.hid h
  have c2 := h.c2
  have e0 := nb hc
  clear h hc
  go_enter Try.func30, Try.ntmps30
  go_wp2_with fail
  go_ret
  exact ⟨rfl, H.out, But.refl _ _⟩
theorem rfR_whole (g : Nat) (s : ByteArray) (i : Int) (v : Value) (x y : Int) (hG : ∀ w, Calls Try.prog 46 #[.string s, .int .i64 i] w fun e w' => e = .returned (.tuple #[v, .int .i64 x, .int .i64 y]) ∧ Below w.heap.size w w')
    (w : World) (h : RdAt 54 g s i 0 w) :
    Calls Try.prog 32 #[.pointer (some ⟨g, 0, none⟩)] w (Took 54 g s v x y w) := by
  have HG := Lib.hid hG
  have H := Lib.hid h
  have c0 := h.c0; have c1 := h.c1; have c2 := h.c2
  clear hG h
  go_enter Try.func32, Try.ntmps32
  go_wp2_with fail
  go_region_with (go_at_call 46; refine (HG.out _).mono ?_; rintro e w5 ⟨rfl, hb5⟩; have H5 := Lib.hid (RdAt.below (w := w) H.out ⟨hb5.os, hb5.tape, hb5.output, hb5.size, hb5.block⟩); have d1 := H5.out.c1; have d2 := H5.out.c2; have f1 := H5.out.free 1; have f2 := H5.out.free 2)
  all_goals (
    go_wp2_with fail
    go_ret
    exact ⟨rfl, after_two H.out hb5⟩)
theorem rfRE_whole (g : Nat) (s : ByteArray) (i c : Int) (hc : c ≠ 0) (w : World) (h : RdAt 54 g s i c w) :
    Calls Try.prog 32 #[.pointer (some ⟨g, 0, none⟩)] w (Took 54 g s (.int .i64 0) i c w) := by
  have H := Lib.hid h
  have c2 := h.c2
  have e0 := nb hc
  clear h hc
  go_enter Try.func32, Try.ntmps32
  go_wp2_with fail
  go_ret
  exact ⟨rfl, H.out, But.refl _ _⟩
theorem rfR_text (g : Nat) (s : ByteArray) (i : Int) (v : Value) (x y : Int) (hG : ∀ w, Calls Try.prog 45 #[.string s, .int .i64 i] w fun e w' => e = .returned (.tuple #[v, .int .i64 x, .int .i64 y]) ∧ Below w.heap.size w w')
    (w : World) (h : RdAt 54 g s i 0 w) :
    Calls Try.prog 31 #[.pointer (some ⟨g, 0, none⟩)] w (Took 54 g s v x y w) := by
  have HG := Lib.hid hG
  have H := Lib.hid h
  have c0 := h.c0; have c1 := h.c1; have c2 := h.c2
  clear hG h
  go_enter Try.func31, Try.ntmps31
  go_wp2_with fail
  go_region_with (go_at_call 45; refine (HG.out _).mono ?_; rintro e w5 ⟨rfl, hb5⟩; have H5 := Lib.hid (RdAt.below (w := w) H.out ⟨hb5.os, hb5.tape, hb5.output, hb5.size, hb5.block⟩); have d1 := H5.out.c1; have d2 := H5.out.c2; have f1 := H5.out.free 1; have f2 := H5.out.free 2)
  all_goals (
    go_wp2_with fail
    go_ret
    exact ⟨rfl, after_two H.out hb5⟩)
theorem rfRE_text (g : Nat) (s : ByteArray) (i c : Int) (hc : c ≠ 0) (w : World) (h : RdAt 54 g s i c w) :
    Calls Try.prog 31 #[.pointer (some ⟨g, 0, none⟩)] w (Took 54 g s (.string ⟨#[]⟩) i c w) := by
  have H := Lib.hid h
  have c2 := h.c2
  have e0 := nb hc
  clear h hc
  go_enter Try.func31, Try.ntmps31
  go_wp2_with fail
  go_ret
  exact ⟨rfl, H.out, But.refl _ _⟩
theorem rfNumber (g : Nat) (s : ByteArray) (hs : s.size ≤ 140737488355328) (i c : Nat) (hi : i ≤ s.size) (w : World) (h : RdAt 54 g s i c w) :
    Calls Try.prog 30 #[.pointer (some ⟨g, 0, none⟩)] w (Took 54 g s (numV (numS s (i, c))) (numS s (i, c)).2.1 (numS s (i, c)).2.2 w) := by
  by_cases hc : c = 0
  · subst hc
    exact rfR_num g s i _ _ _ (fun w => (refGet_ok s i w (by omega) hi).mono fun e w' h => ⟨h.1, h.2 ▸ Below.refl _ _⟩) w h
  · have e : numS s (i, c) = (0, i, c) := if_neg hc
    rw [e]
    exact rfRE_num g s i c (by omega) w h
theorem rfSigned (g : Nat) (s : ByteArray) (hs : s.size ≤ 140737488355328) (i c : Nat) (hi : i ≤ s.size) (w : World) (h : RdAt 54 g s i c w) :
    Calls Try.prog 32 #[.pointer (some ⟨g, 0, none⟩)] w (Took 54 g s (sgnV (sgnS s (i, c))) (sgnS s (i, c)).2.1 (sgnS s (i, c)).2.2 w) := by
  by_cases hc : c = 0
  · subst hc
    exact rfR_whole g s i _ _ _ (fun w => (refGetSigned_ok s i w (by omega) hi).mono fun e w' h => ⟨h.1, h.2 ▸ Below.refl _ _⟩) w h
  · have e : sgnS s (i, c) = (0, i, c) := if_neg hc
    rw [e]
    show Calls _ _ _ _ (Took _ g s (.int .i64 (un 0)) i c w)
    rw [show un 0 = 0 from by simp [un]]
    exact rfRE_whole g s i c (by omega) w h
theorem rfTextR (g : Nat) (s : ByteArray) (hs : s.size ≤ 140737488355328) (i c : Nat) (hi : i ≤ s.size) (w : World) (h : RdAt 54 g s i c w) :
    Calls Try.prog 31 #[.pointer (some ⟨g, 0, none⟩)] w (Took 54 g s (txtV (txtS s (i, c))) (txtS s (i, c)).2.1 (txtS s (i, c)).2.2 w) := by
  by_cases hc : c = 0
  · subst hc
    exact rfR_text g s i _ _ _ (fun w => refGetText_ok s i w hs hi) w h
  · have e : txtS s (i, c) = ([], i, c) := if_neg hc
    rw [e]
    exact rfRE_text g s i c (by omega) w h
end Go.Proofs.Ythgafhinlchghaa
