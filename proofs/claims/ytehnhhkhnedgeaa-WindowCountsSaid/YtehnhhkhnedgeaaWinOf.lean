/- Of and Open: the rows that the program makes. -/
import Derived.Test.YtehnhhkhnedgeaaWinRev
namespace Go.Proofs.Ytehnhhkhnedgeaa
open Go.RowKit Go.Shelf Tick
set_option linter.unusedVariables false
/-- A call that hands back a new row of windows. -/
def GivesW (xs : List (Int × Int)) (w : World) (e : Ending) (w' : World) : Prop :=
  ∃ A c, e = .returned (.slice A xs.length c) ∧ xs.length ≤ c ∧ c ≤ maxLen ∧ Row w' A (wc xs) ∧ Below w.heap.size w w'
theorem gives_own {xs : List (Int × Int)} {w w' : World} {B n : Nat} {v : Value} (h : w'.ownsRow B 29 2 v n (wc xs)) (hn : n = xs.length) (hb : Below w.heap.size w w') : GivesW xs w (.returned v) w' := by
  subst hn
  obtain ⟨A, c, rfl, h1, h2, h3, h4, _⟩ := own_form h (by omega)
  exact ⟨A, c, rfl, h1, h2, h4, hb⟩
theorem winForwards (F : Fence) (hF : Over.Wide F) (n : Nat) (hn : 5 ≤ n) (g : Nat) (lb : Array Value) (eg : ∀ args w, (callFunc g args).run Try.prog w = .ok (.enter g args) w) (xs : List (Int × Int)) (hlen : xs.length ≤ 100000) (w0 w : World)
    (hseq : Over.Feeds F (n - 1) Try.prog g lb (fun x => #[winV x]) xs w0) (hw : Below w0.heap.size w0 w) :
    Calls Try.prog 18 #[.func (.func g) #[] lb] w (GivesW xs.reverse w) := by
  have HC := Lib.hid (collect F hF n hn g lb eg xs hlen w0 w hseq hw)
  clear hseq hw eg
  go_enter Try.func18, Try.ntmps18
  go_wp2_with fail
  refine HC.out.mono ?_
  rintro e w1 ⟨v, rfl, h1, h2⟩
  have HR := Lib.hid (reverse xs w.heap.size v w1 hlen h1)
  have HB := Lib.hid h2
  obtain ⟨A, c, rfl, _, _, _, _, _⟩ := own_form h1 (by omega)
  clear h1 h2
  go_wp2_with fail
  refine HR.out.mono ?_
  rintro e w2 ⟨rfl, h1, h2⟩
  have H1 := Lib.hid h1
  have H2 := Lib.hid (HB.out.trans h2)
  clear h1 h2
  go_wp2_with fail
  go_ret
  exact gives_own H1.out (by simp) H2.out
set_option maxRecDepth 100000 in
theorem winOf (s d t : Int) (w : World) : Calls Try.prog 13 #[.int .i64 s, .int .i64 d, .int .i64 t] w (GivesW (Win.of s d t) w) := by
  go_enter Try.func13, Try.ntmps13
  go_wp2_with (go_at_call 19; refine (winBackwards _ _ _ _).mono ?_; rintro e w' ⟨rfl, rfl⟩)
  obtain ⟨w1, hw1⟩ : ∃ w1, ((w.alloc (.cells #[.int .i64 s] 2)).alloc (.cells #[.int .i64 d] 2)).alloc (.cells #[.int .i64 t] 2) = w1 := ⟨_, rfl⟩
  have b0 : Boxed w1 w.heap.size 2 (.int .i64 s) := by rw [← hw1]; exact ((Boxed.new w 2 _).alloc _).alloc _
  have b1 : Boxed w1 (w.heap.size + 1) 2 (.int .i64 d) := by rw [← hw1]; have := (Boxed.new (w.alloc (.cells #[.int .i64 s] 2)) 2 (.int .i64 d)).alloc (.cells #[.int .i64 t] 2); rwa [World.size_alloc] at this
  have b2 : Boxed w1 (w.heap.size + 2) 2 (.int .i64 t) := by rw [← hw1]; have := Boxed.new ((w.alloc (.cells #[.int .i64 s] 2)).alloc (.cells #[.int .i64 d] 2)) 2 (.int .i64 t); simpa only [World.size_alloc] using this
  have hb : Hid (Below w.heap.size w w1) := Lib.hid (by rw [← hw1]; exact (((Below.refl _ w).alloc (Nat.le_refl _) _).alloc (by simp) _).alloc (by simp; omega) _)
  have HF := Lib.hid (winForwards Fence.wide Over.wide 10 (by omega) 24 _ (enters_of Try.func24 (by kernel_rfl) rfl) (Win.desc s d t) (by have := Win.len_le s d t; omega) w1 w1
    (back_feeds Fence.wide Over.wide 9 (by omega) s d t w.heap.size w1 b2.lt b0 b1 b2) (Below.refl _ _))
  rw [hw1]
  clear hw1 b0 b1 b2
  refine HF.out.mono ?_
  rintro e w2 ⟨A, c, rfl, h1, h2, h3, h4⟩
  have H3 := Lib.hid h3
  have HB := Lib.hid (below_next hb.out h4)
  clear h3 h4
  go_wp2_with fail
  go_ret
  exact ⟨A, c, by simp only [Win.of, List.length_reverse]; rfl, h1, h2, H3.out, HB.out⟩
set_option maxRecDepth 100000 in
theorem winOpen (s d t m : Int) (w : World) : Calls Try.prog 16 #[.int .i64 s, .int .i64 d, .int .i64 t, .int .i64 m] w (GivesW (Win.open_ s d t m) w) := by
  go_enter Try.func16, Try.ntmps16
  go_wp2_with (first
    | (go_at_call 19; refine (winBackwards _ _ _ _).mono ?_; rintro e w' ⟨rfl, rfl⟩)
    | (go_at_call 21; refine (winUntil _ _ _ _).mono ?_; rintro e w' ⟨rfl, rfl⟩))
  obtain ⟨w1, hw1⟩ : ∃ w1, ((w.alloc (.cells #[.int .i64 s] 2)).alloc (.cells #[.int .i64 d] 2)).alloc (.cells #[.int .i64 t] 2) = w1 := ⟨_, rfl⟩
  have b0 : Boxed w1 w.heap.size 2 (.int .i64 s) := by rw [← hw1]; exact ((Boxed.new w 2 _).alloc _).alloc _
  have b1 : Boxed w1 (w.heap.size + 1) 2 (.int .i64 d) := by rw [← hw1]; have := (Boxed.new (w.alloc (.cells #[.int .i64 s] 2)) 2 (.int .i64 d)).alloc (.cells #[.int .i64 t] 2); rwa [World.size_alloc] at this
  have b2 : Boxed w1 (w.heap.size + 2) 2 (.int .i64 t) := by rw [← hw1]; have := Boxed.new ((w.alloc (.cells #[.int .i64 s] 2)).alloc (.cells #[.int .i64 d] 2)) 2 (.int .i64 t); simpa only [World.size_alloc] using this
  have hb : Hid (Below w.heap.size w w1) := Lib.hid (by rw [← hw1]; exact (((Below.refl _ w).alloc (Nat.le_refl _) _).alloc (by simp) _).alloc (by simp; omega) _)
  have hz : w1.heap.size = w.heap.size + 3 := by rw [← hw1]; simp
  rw [hw1]
  obtain ⟨b, hbb⟩ : ∃ b, w.heap.size + 1 + 1 + 1 = b := ⟨_, rfl⟩
  rw [hbb]
  have hb1 : b = w1.heap.size := by omega
  obtain ⟨w2, hw2⟩ : ∃ w2, (w1.alloc (.cells #[.func (.func 24) #[] #[.pointer (some ⟨w.heap.size, 0, none⟩), .pointer (some ⟨w.heap.size + 1, 0, none⟩), .pointer (some ⟨w.heap.size + 2, 0, none⟩)]] 37)).alloc (.cells #[.int .i64 m] 2) = w2 := ⟨_, rfl⟩
  have c0 : Boxed w2 b 37 (.func (.func 24) #[] #[.pointer (some ⟨w.heap.size, 0, none⟩), .pointer (some ⟨w.heap.size + 1, 0, none⟩), .pointer (some ⟨w.heap.size + 2, 0, none⟩)]) := by rw [← hw2, hb1]; exact (Boxed.new w1 37 _).alloc _
  have c1 : Boxed w2 (b + 1) 2 (.int .i64 m) := by rw [← hw2, hb1]; have := Boxed.new (w1.alloc (.cells #[.func (.func 24) #[] #[.pointer (some ⟨w.heap.size, 0, none⟩), .pointer (some ⟨w.heap.size + 1, 0, none⟩), .pointer (some ⟨w.heap.size + 2, 0, none⟩)]] 37)) 2 (.int .i64 m); simpa only [World.size_alloc] using this
  have hw12 : Below w1.heap.size w1 w2 := by rw [← hw2]; exact ((Below.refl _ w1).alloc (Nat.le_refl _) _).alloc (by simp) _
  have hb2 : Hid (Below w.heap.size w w2) := Lib.hid (below_next hb.out hw12)
  have HF := Lib.hid (winForwards Fence.wide Over.wide 20 (by omega) 29 _ (enters_of Try.func29 (by kernel_rfl) rfl) ((Win.desc s d t).takeWhile fun p => decide (m < p.2))
    (by have := Win.len_le s d t; have := (List.takeWhile_sublist (fun p : Int × Int => decide (m < p.2)) (l := Win.desc s d t)).length_le; omega) w2 w2
    (until_feeds Fence.wide Over.wide 19 (by omega) m b _ _ (enters_of Try.func24 (by kernel_rfl) rfl) (Win.desc s d t) w1 w2
      (back_feeds Fence.wide Over.wide 18 (by omega) s d t w.heap.size w1 b2.lt b0 b1 b2) hw12 c1.lt c0 c1) (Below.refl _ _))
  rw [hw2]
  clear hw1 hw2 b0 b1 b2 c0 c1 hw12 hbb hb1 hz
  refine HF.out.mono ?_
  rintro e w3 ⟨A, c, rfl, h1, h2, h3, h4⟩
  have H3 := Lib.hid h3
  have HB := Lib.hid (below_next hb2.out h4)
  clear h3 h4
  go_wp2_with fail
  go_ret
  exact ⟨A, c, by simp only [Win.open_, List.length_reverse]; rfl, h1, h2, H3.out, HB.out⟩
end Go.Proofs.Ytehnhhkhnedgeaa
