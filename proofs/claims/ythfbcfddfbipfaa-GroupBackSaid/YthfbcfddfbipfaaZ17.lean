/- WinRev, WinOf, put together. -/
import Derived.Test.YthfbcfddfbipfaaZ16
import Derived.RegionTactic
import Derived.BigRegion
import Derived.ChangeAlike
import Derived.LoopTactic
/- slices.Reverse over a row of windows of the call's own; the makers of rows: Of, Open. -/
namespace Go.Proofs.Ythfbcfddfbipfaa
open Go.RowKit Go.Shelf Tick
set_option linter.unusedVariables false
theorem wc_set {ys : List (Int × Int)} {i : Nat} (x : Int × Int) (h : i < ys.length) : ((wc ys).set (i * 2) (.int .i64 x.1)).set (i * 2 + 1) (.int .i64 x.2) = wc (ys.set i x) := by
  induction ys generalizing i with
  | nil => simp at h
  | cons y r ih =>
    cases i with
    | zero => simp [wc]
    | succ i =>
      have e : wc (y :: r) = .int .i64 y.1 :: .int .i64 y.2 :: wc r := by simp [wc]
      have e2 : wc ((y :: r).set (i + 1) x) = .int .i64 y.1 :: .int .i64 y.2 :: wc (r.set i x) := by simp [wc]
      rw [e, e2, show (i + 1) * 2 = i * 2 + 1 + 1 by omega]
      simp only [List.set_cons_succ]
      rw [ih (by simpa using h)]
theorem own_setW {w : World} {B n cap g : Nat} {ys : List (Int × Int)} (h : w.ownsRow B 55 2 (.slice (some ⟨g, 0, none⟩) n cap) n (wc ys)) {i : Nat} (x : Int × Int) (hi : i < ys.length) :
    ((w.setCell ⟨g, i * 2, none⟩ (.int .i64 x.1)).setCell ⟨g, i * 2 + 1, none⟩ (.int .i64 x.2)).ownsRow B 55 2 (.slice (some ⟨g, 0, none⟩) n cap) n (wc (ys.set i x)) := by
  have h1 := (h.stored (i * 2) (.int .i64 x.1)).1
  have h2 := (h1.stored (i * 2 + 1) (.int .i64 x.2)).1
  rwa [wc_set x hi] at h2
theorem own_cells {w : World} {B n cap g : Nat} {ys : List (Int × Int)} (h : w.ownsRow B 55 2 (.slice (some ⟨g, 0, none⟩) n cap) n (wc ys)) {i : Nat} {x : Int × Int} (hi : ys[i]? = some x) :
    w.cell? ⟨g, i * 2, none⟩ = some (.int .i64 x.1) ∧ w.cell? ⟨g, i * 2 + 1, none⟩ = some (.int .i64 x.2) ∧ w.frozen? ⟨g, i * 2, none⟩ = false ∧ w.frozen? ⟨g, i * 2 + 1, none⟩ = false := by
  have hl := h.1
  rw [wc_len] at hl
  have := (List.getElem?_eq_some_iff.1 hi).1
  refine ⟨?_, ?_, h.frozenAt _, h.frozenAt _⟩
  · rw [h.cellAt _ (by omega)]; exact wc_0 hi
  · rw [h.cellAt _ (by omega)]; exact wc_1 hi
namespace Rev
/-- The row behind i rounds. -/
def at_ (xs : List (Int × Int)) (i : Nat) (ys : List (Int × Int)) : Prop :=
  ys.length = xs.length ∧ ∀ k, k < xs.length → ys[k]? = if k < i ∨ xs.length ≤ k + i then xs[xs.length - 1 - k]? else xs[k]?
theorem start (xs : List (Int × Int)) : at_ xs 0 xs := ⟨rfl, fun k hk => by rw [if_neg (by omega)]⟩
theorem done {xs ys : List (Int × Int)} {i : Nat} (h : at_ xs i ys) (hi : xs.length ≤ 2 * i + 1) : ys = xs.reverse := by
  obtain ⟨hl, h⟩ := h
  apply List.ext_getElem?
  intro k
  by_cases hk : k < xs.length
  · rw [h k hk, List.getElem?_reverse hk]
    split
    · rfl
    · rw [show xs.length - 1 - k = k by omega]
  · rw [List.getElem?_eq_none (by omega), List.getElem?_eq_none (by simp; omega)]
theorem step {xs ys : List (Int × Int)} {i : Nat} (h : at_ xs i ys) (hi : 2 * i + 1 < xs.length) (a b : Int × Int) (ha : ys[i]? = some a) (hb : ys[xs.length - 1 - i]? = some b) : at_ xs (i + 1) ((ys.set i b).set (xs.length - 1 - i) a) := by
  obtain ⟨hl, h⟩ := h
  refine ⟨by simp [hl], fun k hk => ?_⟩
  have ei := h i (by omega)
  have ej := h (xs.length - 1 - i) (by omega)
  rw [if_neg (by omega)] at ei ej
  rw [ha] at ei
  rw [hb] at ej
  rw [List.getElem?_set, List.getElem?_set]
  by_cases h1 : xs.length - 1 - i = k
  · subst h1
    rw [if_pos rfl, if_pos (by simp; omega), if_pos (by omega), show xs.length - 1 - (xs.length - 1 - i) = i by omega, ei]
  · rw [if_neg h1]
    by_cases h2 : i = k
    · subst h2
      rw [if_pos rfl, if_pos (by omega), if_pos (by omega), ej]
    · rw [if_neg h2, h k hk]
      by_cases h3 : k < i ∨ xs.length ≤ k + i
      · rw [if_pos h3, if_pos (by omega)]
      · rw [if_neg h3, if_neg (by omega)]
end Rev
set_option maxRecDepth 100000 in
set_option maxHeartbeats 2000000 in
theorem reverse_some (xs : List (Int × Int)) (B g cap : Nat) (w : World) (hlen : xs.length ≤ 100000) (hBg : B ≤ g) (h : w.ownsRow B 55 2 (.slice (some ⟨g, 0, none⟩) xs.length cap) xs.length (wc xs)) :
    Calls Try.prog 97 #[.slice (some ⟨g, 0, none⟩) xs.length cap] w fun e w' => e = .returned (.tuple #[]) ∧
      w'.ownsRow B 55 2 (.slice (some ⟨g, 0, none⟩) xs.length cap) xs.length (wc xs.reverse) ∧ Below B w w' := by
  have H := Lib.hid h
  clear h
  go_enter Try.func97, Try.ntmps97
  go_wp2_with fail
  go_loopw [2, 3] (fun s2 s3 wr => ∃ (i : Nat) (ys : List (Int × Int)), s2 = .int .i64 i ∧ s3 = .int .i64 ((xs.length : Int) - 1 - i) ∧ i ≤ xs.length ∧ Rev.at_ xs i ys ∧ wr.ownsRow B 55 2 (.slice (some ⟨g, 0, none⟩) xs.length cap) xs.length (wc ys) ∧ Below B w wr)
    (fun s2 _ _ => xs.length - (intOf s2).toNat)
  case atStart => exact ⟨0, xs, rfl, by simp, by omega, Rev.start xs, H.out, Below.refl _ _⟩
  case round =>
    obtain ⟨i, ys, rfl, rfl, hi, hat, hown, hb⟩ := hrel
    by_cases hlt : 2 * i + 1 < xs.length
    · have hl : ys.length = xs.length := hat.1
      obtain ⟨j, hj⟩ : ∃ j, j = xs.length - 1 - i := ⟨_, rfl⟩
      have ej : (xs.length : Int) - 1 - i = (j : Int) := by omega
      rw [ej]
      obtain ⟨a, ha⟩ : ∃ a, ys[i]? = some a := ⟨_, List.getElem?_eq_getElem (by omega)⟩
      obtain ⟨b, hb'⟩ : ∃ b, ys[j]? = some b := ⟨_, List.getElem?_eq_getElem (by omega)⟩
      obtain ⟨i1, i2, i3, i4⟩ := own_cells hown ha
      obtain ⟨j1, j2, j3, j4⟩ := own_cells hown hb'
      have HA := Lib.hid ha
      have HB := Lib.hid hb'
      have HAT := Lib.hid hat
      have HO := Lib.hid hown
      have HBE := Lib.hid hb
      have HL := Lib.hid hl
      have hij : i < j := by omega
      have hjn : j < xs.length := by omega
      have HJ := Lib.hid hj
      have EJ := Lib.hid ej
      clear ha hb' hat hown hb hl hj ej
      go_wp2_with fail
      go_region
      have HO2 := Lib.hid (own_setW (own_setW HO.out b (i := i) (by have := HL.out; omega)) a (i := j) (by have := HL.out; simp; omega)).drew
      have HA2 := Lib.hid (Rev.step HAT.out hlt a b HA.out (by rw [← HJ.out]; exact HB.out))
      have HB2 : Hid (Below B w ((((wr.setCell ⟨g, i * 2, none⟩ (.int .i64 b.1)).setCell ⟨g, i * 2 + 1, none⟩ (.int .i64 b.2)).setCell ⟨g, j * 2, none⟩ (.int .i64 a.1)).setCell ⟨g, j * 2 + 1, none⟩ (.int .i64 a.2)).drew) :=
        Lib.hid (((((HBE.out.setCell (p := ⟨g, i * 2, none⟩) hBg _).setCell (p := ⟨g, i * 2 + 1, none⟩) hBg _).setCell (p := ⟨g, j * 2, none⟩) hBg _).setCell (p := ⟨g, j * 2 + 1, none⟩) hBg _).drew)
      clear i1 i2 i3 i4 j1 j2 j3 j4
      go_wp2
      go_roundw
      case rel => exact ⟨i + 1, _, by go_num, by rw [← EJ.out]; congr 1; push_cast; omega, by omega, by rw [← HJ.out] at HA2; exact HA2.out, HO2.out, HB2.out⟩
      case measure => simp [intOf]; omega
    · have hle : xs.length ≤ 2 * i + 1 := by omega
      have hge : (xs.length : Int) - 1 - i ≤ i := by omega
      have HD := Lib.hid (Rev.done hat hle)
      have HO := Lib.hid hown
      have HBE := Lib.hid hb
      clear hat hown hb hlt
      go_wp2_with fail
      go_end0
      refine ⟨rfl, ?_, HBE.out⟩
      rw [← HD.out]
      exact HO.out
theorem reverse_none (c : Nat) (w : World) :
    Calls Try.prog 97 #[.slice none 0 c] w fun e w' => e = .returned (.tuple #[]) ∧ w = w' := by
  go_enter Try.func97, Try.ntmps97
  go_wp2_with fail
  go_loop [2, 3] (fun s2 s3 => s2 = .int .i64 0 ∧ s3 = .int .i64 (-1)) (fun _ _ => 0)
  case atStart => exact ⟨rfl, rfl⟩
  case round =>
    obtain ⟨rfl, rfl⟩ := hrel
    go_wp2_with fail
    go_end0
    exact ⟨rfl, rfl⟩
/-- Whatever row of windows of the call's own is turned round in its place. -/
theorem reverse (xs : List (Int × Int)) (B : Nat) (v : Value) (w : World) (hlen : xs.length ≤ 100000) (h : w.ownsRow B 55 2 v xs.length (wc xs)) :
    Calls Try.prog 97 #[v] w fun e w' => e = .returned (.tuple #[]) ∧ w'.ownsRow B 55 2 v xs.length (wc xs.reverse) ∧ Below B w w' := by
  have h' := h
  obtain ⟨hl, ⟨rfl, h0⟩ | ⟨g, cap, cur, rfl, hg, hh, hn, hm, hc, hx⟩⟩ := h
  · have e : xs = [] := List.eq_nil_of_length_eq_zero h0
    subst e
    refine (reverse_none 0 w).mono ?_
    rintro e w' ⟨rfl, rfl⟩
    exact ⟨rfl, h', Below.refl _ _⟩
  · exact reverse_some xs B g cap w hlen hg h'
end Go.Proofs.Ythfbcfddfbipfaa
/- Of and Open: the rows that the program makes. -/
namespace Go.Proofs.Ythfbcfddfbipfaa
open Go.RowKit Go.Shelf Tick
set_option linter.unusedVariables false
/-- A call that hands back a new row of windows. -/
def GivesW (xs : List (Int × Int)) (w : World) (e : Ending) (w' : World) : Prop :=
  ∃ A c, e = .returned (.slice A xs.length c) ∧ xs.length ≤ c ∧ c ≤ maxLen ∧ Row w' A (wc xs) ∧ Below w.heap.size w w'
theorem gives_own {xs : List (Int × Int)} {w w' : World} {B n : Nat} {v : Value} (h : w'.ownsRow B 55 2 v n (wc xs)) (hn : n = xs.length) (hb : Below w.heap.size w w') : GivesW xs w (.returned v) w' := by
  subst hn
  obtain ⟨A, c, rfl, h1, h2, h3, h4, _⟩ := own_form h (by omega)
  exact ⟨A, c, rfl, h1, h2, h4, hb⟩
theorem winForwards (F : Fence) (hF : Over.Wide F) (n : Nat) (hn : 5 ≤ n) (g : Nat) (lb : Array Value) (eg : ∀ args w, (callFunc g args).run Try.prog w = .ok (.enter g args) w) (xs : List (Int × Int)) (hlen : xs.length ≤ 100000) (w0 w : World)
    (hseq : Over.Feeds F (n - 1) Try.prog g lb (fun x => #[winV x]) xs w0) (hw : Below w0.heap.size w0 w) :
    Calls Try.prog 60 #[.func (.func g) #[] lb] w (GivesW xs.reverse w) := by
  have HC := Lib.hid (collect F hF n hn g lb eg xs hlen w0 w hseq hw)
  clear hseq hw eg
  go_enter Try.func60, Try.ntmps60
  go_wp2_with fail
  refine HC.out.mono ?_
  rintro e w1 ⟨v, rfl, h1, h2⟩
  have HR := Lib.hid (reverse xs w.heap.size v w1 hlen h1)
  have HB := Lib.hid h2
  obtain ⟨A, c, rfl, _, _, _, _, _⟩ := own_form h1 (by omega)
  clear h1 h2
  go_wp2_with fail
  refine HR.out.mono ?_
  rintro e w2 ⟨rfl, h1, h2⟩
  have H1 := Lib.hid h1
  have H2 := Lib.hid (HB.out.trans h2)
  clear h1 h2
  go_wp2_with fail
  go_ret
  exact gives_own H1.out (by simp) H2.out
set_option maxRecDepth 100000 in
theorem winOf (s d t : Int) (w : World) : Calls Try.prog 28 #[.int .i64 s, .int .i64 d, .int .i64 t] w (GivesW (Win.of s d t) w) := by
  go_enter Try.func28, Try.ntmps28
  go_wp2_with (go_at_call 61; refine (winBackwards _ _ _ _).mono ?_; rintro e w' ⟨rfl, rfl⟩)
  obtain ⟨w1, hw1⟩ : ∃ w1, ((w.alloc (.cells #[.int .i64 s] 2)).alloc (.cells #[.int .i64 d] 2)).alloc (.cells #[.int .i64 t] 2) = w1 := ⟨_, rfl⟩
  have b0 : Boxed w1 w.heap.size 2 (.int .i64 s) := by rw [← hw1]; exact ((Boxed.new w 2 _).alloc _).alloc _
  have b1 : Boxed w1 (w.heap.size + 1) 2 (.int .i64 d) := by rw [← hw1]; have := (Boxed.new (w.alloc (.cells #[.int .i64 s] 2)) 2 (.int .i64 d)).alloc (.cells #[.int .i64 t] 2); rwa [World.size_alloc] at this
  have b2 : Boxed w1 (w.heap.size + 2) 2 (.int .i64 t) := by rw [← hw1]; have := Boxed.new ((w.alloc (.cells #[.int .i64 s] 2)).alloc (.cells #[.int .i64 d] 2)) 2 (.int .i64 t); simpa only [World.size_alloc] using this
  have hb : Hid (Below w.heap.size w w1) := Lib.hid (by rw [← hw1]; exact (((Below.refl _ w).alloc (Nat.le_refl _) _).alloc (by simp) _).alloc (by simp; omega) _)
  have HF := Lib.hid (winForwards Fence.wide Over.wide 10 (by omega) 98 _ (enters_of Try.func98 (by kernel_rfl) rfl) (Win.desc s d t) (by have := Win.len_le s d t; omega) w1 w1
    (back_feeds Fence.wide Over.wide 9 (by omega) s d t w.heap.size w1 b2.lt b0 b1 b2) (Below.refl _ _))
  rw [hw1]
  clear hw1 b0 b1 b2
  refine HF.out.mono ?_
  rintro e w2 ⟨A, c, rfl, h1, h2, h3, h4⟩
  have H3 := Lib.hid h3
  have HB := Lib.hid (below_next hb.out h4)
  clear h3 h4
  go_wp2_with fail
  go_ret
  exact ⟨A, c, by simp only [Win.of, List.length_reverse]; rfl, h1, h2, H3.out, HB.out⟩
set_option maxRecDepth 100000 in
theorem winOpen (s d t m : Int) (w : World) : Calls Try.prog 30 #[.int .i64 s, .int .i64 d, .int .i64 t, .int .i64 m] w (GivesW (Win.open_ s d t m) w) := by
  go_enter Try.func30, Try.ntmps30
  go_wp2_with (first
    | (go_at_call 61; refine (winBackwards _ _ _ _).mono ?_; rintro e w' ⟨rfl, rfl⟩)
    | (go_at_call 64; refine (winUntil _ _ _ _).mono ?_; rintro e w' ⟨rfl, rfl⟩))
  obtain ⟨w1, hw1⟩ : ∃ w1, ((w.alloc (.cells #[.int .i64 s] 2)).alloc (.cells #[.int .i64 d] 2)).alloc (.cells #[.int .i64 t] 2) = w1 := ⟨_, rfl⟩
  have b0 : Boxed w1 w.heap.size 2 (.int .i64 s) := by rw [← hw1]; exact ((Boxed.new w 2 _).alloc _).alloc _
  have b1 : Boxed w1 (w.heap.size + 1) 2 (.int .i64 d) := by rw [← hw1]; have := (Boxed.new (w.alloc (.cells #[.int .i64 s] 2)) 2 (.int .i64 d)).alloc (.cells #[.int .i64 t] 2); rwa [World.size_alloc] at this
  have b2 : Boxed w1 (w.heap.size + 2) 2 (.int .i64 t) := by rw [← hw1]; have := Boxed.new ((w.alloc (.cells #[.int .i64 s] 2)).alloc (.cells #[.int .i64 d] 2)) 2 (.int .i64 t); simpa only [World.size_alloc] using this
  have hb : Hid (Below w.heap.size w w1) := Lib.hid (by rw [← hw1]; exact (((Below.refl _ w).alloc (Nat.le_refl _) _).alloc (by simp) _).alloc (by simp; omega) _)
  have hz : w1.heap.size = w.heap.size + 3 := by rw [← hw1]; simp
  rw [hw1]
  obtain ⟨b, hbb⟩ : ∃ b, w.heap.size + 1 + 1 + 1 = b := ⟨_, rfl⟩
  rw [hbb]
  have hb1 : b = w1.heap.size := by omega
  obtain ⟨w2, hw2⟩ : ∃ w2, (w1.alloc (.cells #[.func (.func 98) #[] #[.pointer (some ⟨w.heap.size, 0, none⟩), .pointer (some ⟨w.heap.size + 1, 0, none⟩), .pointer (some ⟨w.heap.size + 2, 0, none⟩)]] 99)).alloc (.cells #[.int .i64 m] 2) = w2 := ⟨_, rfl⟩
  have c0 : Boxed w2 b 99 (.func (.func 98) #[] #[.pointer (some ⟨w.heap.size, 0, none⟩), .pointer (some ⟨w.heap.size + 1, 0, none⟩), .pointer (some ⟨w.heap.size + 2, 0, none⟩)]) := by rw [← hw2, hb1]; exact (Boxed.new w1 99 _).alloc _
  have c1 : Boxed w2 (b + 1) 2 (.int .i64 m) := by rw [← hw2, hb1]; have := Boxed.new (w1.alloc (.cells #[.func (.func 98) #[] #[.pointer (some ⟨w.heap.size, 0, none⟩), .pointer (some ⟨w.heap.size + 1, 0, none⟩), .pointer (some ⟨w.heap.size + 2, 0, none⟩)]] 99)) 2 (.int .i64 m); simpa only [World.size_alloc] using this
  have hw12 : Below w1.heap.size w1 w2 := by rw [← hw2]; exact ((Below.refl _ w1).alloc (Nat.le_refl _) _).alloc (by simp) _
  have hb2 : Hid (Below w.heap.size w w2) := Lib.hid (below_next hb.out hw12)
  have HF := Lib.hid (winForwards Fence.wide Over.wide 20 (by omega) 102 _ (enters_of Try.func102 (by kernel_rfl) rfl) ((Win.desc s d t).takeWhile fun p => decide (m < p.2))
    (by have := Win.len_le s d t; have := (List.takeWhile_sublist (fun p : Int × Int => decide (m < p.2)) (l := Win.desc s d t)).length_le; omega) w2 w2
    (until_feeds Fence.wide Over.wide 19 (by omega) m b _ _ (enters_of Try.func98 (by kernel_rfl) rfl) (Win.desc s d t) w1 w2
      (back_feeds Fence.wide Over.wide 18 (by omega) s d t w.heap.size w1 b2.lt b0 b1 b2) hw12 c1.lt c0 c1) (Below.refl _ _))
  rw [hw2]
  clear hw1 hw2 b0 b1 b2 c0 c1 hw12 hbb hb1 hz
  refine HF.out.mono ?_
  rintro e w3 ⟨A, c, rfl, h1, h2, h3, h4⟩
  have H3 := Lib.hid h3
  have HB := Lib.hid (below_next hb2.out h4)
  clear h3 h4
  go_wp2_with fail
  go_ret
  exact ⟨A, c, by simp only [Win.open_, List.length_reverse]; rfl, h1, h2, H3.out, HB.out⟩
end Go.Proofs.Ythfbcfddfbipfaa
