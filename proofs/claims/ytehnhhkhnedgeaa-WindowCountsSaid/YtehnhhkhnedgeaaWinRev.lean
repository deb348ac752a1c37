/- slices.Reverse over a row of windows of the call's own; the makers of rows: Of, Open. -/
import Derived.Test.YtehnhhkhnedgeaaWinCollect
import Derived.RegionTactic
import Derived.BigRegion
import Derived.ChangeAlike
import Derived.LoopTactic
namespace Go.Proofs.Ytehnhhkhnedgeaa
open Go.RowKit Go.Shelf Tick
set_option linter.unusedVariables false
theorem wc_set {ys : List (Int × Int)} {i : Nat} (x : Int × Int) (h : i < ys.length) : ((wc ys).set (i * 2) (.int .i64 x.1)).set (i * 2 + 1) (.int .i64 x.2) = wc (ys.set i x) := by
  induction ys generalizing i with
  | nil => simp at h
  | cons y r ih =>
    cases i with
    | zero => simp [wc]
    | succ i =>
      have e : wc (y :: r) = .int .i64 y.1 :: .int .i64 y.2 :: wc r := by simp [wc]
      have e2 : wc ((y :: r).set (i + 1) x) = .int .i64 y.1 :: .int .i64 y.2 :: wc (r.set i x) := by simp [wc]
      rw [e, e2, show (i + 1) * 2 = i * 2 + 1 + 1 by omega]
      simp only [List.set_cons_succ]
      rw [ih (by simpa using h)]
theorem own_setW {w : World} {B n cap g : Nat} {ys : List (Int × Int)} (h : w.ownsRow B 29 2 (.slice (some ⟨g, 0, none⟩) n cap) n (wc ys)) {i : Nat} (x : Int × Int) (hi : i < ys.length) :
    ((w.setCell ⟨g, i * 2, none⟩ (.int .i64 x.1)).setCell ⟨g, i * 2 + 1, none⟩ (.int .i64 x.2)).ownsRow B 29 2 (.slice (some ⟨g, 0, none⟩) n cap) n (wc (ys.set i x)) := by
  have h1 := (h.stored (i * 2) (.int .i64 x.1)).1
  have h2 := (h1.stored (i * 2 + 1) (.int .i64 x.2)).1
  rwa [wc_set x hi] at h2
theorem own_cells {w : World} {B n cap g : Nat} {ys : List (Int × Int)} (h : w.ownsRow B 29 2 (.slice (some ⟨g, 0, none⟩) n cap) n (wc ys)) {i : Nat} {x : Int × Int} (hi : ys[i]? = some x) :
    w.cell? ⟨g, i * 2, none⟩ = some (.int .i64 x.1) ∧ w.cell? ⟨g, i * 2 + 1, none⟩ = some (.int .i64 x.2) ∧ w.frozen? ⟨g, i * 2, none⟩ = false ∧ w.frozen? ⟨g, i * 2 + 1, none⟩ = false := by
  have hl := h.1
  rw [wc_len] at hl
  have := (List.getElem?_eq_some_iff.1 hi).1
  refine ⟨?_, ?_, h.frozenAt _, h.frozenAt _⟩
  · rw [h.cellAt _ (by omega)]; exact wc_0 hi
  · rw [h.cellAt _ (by omega)]; exact wc_1 hi
namespace Rev
/-- The row behind i rounds. -/
def at_ (xs : List (Int × Int)) (i : Nat) (ys : List (Int × Int)) : Prop :=
  ys.length = xs.length ∧ ∀ k, k < xs.length → ys[k]? = if k < i ∨ xs.length ≤ k + i then xs[xs.length - 1 - k]? else xs[k]?
theorem start (xs : List (Int × Int)) : at_ xs 0 xs := ⟨rfl, fun k hk => by rw [if_neg (by omega)]⟩
theorem done {xs ys : List (Int × Int)} {i : Nat} (h : at_ xs i ys) (hi : xs.length ≤ 2 * i + 1) : ys = xs.reverse := by
  obtain ⟨hl, h⟩ := h
  apply List.ext_getElem?
  intro k
  by_cases hk : k < xs.length
  · rw [h k hk, List.getElem?_reverse hk]
    split
    · rfl
    · rw [show xs.length - 1 - k = k by omega]
  · rw [List.getElem?_eq_none (by omega), List.getElem?_eq_none (by simp; omega)]
theorem step {xs ys : List (Int × Int)} {i : Nat} (h : at_ xs i ys) (hi : 2 * i + 1 < xs.length) (a b : Int × Int) (ha : ys[i]? = some a) (hb : ys[xs.length - 1 - i]? = some b) : at_ xs (i + 1) ((ys.set i b).set (xs.length - 1 - i) a) := by
  obtain ⟨hl, h⟩ := h
  refine ⟨by simp [hl], fun k hk => ?_⟩
  have ei := h i (by omega)
  have ej := h (xs.length - 1 - i) (by omega)
  rw [if_neg (by omega)] at ei ej
  rw [ha] at ei
  rw [hb] at ej
  rw [List.getElem?_set, List.getElem?_set]
  by_cases h1 : xs.length - 1 - i = k
  · subst h1
    rw [if_pos rfl, if_pos (by simp; omega), if_pos (by omega), show xs.length - 1 - (xs.length - 1 - i) = i by omega, ei]
  · rw [if_neg h1]
    by_cases h2 : i = k
    · subst h2
      rw [if_pos rfl, if_pos (by omega), if_pos (by omega), ej]
    · rw [if_neg h2, h k hk]
      by_cases h3 : k < i ∨ xs.length ≤ k + i
      · rw [if_pos h3, if_pos (by omega)]
      · rw [if_neg h3, if_neg (by omega)]
end Rev
set_option maxRecDepth 100000 in
set_option maxHeartbeats 2000000 in
theorem reverse_some (xs : List (Int × Int)) (B g cap : Nat) (w : World) (hlen : xs.length ≤ 100000) (hBg : B ≤ g) (h : w.ownsRow B 29 2 (.slice (some ⟨g, 0, none⟩) xs.length cap) xs.length (wc xs)) :
    Calls Try.prog 23 #[.slice (some ⟨g, 0, none⟩) xs.length cap] w fun e w' => e = .returned (.tuple #[]) ∧
      w'.ownsRow B 29 2 (.slice (some ⟨g, 0, none⟩) xs.length cap) xs.length (wc xs.reverse) ∧ Below B w w' := by
  have H := Lib.hid h
  clear h
  go_enter Try.func23, Try.ntmps23
  go_wp2_with fail
  go_loopw [2, 3] (fun s2 s3 wr => ∃ (i : Nat) (ys : List (Int × Int)), s2 = .int .i64 i ∧ s3 = .int .i64 ((xs.length : Int) - 1 - i) ∧ i ≤ xs.length ∧ Rev.at_ xs i ys ∧ wr.ownsRow B 29 2 (.slice (some ⟨g, 0, none⟩) xs.length cap) xs.length (wc ys) ∧ Below B w wr)
    (fun s2 _ _ => xs.length - (intOf s2).toNat)
  case atStart => exact ⟨0, xs, rfl, by simp, by omega, Rev.start xs, H.out, Below.refl _ _⟩
  case round =>
    obtain ⟨i, ys, rfl, rfl, hi, hat, hown, hb⟩ := hrel
    by_cases hlt : 2 * i + 1 < xs.length
    · have hl : ys.length = xs.length := hat.1
      obtain ⟨j, hj⟩ : ∃ j, j = xs.length - 1 - i := ⟨_, rfl⟩
      have ej : (xs.length : Int) - 1 - i = (j : Int) := by omega
      rw [ej]
      obtain ⟨a, ha⟩ : ∃ a, ys[i]? = some a := ⟨_, List.getElem?_eq_getElem (by omega)⟩
      obtain ⟨b, hb'⟩ : ∃ b, ys[j]? = some b := ⟨_, List.getElem?_eq_getElem (by omega)⟩
      obtain ⟨i1, i2, i3, i4⟩ := own_cells hown ha
      obtain ⟨j1, j2, j3, j4⟩ := own_cells hown hb'
      have HA := Lib.hid ha
      have HB := Lib.hid hb'
      have HAT := Lib.hid hat
      have HO := Lib.hid hown
      have HBE := Lib.hid hb
      have HL := Lib.hid hl
      have hij : i < j := by omega
      have hjn : j < xs.length := by omega
      have HJ := Lib.hid hj
      have EJ := Lib.hid ej
      clear ha hb' hat hown hb hl hj ej
      go_wp2_with fail
      go_region
      have HO2 := Lib.hid (own_setW (own_setW HO.out b (i := i) (by have := HL.out; omega)) a (i := j) (by have := HL.out; simp; omega)).drew
      have HA2 := Lib.hid (Rev.step HAT.out hlt a b HA.out (by rw [← HJ.out]; exact HB.out))
      have HB2 : Hid (Below B w ((((wr.setCell ⟨g, i * 2, none⟩ (.int .i64 b.1)).setCell ⟨g, i * 2 + 1, none⟩ (.int .i64 b.2)).setCell ⟨g, j * 2, none⟩ (.int .i64 a.1)).setCell ⟨g, j * 2 + 1, none⟩ (.int .i64 a.2)).drew) :=
        Lib.hid (((((HBE.out.setCell (p := ⟨g, i * 2, none⟩) hBg _).setCell (p := ⟨g, i * 2 + 1, none⟩) hBg _).setCell (p := ⟨g, j * 2, none⟩) hBg _).setCell (p := ⟨g, j * 2 + 1, none⟩) hBg _).drew)
      clear i1 i2 i3 i4 j1 j2 j3 j4
      go_wp2
      go_roundw
      case rel => exact ⟨i + 1, _, by go_num, by rw [← EJ.out]; congr 1; push_cast; omega, by omega, by rw [← HJ.out] at HA2; exact HA2.out, HO2.out, HB2.out⟩
      case measure => simp [intOf]; omega
    · have hle : xs.length ≤ 2 * i + 1 := by omega
      have hge : (xs.length : Int) - 1 - i ≤ i := by omega
      have HD := Lib.hid (Rev.done hat hle)
      have HO := Lib.hid hown
      have HBE := Lib.hid hb
      clear hat hown hb hlt
      go_wp2_with fail
      go_end0
      refine ⟨rfl, ?_, HBE.out⟩
      rw [← HD.out]
      exact HO.out
theorem reverse_none (c : Nat) (w : World) :
    Calls Try.prog 23 #[.slice none 0 c] w fun e w' => e = .returned (.tuple #[]) ∧ w = w' := by
  go_enter Try.func23, Try.ntmps23
  go_wp2_with fail
  go_loop [2, 3] (fun s2 s3 => s2 = .int .i64 0 ∧ s3 = .int .i64 (-1)) (fun _ _ => 0)
  case atStart => exact ⟨rfl, rfl⟩
  case round =>
    obtain ⟨rfl, rfl⟩ := hrel
    go_wp2_with fail
    go_end0
    exact ⟨rfl, rfl⟩
/-- Whatever row of windows of the call's own is turned round in its place. -/
theorem reverse (xs : List (Int × Int)) (B : Nat) (v : Value) (w : World) (hlen : xs.length ≤ 100000) (h : w.ownsRow B 29 2 v xs.length (wc xs)) :
    Calls Try.prog 23 #[v] w fun e w' => e = .returned (.tuple #[]) ∧ w'.ownsRow B 29 2 v xs.length (wc xs.reverse) ∧ Below B w w' := by
  have h' := h
  obtain ⟨hl, ⟨rfl, h0⟩ | ⟨g, cap, cur, rfl, hg, hh, hn, hm, hc, hx⟩⟩ := h
  · have e : xs = [] := List.eq_nil_of_length_eq_zero h0
    subst e
    refine (reverse_none 0 w).mono ?_
    rintro e w' ⟨rfl, rfl⟩
    exact ⟨rfl, h', Below.refl _ _⟩
  · exact reverse_some xs B g cap w hlen hg h'
end Go.Proofs.Ytehnhhkhnedgeaa
