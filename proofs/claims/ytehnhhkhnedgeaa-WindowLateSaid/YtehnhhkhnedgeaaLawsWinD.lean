/- The walk of the law WindowLate. -/
import Derived.Test.YtehnhhkhnedgeaaLawsWin
import Derived.Test.YtehnhhkhnedgeaaWinFactsB
import Derived.WalkSpells
namespace Go.Proofs.Ytehnhhkhnedgeaa
open Go.ChangeShapes Go.WideShapes Go.ChangeAt Go.RowKit
open Tick
set_option linter.unusedVariables false
theorem wc_drop (xs : List (Int × Int)) (j : Nat) : (wc xs).drop (j * 2) = wc (xs.drop j) := by
  rcases Nat.lt_or_ge j xs.length with h | h
  · have e : wc xs = wc (xs.take j) ++ wc (xs.drop j) := by rw [← wc_app, List.take_append_drop]
    have hl : (wc (xs.take j)).length = j * 2 := by rw [wc_len, List.length_take]; omega
    rw [e, ← hl, List.drop_left]
  · rw [List.drop_eq_nil_of_le h, List.drop_eq_nil_of_le (by rw [wc_len]; omega)]; rfl
theorem Row.cutW {w : World} {A : Option Addr} {xs ys : List (Int × Int)} {j : Nat} (h : Row w A (wc xs)) (hy : ys = xs.drop j) : Row w (Option.map (fun x => x.add (j * 2)) A) (wc ys) := by
  subst hy
  rw [← wc_drop]
  rcases h with h | ⟨b, off, rfl, h⟩
  · left; rw [h]; simp
  · refine .inr ⟨b, off + j * 2, by rw [Option.map_some, Go.WideShapes.add_plain], fun i u hu => ?_⟩
    rw [List.getElem?_drop] at hu
    rw [Nat.add_assoc]
    exact h _ _ hu
theorem Row.cutNone {w : World} {A : Option Addr} {ys : List (Int × Int)} {m : Nat} (hm : m = ys.length) (h0 : m = 0) : Row w A (wc ys) := by
  have e : ys = [] := List.eq_nil_of_length_eq_zero (by omega)
  rw [e]; exact Row.nil
set_option maxRecDepth 100000 in
set_option maxHeartbeats 2000000 in
theorem walkWindowLate (s d t mark : Int) (w : World) : Calls Try.prog 7 #[.int .i64 s, .int .i64 d, .int .i64 t, .int .i64 mark] w
    fun e w' => e = .returned (.bool true) ∧ Below w.heap.size w w' := by
  have HO : GivesF 13 #[.int .i64 s, .int .i64 d, .int .i64 t] (Win.of s d t) := ⟨winOf s d t⟩
  have HP : GivesF 16 #[.int .i64 s, .int .i64 d, .int .i64 t, .int .i64 mark] (Win.open_ s d t mark) := ⟨winOpen s d t mark⟩
  have n16 := of_le s d t
  have hmn := Win.open_le_of s d t mark
  have HDROP := Lib.hid (Win.open_drop s d t mark)
  have HIFF := Lib.hid fun (i : Nat) x (h : (Win.of s d t)[i]? = some x) => Win.open_iff (m := mark) h
  have HHI := Lib.hid fun (i : Nat) x (h : (Win.of s d t)[i]? = some x) => Win.of_hi h
  have HALL := Lib.hid (Win.open_all (s := s) (d := d) (t := t) (m := mark))
  obtain ⟨xs, hxs⟩ : ∃ xs, xs = Win.of s d t := ⟨_, rfl⟩
  obtain ⟨ys, hys⟩ : ∃ ys, ys = Win.open_ s d t mark := ⟨_, rfl⟩
  rw [← hxs] at HO n16 hmn HDROP HIFF HHI HALL
  rw [← hys] at HP hmn HDROP HIFF HALL
  obtain ⟨n, hn⟩ : ∃ n, n = xs.length := ⟨_, rfl⟩
  obtain ⟨m, hm⟩ : ∃ m, m = ys.length := ⟨_, rfl⟩
  rw [← hn] at n16 hmn HDROP HIFF HALL
  rw [← hm] at hmn HDROP HIFF HALL
  have HN := Lib.hid hn
  have HM := Lib.hid hm
  have HLK := Lib.hid (likeB ys (by omega))
  rw [← hm] at HLK
  clear hxs hys hn hm
  have hnm : decide (n < m) = false := decide_eq_false (by omega)
  have hA : (t < mark ∧ decide (mark ≤ t) = false) ∨ (mark ≤ t ∧ ((m : Int) != n) = false) := by
    by_cases h : mark ≤ t
    · exact .inr ⟨h, nb0 (by have := HALL.out h; omega)⟩
    · exact .inl ⟨by omega, decide_eq_false h⟩
  rcases hA with ⟨hA, hA2⟩ | ⟨hA, hA2⟩
  all_goals
    go_enter Try.func7, Try.ntmps7
    go_wp2_with fail
    refine (HO.run _).mono ?_
    rintro e w1 ⟨A, c, rfl, k1, k2, k3, k4⟩
    have K3 := Lib.hid k3
    have K4 := Lib.hid k4
    rw [← HN.out] at k1
    rw [← HN.out]
    clear k3 k4
    go_wp2_with fail
    refine (HP.run _).mono ?_
    rintro e w2 ⟨A', c', rfl, m1, m2, m3, m4⟩
    have R1 := Lib.hid (K3.out.below m4)
    have R2 := Lib.hid m3
    have R3 := Lib.hid (below_next K4.out m4)
    rw [← HM.out] at m1
    rw [← HM.out]
    clear m3 m4
    go_wp2_with fail
    clear hA
    go_loopw [42] (fun i wr => ∃ k : Nat, i = .int .i64 k ∧ k ≤ n ∧ Row wr A (wc xs) ∧ Row wr A' (wc ys) ∧ Below w.heap.size w wr) (fun i _ => n - (intOf i).toNat)
    case atStart => exact ⟨0, rfl, Nat.zero_le _, R1.out, R2.out, R3.out⟩
    case round =>
      obtain ⟨k, rfl, hk, hr, hr2, hb⟩ := hrel
      have hbz := hb.size
      have HR := Lib.hid hr
      have HR2 := Lib.hid hr2
      have HB := Lib.hid hb
      clear hr hr2 hb
      by_cases hlt : k < n
      · obtain ⟨⟨lo, hi⟩, hx⟩ : ∃ x, xs[k]? = some x := ⟨_, List.getElem?_eq_getElem (by rw [← HN.out]; exact hlt)⟩
        obtain ⟨p, off, rfl, c0, c1⟩ := HR.out.win hx
        have hp := lt_of_cell c0
        simp only at hp c0 c1
        have h1 := HIFF.out k _ hx
        have h2 : t < hi := HHI.out k _ hx
        simp only at h1
        have HX := Lib.hid hx
        have hcl : decide (hi ≤ t) = false := decide_eq_false (by omega)
        by_cases hs : n - m ≤ k
        · have hs1 : (n : Int) - m ≤ k := by omega
          have hm1 : mark < hi := h1.1 hs
          have hcm : decide (hi ≤ mark) = false := decide_eq_false (by omega)
          clear hx h1 hs
          go_wp2_with (go_at_call 15; refine (winClosed _ _ _ _).mono ?_; rintro e w' ⟨rfl, rfl⟩)
          go_roundw
          case rel => exact ⟨k + 1, by go_num, by omega, HR.out.below ((((Below.refl _ _).alloc (Nat.le_refl _) _).alloc (by simp) _).alloc (by simp; omega) _), HR2.out.below ((((Below.refl _ _).alloc (Nat.le_refl _) _).alloc (by simp) _).alloc (by simp; omega) _), ((HB.out.alloc hbz _).alloc (by simp; omega) _).alloc (by simp; omega) _⟩
          case measure => simp [intOf]; omega
        · have hs1 : (k : Int) < n - m := by omega
          have hm1 : hi ≤ mark := by have := h1.2; omega
          have hcm : decide (hi ≤ mark) = true := decide_eq_true hm1
          clear hx h1 hs
          go_wp2_with (go_at_call 15; refine (winClosed _ _ _ _).mono ?_; rintro e w' ⟨rfl, rfl⟩)
          go_roundw
          case rel => exact ⟨k + 1, by go_num, by omega, HR.out.below ((((Below.refl _ _).alloc (Nat.le_refl _) _).alloc (by simp) _).alloc (by simp; omega) _), HR2.out.below ((((Below.refl _ _).alloc (Nat.le_refl _) _).alloc (by simp) _).alloc (by simp; omega) _), ((HB.out.alloc hbz _).alloc (by simp; omega) _).alloc (by simp; omega) _⟩
          case measure => simp [intOf]; omega
      · have hge : n ≤ k := by omega
        clear hlt
        go_wp2_with (go_at_call 9; refine (lawAlive _).mono ?_; rintro e w' ⟨rfl, rfl⟩)
        all_goals
          try (rw [show n - (n - m) = m from by omega])
          refine (HLK.out _ _ _ _ _ HR2.out (by first | exact Row.cutW HR.out HDROP.out | exact Row.cutNone (HM.out) (by omega))).mono ?_
          rintro e w3 ⟨rfl, hb3⟩
          have HB3 := Lib.hid (below_next HB.out hb3)
          clear hb3
          go_wp2_with fail
          go_ret
          exact ⟨rfl, HB3.out⟩
theorem lawWindowLate : Lift.Owes 7 [2, 2, 2, 2] := by
  intro H enc W base args ds ps hval hA _ _
  obtain ⟨v0, v1, v2, v3, d0, d1, d2, d3, p0, p1, p2, p3, rfl, rfl, rfl, h0, h1, h2, h3⟩ := trodAll_four hA
  obtain ⟨a, rfl, rfl, rfl, w0⟩ := open_int Try.underlying2 (hval 0 _ v0 rfl rfl) h0
  obtain ⟨b, rfl, rfl, rfl, w1⟩ := open_int Try.underlying2 (hval 1 _ v1 rfl rfl) h1
  obtain ⟨c, rfl, rfl, rfl, w2⟩ := open_int Try.underlying2 (hval 2 _ v2 rfl rfl) h2
  obtain ⟨m, rfl, rfl, rfl, w3⟩ := open_int Try.underlying2 (hval 3 _ v3 rfl rfl) h3
  exact walkWindowLate a b c m W
end Go.Proofs.Ytehnhhkhnedgeaa
