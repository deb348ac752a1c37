/- The walks of the window laws: Holds, Opens. -/
import Derived.Test.YtehnhhkhnedgeaaWinLike
import Derived.Test.YtehnhhkhnedgeaaLift
import Derived.Deep.RegionHeld3
import Derived.Lib.SmallJoins
namespace Go.Proofs.Ytehnhhkhnedgeaa
open Go.ChangeShapes Go.WideShapes Go.ChangeAt Go.RowKit
open Tick
set_option linter.unusedVariables false
theorem of_le (s d t : Int) : (Win.of s d t).length ≤ 16 := by rw [Win.of, List.length_reverse]; exact Win.len_le s d t
theorem open_le (s d t m : Int) : (Win.open_ s d t m).length ≤ 16 := by rw [Win.open_eq]; exact Nat.le_trans (List.length_filter_le _ _) (of_le s d t)
set_option maxHeartbeats 1000000 in
theorem walkWindowHolds (s d t : Int) (w : World) : Calls Try.prog 3 #[.int .i64 s, .int .i64 d, .int .i64 t] w fun e w' => e = .returned (.bool true) ∧ Below w.heap.size w w' := by
  obtain ⟨b, hb⟩ : ∃ b, b = Win.ok s d := ⟨_, rfl⟩
  have HR := Lib.hid (winRight s d)
  have HRR := Lib.hid (refRight s d)
  rw [← hb] at HR HRR
  have hl := of_le s d t
  have HO := Lib.hid (winOf s d t)
  have HRO := Lib.hid (refOf s d t)
  obtain ⟨xs, hxs⟩ : ∃ xs, xs = Win.of s d t := ⟨_, rfl⟩
  rw [← hxs] at HO HRO hl
  have HL := Lib.hid (likeSame xs (by omega))
  clear hb hxs
  go_enter Try.func3, Try.ntmps3
  go_wp2_with (first
    | (go_at_call 9; refine (lawAlive _).mono ?_; rintro e w' ⟨rfl, rfl⟩)
    | (go_at_call 10; refine (HR.out _).mono ?_; rintro e w' ⟨rfl, rfl⟩)
    | (go_at_call 11; refine (HRR.out _).mono ?_; rintro e w' ⟨rfl, rfl⟩))
  refine (HO.out _).mono ?_
  rintro e w1 ⟨A, c, rfl, h1, h2, h3, h4⟩
  have H3 := Lib.hid h3
  have H4 := Lib.hid h4
  clear h3 h4
  go_wp2_with fail
  refine (HRO.out _).mono ?_
  rintro e w2 ⟨A', c', rfl, g1, g2, g3, g4⟩
  have G3 := Lib.hid g3
  have G4 := Lib.hid g4
  clear g3 g4
  go_wp2_with fail
  refine (HL.out _ _ _ _ _ (H3.out.below G4.out) G3.out).mono ?_
  rintro e w3 ⟨rfl, n, rfl⟩
  go_wp2_with fail
  go_ret
  exact ⟨rfl, below_drewN (below_next H4.out G4.out)⟩
theorem lawWindowHolds : Lift.Owes 3 [2, 2, 2] := by
  intro H enc W base args ds ps hval hA _ _
  obtain ⟨v0, v1, v2, d0, d1, d2, p0, p1, p2, rfl, rfl, rfl, h0, h1, h2⟩ := trodAll_three hA
  obtain ⟨a, rfl, rfl, rfl, w0⟩ := open_int Try.underlying2 (hval 0 _ v0 rfl rfl) h0
  obtain ⟨b, rfl, rfl, rfl, w1⟩ := open_int Try.underlying2 (hval 1 _ v1 rfl rfl) h1
  obtain ⟨c, rfl, rfl, rfl, w2⟩ := open_int Try.underlying2 (hval 2 _ v2 rfl rfl) h2
  exact walkWindowHolds a b c W
theorem keepW {W a b : World} {p q : Addr} {x y : Value} (hb : Below a.heap.size a b) (h : a.cell? p = some x ∧ a.cell? q = some y ∧ Below W.heap.size W a) : b.cell? p = some x ∧ b.cell? q = some y ∧ Below W.heap.size W b :=
  ⟨(hb.cell (lt_of_cell h.1)).trans h.1, (hb.cell (lt_of_cell h.2.1)).trans h.2.1, below_next h.2.2 hb⟩
structure GivesF (f : FuncId) (args : Array Value) (xs : List (Int × Int)) : Prop where
  run : ∀ w, Calls Try.prog f args w (GivesW xs w)
theorem likeB (xs : List (Int × Int)) (hl : xs.length ≤ 100000) (A A' : Option Addr) (c c' : Nat) (w : World) (hA : Row w A (wc xs)) (hA' : Row w A' (wc xs)) :
    Calls Try.prog 12 #[.slice A xs.length c, .slice A' xs.length c'] w fun e w' => e = .returned (.bool true) ∧ Below w.heap.size w w' :=
  (likeSame xs hl A A' c c' w hA hA').mono fun e w' ⟨h1, n, h2⟩ => ⟨h1, by rw [h2]; exact below_drewN (Below.refl _ _)⟩
theorem winClosedB (a b m : Int) (w : World) : Calls Try.prog 15 #[.agg #[.int .i64 a, .int .i64 b], .int .i64 m] w
    fun e w' => e = .returned (.bool (decide (b ≤ m))) ∧ Below w.heap.size w w' := (winClosed a b m w).mono fun e w' ⟨h1, h2⟩ => ⟨h1, by rw [h2]; exact (Below.refl _ _).alloc (Nat.le_refl _) _⟩
theorem aliveB (w : World) : Calls Try.prog 9 #[] w fun e w' => e = .returned (.bool true) ∧ Below w.heap.size w w' := (lawAlive w).mono fun e w' ⟨h1, h2⟩ => ⟨h1, by rw [h2]; exact Below.refl _ _⟩
set_option maxHeartbeats 1000000 in
theorem walkWindowOpens (s d t m lo hi : Int) (w : World) : Calls Try.prog 4 #[.int .i64 s, .int .i64 d, .int .i64 t, .int .i64 m, .agg #[.int .i64 lo, .int .i64 hi]] w
    fun e w' => e = .returned (.bool true) ∧ Below w.heap.size w w' := by
  have hl := open_le s d t m
  have HO : GivesF 16 #[.int .i64 s, .int .i64 d, .int .i64 t, .int .i64 m] (Win.open_ s d t m) := ⟨winOpen s d t m⟩
  have HRO : GivesF 17 #[.int .i64 s, .int .i64 d, .int .i64 t, .int .i64 m] (Win.open_ s d t m) := ⟨refOpen s d t m⟩
  obtain ⟨xs, hxs⟩ : ∃ xs, xs = Win.open_ s d t m := ⟨_, rfl⟩
  rw [← hxs] at HO HRO hl
  have HL := Lib.hid (likeB xs (by omega))
  have HN := Lib.hid (show WBox (w.alloc (.cells #[.int .i64 lo, .int .i64 hi] 29)) w.heap.size (lo, hi) from WBox.new w (lo, hi))
  have HB := Lib.hid ((Below.refl w.heap.size w).alloc (Nat.le_refl _) (.cells #[.int .i64 lo, .int .i64 hi] 29))
  clear hxs
  go_enter Try.func4, Try.ntmps4
  go_wp2_with fail
  generalize w.alloc (.cells #[.int .i64 lo, .int .i64 hi] 29) = w1 at HN HB ⊢
  have S0 : w1.drew.cell? ⟨w.heap.size, 0, none⟩ = some (.int .i64 lo) ∧ w1.drew.cell? ⟨w.heap.size, 1, none⟩ = some (.int .i64 hi) ∧ Below w.heap.size w w1.drew := ⟨HN.out.c0, HN.out.c1, below_drewOf HB.out⟩
  go_region_held3 (fun w' => w'.cell? ⟨w.heap.size, 0, none⟩ = some (.int .i64 lo) ∧ w'.cell? ⟨w.heap.size, 1, none⟩ = some (.int .i64 hi) ∧ Below w.heap.size w w')
    (first | assumption | exact keepW hb5 (by assumption))
    ((first
      | (go_at_call 9; refine (aliveB _).mono ?_; rintro e w5 ⟨rfl, hb5⟩)
      | (go_at_call 15; refine (winClosedB _ _ _ _).mono ?_; rintro e w5 ⟨rfl, hb5⟩)
      | (go_at_call 16; refine (HO.run _).mono ?_; rintro e w5 ⟨A, c, rfl, h1, h2, h3, hb5⟩; have H3 := Lib.hid h3; clear h3)
      | (go_at_call 17; refine (HRO.run _).mono ?_; rintro e w5 ⟨A', c', rfl, g1, g2, g3, hb5⟩; have G3 := Lib.hid g3; have H4 := Lib.hid (H3.out.below hb5); clear g3)
      | (go_at_call 12; refine (HL.out _ _ _ _ _ H4.out G3.out).mono ?_; rintro e w5 ⟨rfl, hb5⟩)))
  rename_i hs
  have hb6 := Lib.hid hs.2.2
  clear hs
  go_wp2_with fail
  go_ret
  exact ⟨rfl, hb6.out⟩
/-- A window that comes in. -/
theorem openWin {H : Type} {enc : TypeId × Value → H} {P : Program} {W : World} {base : Nat} {sp : Nat → Bool} {held : Bool} {r : Reach} {b0 : Nat} {v : Value} {d : DataW H} {p : List MemPlace}
    (hval : Value.okWide Try.prog W r b0 29 v) (h : DataW.Trod enc Try.prog W base sp held 29 v d p) : ∃ lo hi : Int, v = .agg #[.int .i64 lo, .int .i64 hi] := by
  obtain ⟨v0, v1, y0, y1, n, rfl, _, _, h0, h1⟩ := Joins.open_agg2 Try.underlying29 (by kernel_rfl) (by kernel_rfl) hval h
  obtain ⟨lo, e0, _⟩ := DataW.trod_int Try.underlying2 h0
  obtain ⟨hi, e1, _⟩ := DataW.trod_int Try.underlying2 h1
  cases e0; cases e1
  exact ⟨lo, hi, rfl⟩
theorem trodAll_five {H : Type} {enc : TypeId × Value → H} {P : Program} {w : World} {base : Nat} {spare : Nat → Bool} {held : Bool} {t0 t1 t2 t3 t4 : TypeId} {args : Array Value} {ds : List (DataW H)} {ps : List MemPlace} (h : DataW.TrodAll enc P w base spare held [t0, t1, t2, t3, t4] args.toList ds ps) :
    ∃ v0 v1 v2 v3 v4 d0 d1 d2 d3 d4 p0 p1 p2 p3 p4, args = #[v0, v1, v2, v3, v4] ∧ ds = [d0, d1, d2, d3, d4] ∧ ps = p0 ++ (p1 ++ p2 ++ p3 ++ p4) ∧ DataW.Trod enc P w base spare held t0 v0 d0 p0 ∧ DataW.Trod enc P w base spare held t1 v1 d1 p1 ∧
      DataW.Trod enc P w base spare held t2 v2 d2 p2 ∧ DataW.Trod enc P w base spare held t3 v3 d3 p3 ∧ DataW.Trod enc P w base spare held t4 v4 d4 p4 := by
  obtain ⟨v, vs, d, ds', p, q, hargs, rfl, rfl, hd, hrest⟩ := trodAll_cons h
  obtain ⟨v1, v2, v3, v4, d1, d2, d3, d4, p1, p2, p3, p4, e, rfl, rfl, h1, h2, h3, h4⟩ := trodAll_four (args := vs.toArray) (by simpa using hrest)
  have e' : vs = [v1, v2, v3, v4] := by simpa using congrArg Array.toList e
  subst e'
  refine ⟨v, v1, v2, v3, v4, d, d1, d2, d3, d4, p, p1, p2, p3, p4, by rw [← Array.toList_inj]; exact hargs, rfl, rfl, hd, h1, h2, h3, h4⟩
theorem lawWindowOpens : Lift.Owes 4 [2, 2, 2, 2, 29] := by
  intro H enc W base args ds ps hval hA _ _
  obtain ⟨v0, v1, v2, v3, v4, d0, d1, d2, d3, d4, p0, p1, p2, p3, p4, rfl, rfl, rfl, h0, h1, h2, h3, h4⟩ := trodAll_five hA
  obtain ⟨a, rfl, rfl, rfl, w0⟩ := open_int Try.underlying2 (hval 0 _ v0 rfl rfl) h0
  obtain ⟨b, rfl, rfl, rfl, w1⟩ := open_int Try.underlying2 (hval 1 _ v1 rfl rfl) h1
  obtain ⟨c, rfl, rfl, rfl, w2⟩ := open_int Try.underlying2 (hval 2 _ v2 rfl rfl) h2
  obtain ⟨m, rfl, rfl, rfl, w3⟩ := open_int Try.underlying2 (hval 3 _ v3 rfl rfl) h3
  obtain ⟨lo, hi, rfl⟩ := openWin (P := Try.prog) (hval 4 _ v4 rfl rfl) h4
  exact walkWindowOpens a b c m lo hi W
end Go.Proofs.Ytehnhhkhnedgeaa
