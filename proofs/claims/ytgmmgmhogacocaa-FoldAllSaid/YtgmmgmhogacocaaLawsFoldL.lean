/- The walk of FoldAll: a kind below 1. -/
import Derived.Test.YtgmmgmhogacocaaLawsFold
namespace Go.Proofs.Ytgmmgmhogacocaa
open Go.ChangeShapes Go.WideShapes Go.ChangeAt Go.RowKit
open Acm
set_option linter.unusedVariables false
theorem row_one (w : World) (v : Int) (T : TypeId) : Row (w.alloc (.cells #[.int .i64 v] T)) (some ⟨w.heap.size, 0, none⟩) ([v].map (Value.int .i64)) :=
  .inr ⟨_, 0, rfl, fun j u hu => by
    have h := Lies.new w #[.int .i64 v] T
    match j, hu with
    | 0, hu => exact h.cell hu
    | j + 1, hu => simp at hu⟩
theorem all_one (k v : Int) : all k [v] = one k v := by
  show join k zero (one k v) = one k v
  by_cases h : 1 ≤ k ∧ k ≤ 5
  · exact join_l h rfl _
  · rw [join_bad h]; unfold one; rw [if_neg (by omega), if_neg (by omega), if_neg (by omega)]
structure TwoAt (p q : Nat) (r : Ac) (w0 w : World) : Prop where
  c0 : w.cell? ⟨p, 0, none⟩ = some (.int .i64 r.n)
  c1 : w.cell? ⟨p, 1, none⟩ = some (.int .i64 r.a)
  c2 : w.cell? ⟨p, 2, none⟩ = some (.int .i64 r.b)
  c3 : w.cell? ⟨q, 0, none⟩ = some (.int .i64 r.n)
  c4 : w.cell? ⟨q, 1, none⟩ = some (.int .i64 r.a)
  c5 : w.cell? ⟨q, 2, none⟩ = some (.int .i64 r.b)
  below : Below w0.heap.size w0 w
theorem TwoAt.next {p q : Nat} {r : Ac} {w0 a b : World} (h : TwoAt p q r w0 a) (hb : Below a.heap.size a b) : TwoAt p q r w0 b :=
  ⟨cell_on hb h.c0, cell_on hb h.c1, cell_on hb h.c2, cell_on hb h.c3, cell_on hb h.c4, cell_on hb h.c5, below_next h.below hb⟩
theorem TwoAt.nextA {p q : Nat} {r : Ac} {w0 a b : World} {o : Obj} (h : TwoAt p q r w0 a) (hb : Below (a.alloc o).heap.size (a.alloc o) b) : TwoAt p q r w0 b :=
  (h.next (below_al (Below.refl _ _))).next hb
set_option maxHeartbeats 4000000 in
theorem walkFoldAll_low (k : Int) (A : Option Addr) (c : Nat) (zs : List Int) (v : Int) (w : World) (hl : zs.length ≤ c) (hc : c ≤ 9223372036854775807) (hr : Row w A (zs.map (Value.int .i64)))
    (hw : ∀ n ∈ zs, -9223372036854775808 ≤ n ∧ n ≤ 9223372036854775807) (hv : -9223372036854775808 ≤ v ∧ v ≤ 9223372036854775807) (k1 : ¬ 1 ≤ k) :
    Calls Try.prog 3 #[.int .i64 k, .slice A zs.length c, .int .i64 v] w (Yes w) := by
  obtain ⟨ys, hys⟩ : ∃ ys, ys = zs.take 2000 := ⟨_, rfl⟩
  obtain ⟨r, hrr⟩ : ∃ r, r = all k ys := ⟨_, rfl⟩
  obtain ⟨n, hn⟩ : ∃ n, n = val k r := ⟨_, rfl⟩
  obtain ⟨o, ho⟩ : ∃ o, o = one k v := ⟨_, rfl⟩
  have hyr : Row w A (ys.map (Value.int .i64)) := by rw [hys, List.map_take]; exact hr.first 2000
  have hyl : ys.length ≤ 9223372036854775807 := by rw [hys, List.length_take]; omega
  have hyw : ∀ n ∈ ys, -9223372036854775808 ≤ n ∧ n ≤ 9223372036854775807 := fun n hn => hw n (List.mem_of_mem_take (hys ▸ hn))
  have HS := Lib.hid (show Calls Try.prog 9 #[.slice A zs.length c] w fun e w' => e = .returned (.slice A ys.length c) ∧ w = w' from hys ▸ lwShort A c zs w hl hc hr)
  have HA := Lib.hid (fun w' (hb : Below w.heap.size w w') => gives_ac (hrr ▸ foldAll k A c ys w' (hyr.below hb) hyl))
  have HB := Lib.hid (fun w' (hb : Below w.heap.size w w') => gives_ac (hrr ▸ rfAll k A c ys w' (hyr.below hb) hyl hyw))
  have HC := Lib.hid (fun w' (A : Option Addr) (hb : Row w' A ([v].map (Value.int .i64))) => gives_ac ((all_one k v).trans ho.symm ▸ rfAll k A 1 [v] w' hb (by simp) (by simpa using hv)))
  have HR := Lib.hid (fun k w => gives_of (foldRight k w))
  have HO := Lib.hid (fun w => gives_ac (ho ▸ foldOne k v w))
  have HV := Lib.hid (fun w => gives_al (hn ▸ foldVal k r w))
  have HW := Lib.hid (fun w => gives_al (hn ▸ refVal k r w))
  have hE := run_same r
  have hE2 := run_same o
  have h1 : isK 1 = true := rfl
  clear hrr hn ho hys hyr hyl hyw hr hl hc hw hv
  have hk : isK k = false := decide_eq_false fun h => k1 h.1
  have hd : decide (1 ≤ k) = false := decide_eq_false k1
  go_enter Try.func3, Try.ntmps3
  go_wp2_with fail
  refine HS.out.mono ?_
  rintro e w1 ⟨rfl, rfl⟩
  go_wp2_with fail
  refine (HA.out _ (Below.refl _ _)).mono ?_
  rintro e w2 ⟨rfl, hb2⟩
  have B2 := Lib.hid (below_al (o := .cells (acC r) 25) hb2)
  go_wp2_with fail
  refine (HB.out _ B2.out).mono ?_
  rintro e w3 ⟨rfl, hb3⟩
  have B3 := Lib.hid (below_al (o := .cells (acC r) 25) (below_next B2.out hb3))
  have L2 := Lib.hid (((Lies.new w2 (acC r) 25).below hb3).al (o := .cells (acC r) 25))
  have L3 := Lib.hid (Lies.new w3 (acC r) 25)
  clear hb2 hb3
  go_wp2_with fail
  generalize w3.alloc (.cells (acC r) 25) = w4 at B3 L2 L3 ⊢
  have S0 : w4.drew.cell? ⟨w2.heap.size, 0, none⟩ = some (.int .i64 r.n) ∧ w4.drew.cell? ⟨w2.heap.size, 1, none⟩ = some (.int .i64 r.a) ∧ w4.drew.cell? ⟨w2.heap.size, 2, none⟩ = some (.int .i64 r.b) ∧ w4.drew.cell? ⟨w3.heap.size, 0, none⟩ = some (.int .i64 r.n) ∧ w4.drew.cell? ⟨w3.heap.size, 1, none⟩ = some (.int .i64 r.a) ∧ w4.drew.cell? ⟨w3.heap.size, 2, none⟩ = some (.int .i64 r.b) ∧ Below w.heap.size w w4.drew := ⟨L2.out.drew.cell (j := 0) rfl, L2.out.drew.cell (j := 1) rfl, L2.out.drew.cell (j := 2) rfl, L3.out.drew.cell (j := 0) rfl, L3.out.drew.cell (j := 1) rfl, L3.out.drew.cell (j := 2) rfl, below_drewOf B3.out⟩
  have T := Lib.hid (show TwoAt w2.heap.size w3.heap.size r w w4.drew from ⟨S0.1, S0.2.1, S0.2.2.1, S0.2.2.2.1, S0.2.2.2.2.1, S0.2.2.2.2.2.1, S0.2.2.2.2.2.2⟩)
  clear S0
  first | (go_region_with (first | (go_at_call 12; refine (HR.out _ _).mono ?_; rintro e w5 ⟨rfl, hb5⟩; (first | have T := Lib.hid (T.out.next hb5) | have T := Lib.hid (T.out.nextA hb5)); have c0 := T.out.c0; have c1 := T.out.c1; have c2 := T.out.c2; have c3 := T.out.c3; have c4 := T.out.c4; have c5 := T.out.c5) | (go_at_call 13; refine (HO.out _).mono ?_; rintro e w5 ⟨rfl, hb5⟩; (first | have T := Lib.hid (T.out.next hb5) | have T := Lib.hid (T.out.nextA hb5)); have c0 := T.out.c0; have c1 := T.out.c1; have c2 := T.out.c2; have c3 := T.out.c3; have c4 := T.out.c4; have c5 := T.out.c5) | (go_at_call 11; refine (HC.out _ _ (row_one _ _ _)).mono ?_; rintro e w5 ⟨rfl, hb5⟩; (first | have T := Lib.hid (T.out.next hb5) | have T := Lib.hid (T.out.nextA hb5)); have c0 := T.out.c0; have c1 := T.out.c1; have c2 := T.out.c2; have c3 := T.out.c3; have c4 := T.out.c4; have c5 := T.out.c5) | (go_at_call 11; refine (HC.out _ _ (Row.below (row_one _ _ _) hb5)).mono ?_; rintro e w5 ⟨rfl, hb5⟩; (first | have T := Lib.hid (T.out.next hb5) | have T := Lib.hid (T.out.nextA hb5)); have c0 := T.out.c0; have c1 := T.out.c1; have c2 := T.out.c2; have c3 := T.out.c3; have c4 := T.out.c4; have c5 := T.out.c5) | (go_at_call 14; refine (HV.out _).mono ?_; rintro e w5 ⟨rfl, hb5⟩; (first | have T := Lib.hid (T.out.next hb5) | have T := Lib.hid (T.out.nextA hb5)); have c0 := T.out.c0; have c1 := T.out.c1; have c2 := T.out.c2; have c3 := T.out.c3; have c4 := T.out.c4; have c5 := T.out.c5) | (go_at_call 15; refine (HW.out _).mono ?_; rintro e w5 ⟨rfl, hb5⟩; (first | have T := Lib.hid (T.out.next hb5) | have T := Lib.hid (T.out.nextA hb5)); have c0 := T.out.c0; have c1 := T.out.c1; have c2 := T.out.c2; have c3 := T.out.c3; have c4 := T.out.c4; have c5 := T.out.c5))) | fail
  all_goals
    go_wp2_with fail
    go_ret
    exact ⟨rfl, T.out.below⟩
end Go.Proofs.Ytgmmgmhogacocaa
