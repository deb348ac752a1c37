/- The walk of FoldAll. -/
import Derived.Test.YtgmmgmhogacocaaLawsFoldL
namespace Go.Proofs.Ytgmmgmhogacocaa
open Go.ChangeShapes Go.WideShapes Go.ChangeAt Go.RowKit
open Acm
set_option linter.unusedVariables false
set_option maxHeartbeats 4000000 in
theorem walkFoldAll (k : Int) (A : Option Addr) (c : Nat) (zs : List Int) (v : Int) (w : World) (hl : zs.length ≤ c) (hc : c ≤ 9223372036854775807) (hr : Row w A (zs.map (Value.int .i64)))
    (hw : ∀ n ∈ zs, -9223372036854775808 ≤ n ∧ n ≤ 9223372036854775807) (hv : -9223372036854775808 ≤ v ∧ v ≤ 9223372036854775807) :
    Calls Try.prog 3 #[.int .i64 k, .slice A zs.length c, .int .i64 v] w (Yes w) := by
  have hlow : ¬ 1 ≤ k → Calls Try.prog 3 #[.int .i64 k, .slice A zs.length c, .int .i64 v] w (Yes w) := fun h => walkFoldAll_low k A c zs v w hl hc hr hw hv h
  obtain ⟨ys, hys⟩ : ∃ ys, ys = zs.take 2000 := ⟨_, rfl⟩
  obtain ⟨r, hrr⟩ : ∃ r, r = all k ys := ⟨_, rfl⟩
  obtain ⟨n, hn⟩ : ∃ n, n = val k r := ⟨_, rfl⟩
  obtain ⟨o, ho⟩ : ∃ o, o = one k v := ⟨_, rfl⟩
  have hyr : Row w A (ys.map (Value.int .i64)) := by rw [hys, List.map_take]; exact hr.first 2000
  have hyl : ys.length ≤ 9223372036854775807 := by rw [hys, List.length_take]; omega
  have hyw : ∀ n ∈ ys, -9223372036854775808 ≤ n ∧ n ≤ 9223372036854775807 := fun n hn => hw n (List.mem_of_mem_take (hys ▸ hn))
  have HS := Lib.hid (show Calls Try.prog 9 #[.slice A zs.length c] w fun e w' => e = .returned (.slice A ys.length c) ∧ w = w' from hys ▸ lwShort A c zs w hl hc hr)
  have HA := Lib.hid (fun w' (hb : Below w.heap.size w w') => gives_ac (hrr ▸ foldAll k A c ys w' (hyr.below hb) hyl))
  have HB := Lib.hid (fun w' (hb : Below w.heap.size w w') => gives_ac (hrr ▸ rfAll k A c ys w' (hyr.below hb) hyl hyw))
  have HC := Lib.hid (fun w' (A : Option Addr) (hb : Row w' A ([v].map (Value.int .i64))) => gives_ac ((all_one k v).trans ho.symm ▸ rfAll k A 1 [v] w' hb (by simp) (by simpa using hv)))
  have HR := Lib.hid (fun k w => gives_of (foldRight k w))
  have HO := Lib.hid (fun w => gives_ac (ho ▸ foldOne k v w))
  have HV := Lib.hid (fun w => gives_al (hn ▸ foldVal k r w))
  have HW := Lib.hid (fun w => gives_al (hn ▸ refVal k r w))
  have hE := run_same r
  have hE2 := run_same o
  have h1 : isK 1 = true := rfl
  clear hrr hn ho hys hyr hyl hyw hr hl hc hw hv
  by_cases k1 : 1 ≤ k
  · by_cases k2 : k ≤ 5
    · clear hlow
      have hk : isK k = true := decide_eq_true ⟨k1, k2⟩
      go_enter Try.func3, Try.ntmps3
      go_wp2_with fail
      refine HS.out.mono ?_
      rintro e w1 ⟨rfl, rfl⟩
      go_wp2_with fail
      refine (HA.out _ (Below.refl _ _)).mono ?_
      rintro e w2 ⟨rfl, hb2⟩
      have B2 := Lib.hid (below_al (o := .cells (acC r) 25) hb2)
      go_wp2_with fail
      refine (HB.out _ B2.out).mono ?_
      rintro e w3 ⟨rfl, hb3⟩
      have B3 := Lib.hid (below_al (o := .cells (acC r) 25) (below_next B2.out hb3))
      have L2 := Lib.hid (((Lies.new w2 (acC r) 25).below hb3).al (o := .cells (acC r) 25))
      have L3 := Lib.hid (Lies.new w3 (acC r) 25)
      clear hb2 hb3
      go_wp2_with fail
      generalize w3.alloc (.cells (acC r) 25) = w4 at B3 L2 L3 ⊢
      have S0 : w4.drew.cell? ⟨w2.heap.size, 0, none⟩ = some (.int .i64 r.n) ∧ w4.drew.cell? ⟨w2.heap.size, 1, none⟩ = some (.int .i64 r.a) ∧ w4.drew.cell? ⟨w2.heap.size, 2, none⟩ = some (.int .i64 r.b) ∧ w4.drew.cell? ⟨w3.heap.size, 0, none⟩ = some (.int .i64 r.n) ∧ w4.drew.cell? ⟨w3.heap.size, 1, none⟩ = some (.int .i64 r.a) ∧ w4.drew.cell? ⟨w3.heap.size, 2, none⟩ = some (.int .i64 r.b) ∧ Below w.heap.size w w4.drew := ⟨L2.out.drew.cell (j := 0) rfl, L2.out.drew.cell (j := 1) rfl, L2.out.drew.cell (j := 2) rfl, L3.out.drew.cell (j := 0) rfl, L3.out.drew.cell (j := 1) rfl, L3.out.drew.cell (j := 2) rfl, below_drewOf B3.out⟩
      go_region_held3 (fun w' => w'.cell? ⟨w2.heap.size, 0, none⟩ = some (.int .i64 r.n) ∧ w'.cell? ⟨w2.heap.size, 1, none⟩ = some (.int .i64 r.a) ∧ w'.cell? ⟨w2.heap.size, 2, none⟩ = some (.int .i64 r.b) ∧ w'.cell? ⟨w3.heap.size, 0, none⟩ = some (.int .i64 r.n) ∧ w'.cell? ⟨w3.heap.size, 1, none⟩ = some (.int .i64 r.a) ∧ w'.cell? ⟨w3.heap.size, 2, none⟩ = some (.int .i64 r.b) ∧ Below w.heap.size w w')
        (first | assumption | exact keepB6 hb5 (by assumption) | exact keepB6 (below_al (Below.refl _ _)) (by assumption))
        ((first | (go_at_call 12; refine (HR.out _ _).mono ?_; rintro e w5 ⟨rfl, hb5⟩) | (go_at_call 13; refine (HO.out _).mono ?_; rintro e w5 ⟨rfl, hb5⟩) | (go_at_call 11; refine (HC.out _ _ (row_one _ _ _)).mono ?_; rintro e w5 ⟨rfl, hb5⟩) | (go_at_call 11; refine (HC.out _ _ (Row.below (row_one _ _ _) hb5)).mono ?_; rintro e w5 ⟨rfl, hb5⟩) | (go_at_call 14; refine (HV.out _).mono ?_; rintro e w5 ⟨rfl, hb5⟩) | (go_at_call 15; refine (HW.out _).mono ?_; rintro e w5 ⟨rfl, hb5⟩)))
      all_goals
        rename_i hs
        have hb6 := hs.2.2.2.2.2.2
        clear hs
        go_wp2_with fail
        go_ret
        exact ⟨by simp, hb6⟩
    · clear hlow
      have hk : isK k = false := decide_eq_false fun h => k2 h.2
      have hd : decide (k ≤ 5) = false := decide_eq_false k2
      go_enter Try.func3, Try.ntmps3
      go_wp2_with fail
      refine HS.out.mono ?_
      rintro e w1 ⟨rfl, rfl⟩
      go_wp2_with fail
      refine (HA.out _ (Below.refl _ _)).mono ?_
      rintro e w2 ⟨rfl, hb2⟩
      have B2 := Lib.hid (below_al (o := .cells (acC r) 25) hb2)
      go_wp2_with fail
      refine (HB.out _ B2.out).mono ?_
      rintro e w3 ⟨rfl, hb3⟩
      have B3 := Lib.hid (below_al (o := .cells (acC r) 25) (below_next B2.out hb3))
      have L2 := Lib.hid (((Lies.new w2 (acC r) 25).below hb3).al (o := .cells (acC r) 25))
      have L3 := Lib.hid (Lies.new w3 (acC r) 25)
      clear hb2 hb3
      go_wp2_with fail
      generalize w3.alloc (.cells (acC r) 25) = w4 at B3 L2 L3 ⊢
      have S0 : w4.drew.cell? ⟨w2.heap.size, 0, none⟩ = some (.int .i64 r.n) ∧ w4.drew.cell? ⟨w2.heap.size, 1, none⟩ = some (.int .i64 r.a) ∧ w4.drew.cell? ⟨w2.heap.size, 2, none⟩ = some (.int .i64 r.b) ∧ w4.drew.cell? ⟨w3.heap.size, 0, none⟩ = some (.int .i64 r.n) ∧ w4.drew.cell? ⟨w3.heap.size, 1, none⟩ = some (.int .i64 r.a) ∧ w4.drew.cell? ⟨w3.heap.size, 2, none⟩ = some (.int .i64 r.b) ∧ Below w.heap.size w w4.drew := ⟨L2.out.drew.cell (j := 0) rfl, L2.out.drew.cell (j := 1) rfl, L2.out.drew.cell (j := 2) rfl, L3.out.drew.cell (j := 0) rfl, L3.out.drew.cell (j := 1) rfl, L3.out.drew.cell (j := 2) rfl, below_drewOf B3.out⟩
      go_region_held3 (fun w' => w'.cell? ⟨w2.heap.size, 0, none⟩ = some (.int .i64 r.n) ∧ w'.cell? ⟨w2.heap.size, 1, none⟩ = some (.int .i64 r.a) ∧ w'.cell? ⟨w2.heap.size, 2, none⟩ = some (.int .i64 r.b) ∧ w'.cell? ⟨w3.heap.size, 0, none⟩ = some (.int .i64 r.n) ∧ w'.cell? ⟨w3.heap.size, 1, none⟩ = some (.int .i64 r.a) ∧ w'.cell? ⟨w3.heap.size, 2, none⟩ = some (.int .i64 r.b) ∧ Below w.heap.size w w')
        (first | assumption | exact keepB6 hb5 (by assumption) | exact keepB6 (below_al (Below.refl _ _)) (by assumption))
        ((first | (go_at_call 12; refine (HR.out _ _).mono ?_; rintro e w5 ⟨rfl, hb5⟩) | (go_at_call 13; refine (HO.out _).mono ?_; rintro e w5 ⟨rfl, hb5⟩) | (go_at_call 11; refine (HC.out _ _ (row_one _ _ _)).mono ?_; rintro e w5 ⟨rfl, hb5⟩) | (go_at_call 11; refine (HC.out _ _ (Row.below (row_one _ _ _) hb5)).mono ?_; rintro e w5 ⟨rfl, hb5⟩) | (go_at_call 14; refine (HV.out _).mono ?_; rintro e w5 ⟨rfl, hb5⟩) | (go_at_call 15; refine (HW.out _).mono ?_; rintro e w5 ⟨rfl, hb5⟩)))
      all_goals
        rename_i hs
        have hb6 := hs.2.2.2.2.2.2
        clear hs
        go_wp2_with fail
        go_ret
        exact ⟨by simp, hb6⟩
  · exact hlow k1
theorem wf_i64 {n : Int} (h : (Lit.int .i64 n).wf = true) : -9223372036854775808 ≤ n ∧ n ≤ 9223372036854775807 := by
  simp [Lit.wf, IntKind.min, IntKind.max, IntKind.bits, IntKind.signed] at h
  omega
theorem lawFoldAll : Lift.Owes 3 [3, 22, 2] := by
  intro H enc W base args ds ps hval hA _ _
  obtain ⟨v0, v1, v2, d0, d1, d2, p0, p1, p2, rfl, rfl, rfl, h0, h1, h2⟩ := trodAll_three hA
  obtain ⟨k, rfl, rfl, rfl, w0⟩ := open_int Try.underlying3 (hval 0 _ v0 rfl rfl) h0
  obtain ⟨A, c, zs, rfl, hl, hm, hr, hz, _⟩ := openInts Try.underlying22 Try.underlying2 cells_i64f (hval 1 _ v1 rfl rfl) h1
  obtain ⟨v, rfl, rfl, rfl, w2⟩ := open_int Try.underlying2 (hval 2 _ v2 rfl rfl) h2
  exact walkFoldAll k A c zs v W hl (by simp only [maxLen] at hm; omega) hr (fun n hn => wf_i64 (hz n hn)) (wf_i64 w2)
end Go.Proofs.Ytgmmgmhogacocaa
