/- The walk of FoldParts. -/
import Derived.Test.YtgmmgmhogacocaaLawsFold
import Derived.Test.YtgmmgmhogacocaaFoldFacts
namespace Go.Proofs.Ytgmmgmhogacocaa
open Go.ChangeShapes Go.WideShapes Go.ChangeAt Go.RowKit
open Acm
set_option linter.unusedVariables false
theorem info_i64f : (Try.prog.info? 2).map (fun i => (i.zero, i.size, i.bytes)) = some (some (.int .i64 0), 1, 8) := by kernel_rfl
theorem info_i64p : ∃ i0, Try.prog.info? 2 = some i0 ∧ i0.zero = some (.int .i64 0) ∧ i0.size = 1 ∧ i0.bytes = 8 := by
  have h := info_i64f
  cases hi : Try.prog.info? 2 with
  | none => rw [hi] at h; cases h
  | some i0 => rw [hi] at h; simp at h; exact ⟨i0, rfl, h.1, h.2.1, h.2.2⟩
theorem yes_of {A B : World} (h : Below A.heap.size A B) : Yes A (.returned (.bool true)) B := ⟨rfl, h⟩
theorem walkFoldParts (k : Int) (A : Option Addr) (c : Nat) (zs : List Int) (D : Option Addr) (d : Nat) (xs : List Int) (w : World) (hl : zs.length ≤ c) (hc : c ≤ 9223372036854775807) (hr : Row w A (zs.map (Value.int .i64)))
    (hl' : xs.length ≤ d) (hd : d ≤ 9223372036854775807) (hr' : Row w D (xs.map (Value.int .i64))) :
    Calls Try.prog 5 #[.int .i64 k, .slice A zs.length c, .slice D xs.length d] w (Yes w) := by
  obtain ⟨ys, hys⟩ : ∃ ys, ys = zs.take 2000 := ⟨_, rfl⟩
  obtain ⟨ms, hms⟩ : ∃ ms, ms = xs.take 2000 := ⟨_, rfl⟩
  have y1 : ys.length ≤ 2000 := by rw [hys, List.length_take]; omega
  have m1 : ms.length ≤ 2000 := by rw [hms, List.length_take]; omega
  obtain ⟨a, ha⟩ : ∃ a, a = all k ys := ⟨_, rfl⟩
  obtain ⟨b, hb⟩ : ∃ b, b = all k ms := ⟨_, rfl⟩
  obtain ⟨r, hrr⟩ : ∃ r, r = all k (ys ++ ms) := ⟨_, rfl⟩
  have e1 : r = all k (ms ++ ys) := hrr.trans (all_turn (by omega) (by omega)).symm
  have e2 : r = join k a b := by rw [ha, hb, ← all_append _ _ _ rfl (by omega) (by omega)]; exact hrr
  have e3 : r = join k b a := by rw [ha, hb, ← all_append _ _ _ rfl (by omega) (by omega)]; exact e1
  have hyr : Row w A (ys.map (Value.int .i64)) := by rw [hys, List.map_take]; exact hr.first 2000
  have hmr : Row w D (ms.map (Value.int .i64)) := by rw [hms, List.map_take]; exact hr'.first 2000
  have HYR := Lib.hid hyr
  have HMR := Lib.hid hmr
  have HS := Lib.hid (show Calls Try.prog 9 #[.slice A zs.length c] w fun e w' => e = .returned (.slice A ys.length c) ∧ w = w' from hys ▸ lwShort A c zs w hl hc hr)
  have HS' := Lib.hid (show Calls Try.prog 9 #[.slice D xs.length d] w fun e w' => e = .returned (.slice D ms.length d) ∧ w = w' from hms ▸ lwShort D d xs w hl' hd hr')
  have HA := Lib.hid (fun w' (hb : Below w.heap.size w w') => gives_ac (ha ▸ foldAll k A c ys w' (hyr.below hb) (by omega)))
  have HB := Lib.hid (fun w' (h : Below w.heap.size w w') => gives_ac (hb ▸ foldAll k D d ms w' (hmr.below h) (by omega)))
  have HJ := Lib.hid (fun w => gives_ac (e2 ▸ foldJoin k a b w))
  have HJ' := Lib.hid (fun w => gives_ac (e3 ▸ foldJoin k b a w))
  have HU := Lib.hid (show ∀ w' B e, Row w' B ((ys ++ ms).map (Value.int .i64)) → Calls Try.prog 10 #[.int .i64 k, .slice B (ys.length + ms.length) e] w' (Gives (acV r) w') from
    fun w' B e h => by have := gives_ac (hrr ▸ foldAll k B e (ys ++ ms) w' h (by rw [List.length_append]; omega)); rwa [List.length_append] at this)
  have HV := Lib.hid (show ∀ w' B e, Row w' B ((ms ++ ys).map (Value.int .i64)) → Calls Try.prog 10 #[.int .i64 k, .slice B (ms.length + ys.length) e] w' (Gives (acV r) w') from
    fun w' B e h => by have := gives_ac (e1 ▸ foldAll k B e (ms ++ ys) w' h (by rw [List.length_append]; omega)); rwa [List.length_append] at this)
  have hE := run_same r
  have HR := Lib.hid (fun w => gives_of (foldRight 1 w))
  have h1 : isK 1 = true := rfl
  obtain ⟨i0, hi, hz0, hz1, hz2⟩ := info_i64p
  clear hys hms ha hb hrr e1 e2 e3 hyr hmr hr hr' hl hl' hc hd
  go_enter Try.func5, Try.ntmps5
  go_wp2_with fail
  refine HS.out.mono ?_
  rintro e w1 ⟨rfl, rfl⟩
  go_wp2_with fail
  refine HS'.out.mono ?_
  rintro e w1 ⟨rfl, rfl⟩
  go_wp2_with (first
    | (at_builtin
       refine wpApp rfl (.tmp 15) (.tmp 16) _ rfl w.heap.size 2 i0 _ 1 8 Try.underlying22 hi hz0 hz1 hz2 rfl (by omega) _ 0 [] rfl (own_new (Nat.le_refl _)) A ys.length c (ys.map (Value.int .i64)) rfl (HYR.out.below ((Below.refl _ _).alloc (Nat.le_refl _) _)) (by simp) ones (by simp only [maxLen]; omega) (by omega) (by simp) ?_
       intro v1 w1 hown1 hb1
       have hbw1 : Below w.heap.size w w1 := ((Below.refl _ _).alloc (Nat.le_refl _) _).trans hb1)
    | (at_builtin
       refine wpApp rfl (.tmp 17) (.tmp 18) _ rfl w.heap.size 2 i0 _ 1 8 Try.underlying22 hi hz0 hz1 hz2 rfl (by omega) _ _ _ rfl hown1 D ms.length d (ms.map (Value.int .i64)) rfl (HMR.out.below hbw1) (by simp) ones (by simp only [maxLen]; omega) (by omega) hbw1.size ?_
       intro v2 w2 hown2 hb2
       have hbw2 : Below w.heap.size w w2 := hbw1.trans hb2
       obtain ⟨B2, c2, rfl, hc2, hm2, _, hr2, _⟩ := own_form hown2 (by omega)
       rw [List.nil_append, ← List.map_append] at hr2
       have HR2 := Lib.hid hr2
       clear hown1 hown2 hb1 hb2 hr2 hbw1)
    | (at_builtin
       refine wpApp rfl (.tmp 20) (.tmp 21) _ rfl w2.heap.size 2 i0 _ 1 8 Try.underlying22 hi hz0 hz1 hz2 rfl (by omega) _ 0 [] rfl (own_new (Nat.le_refl _)) D ms.length d (ms.map (Value.int .i64)) rfl (HMR.out.below (below_al hbw2)) (by simp) ones (by simp only [maxLen]; omega) (by omega) (by simp) ?_
       intro v3 w3 hown3 hb3
       have hbw3 : Below w2.heap.size w2 w3 := ((Below.refl _ _).alloc (Nat.le_refl _) _).trans hb3)
    | (at_builtin
       refine wpApp rfl (.tmp 22) (.tmp 23) _ rfl w2.heap.size 2 i0 _ 1 8 Try.underlying22 hi hz0 hz1 hz2 rfl (by omega) _ _ _ rfl hown3 A ys.length c (ys.map (Value.int .i64)) rfl (HYR.out.below (below_next hbw2 hbw3)) (by simp) ones (by simp only [maxLen]; omega) (by omega) hbw3.size ?_
       intro v4 w4 hown4 hb4
       have hbw4 : Below w2.heap.size w2 w4 := hbw3.trans hb4
       obtain ⟨B4, c4, rfl, hc4, hm4, _, hr4, _⟩ := own_form hown4 (by omega)
       rw [List.nil_append, ← List.map_append] at hr4
       have HR4 := Lib.hid hr4
       have HR3 := Lib.hid (HR2.out.below hbw4)
       have HBL := Lib.hid (below_next hbw2 hbw4)
       clear hown3 hown4 hb3 hb4 hr4 hbw3 hbw4 hbw2 HR2))
  refine (HA.out _ HBL.out).mono ?_
  rintro e w5 ⟨rfl, hb5⟩
  have B5 := Lib.hid (below_next HBL.out hb5)
  have N5 := Lib.hid hb5
  clear hb5
  go_wp2_with fail
  refine (HB.out _ B5.out).mono ?_
  rintro e w6 ⟨rfl, hb6⟩
  have N6 := Lib.hid (below_al (o := .cells (acC b) 25) (below_al (o := .cells (acC a) 25) (below_next N5.out hb6)))
  have LA := Lib.hid (((Lies.new w6 (acC a) 25).al (o := .cells (acC b) 25)))
  have LB := Lib.hid (show Lies (w6.heap.size + 1) (acC b) 25 ((w6.alloc (.cells (acC a) 25)).alloc (.cells (acC b) 25)) from by simpa only [World.size_alloc] using Lies.new (w6.alloc (.cells (acC a) 25)) (acC b) 25)
  clear hb6 N5 B5
  go_wp2_with fail
  generalize (w6.alloc (.cells (acC a) 25)).alloc (.cells (acC b) 25) = w7 at N6 LA LB ⊢
  refine (HR.out _).mono ?_
  rw [h1]
  rintro e w8 ⟨rfl, hb8⟩
  have N8 := Lib.hid (below_next N6.out hb8)
  have LA8 := Lib.hid (LA.out.below hb8)
  have LB8 := Lib.hid (LB.out.below hb8)
  clear hb8 N6 LA LB
  have a0 := LA8.out.cell (j := 0) rfl; have a1 := LA8.out.cell (j := 1) rfl; have a2 := LA8.out.cell (j := 2) rfl
  have b0 := LB8.out.cell (j := 0) rfl; have b1 := LB8.out.cell (j := 1) rfl; have b2 := LB8.out.cell (j := 2) rfl
  go_wp2_with fail
  refine (HJ.out _).mono ?_
  rintro e w9 ⟨rfl, hb9⟩
  have N9 := Lib.hid (below_next N8.out hb9)
  have LA9 := Lib.hid (LA8.out.below hb9)
  have LB9 := Lib.hid (LB8.out.below hb9)
  clear hb9 N8 LA8 LB8 a0 a1 a2 b0 b1 b2
  have a0 := LA9.out.cell (j := 0) rfl; have a1 := LA9.out.cell (j := 1) rfl; have a2 := LA9.out.cell (j := 2) rfl
  have b0 := LB9.out.cell (j := 0) rfl; have b1 := LB9.out.cell (j := 1) rfl; have b2 := LB9.out.cell (j := 2) rfl
  go_wp2_with fail
  refine (HU.out _ _ _ (HR3.out.below N9.out)).mono ?_
  rintro e w10 ⟨rfl, hb10⟩
  have N10 := Lib.hid (below_next N9.out hb10)
  have LA10 := Lib.hid (LA9.out.below hb10)
  have LB10 := Lib.hid (LB9.out.below hb10)
  clear hb10 N9 LA9 LB9 a0 a1 a2 b0 b1 b2
  have a0 := LA10.out.cell (j := 0) rfl; have a1 := LA10.out.cell (j := 1) rfl; have a2 := LA10.out.cell (j := 2) rfl
  have b0 := LB10.out.cell (j := 0) rfl; have b1 := LB10.out.cell (j := 1) rfl; have b2 := LB10.out.cell (j := 2) rfl
  go_wp2_with fail
  refine (HJ'.out _).mono ?_
  rintro e w11 ⟨rfl, hb11⟩
  have N11 := Lib.hid (below_next N10.out hb11)
  clear hb11 N10 LA10 LB10 a0 a1 a2 b0 b1 b2
  go_wp2_with fail
  refine (HV.out _ _ _ (HR4.out.below N11.out)).mono ?_
  rintro e w12 ⟨rfl, hb12⟩
  have N12 := Lib.hid (below_next N11.out hb12)
  clear hb12 N11
  go_wp2_with fail
  refine (HU.out _ _ _ (HR3.out.below N12.out)).mono ?_
  rintro e w13 ⟨rfl, hb13⟩
  have N13 := Lib.hid (below_next N12.out hb13)
  clear hb13 N12
  go_wp2_with fail
  refine (HV.out _ _ _ (HR4.out.below N13.out)).mono ?_
  rintro e w14 ⟨rfl, hb14⟩
  have N14 := Lib.hid (below_next N13.out hb14)
  clear hb14 N13
  go_wp2_with fail
  go_ret
  exact ⟨by simp, below_next HBL.out N14.out⟩
theorem lawFoldParts : Lift.Owes 5 [3, 22, 22] := by
  intro H enc W base args ds ps hval hA _ _
  obtain ⟨v0, v1, v2, d0, d1, d2, p0, p1, p2, rfl, rfl, rfl, h0, h1, h2⟩ := trodAll_three hA
  obtain ⟨k, rfl, rfl, rfl, w0⟩ := open_int Try.underlying3 (hval 0 _ v0 rfl rfl) h0
  obtain ⟨A, c, zs, rfl, hl, hm, hr, hz, _⟩ := openInts Try.underlying22 Try.underlying2 cells_i64f (hval 1 _ v1 rfl rfl) h1
  obtain ⟨D, d, xs, rfl, hl', hm', hr', hz', _⟩ := openInts Try.underlying22 Try.underlying2 cells_i64f (hval 2 _ v2 rfl rfl) h2
  exact walkFoldParts k A c zs D d xs W hl (by simp only [maxLen] at hm; omega) hr hl' (by simp only [maxLen] at hm'; omega) hr'
end Go.Proofs.Ytgmmgmhogacocaa
