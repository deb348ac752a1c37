/- The walks of the laws PaneParts, PaneMerges. -/
import Derived.Test.YtklpfifellghlaaLawsPaneB
import Derived.Test.YtklpfifellghlaaPaneMergeR
import Derived.Test.YtklpfifellghlaaPaneRes
namespace Go.Proofs.Ytklpfifellghlaa
open Go.ChangeShapes Go.WideShapes Go.ChangeAt Go.RowKit
open Pan
set_option linter.unusedVariables false
theorem paDueAll (xs : List Pn) (A : Option Addr) (c : Nat) (m : Int) (w : World) (hA : Row w A (pc xs)) (hl : xs.length ≤ c) (hc : c ≤ 9223372036854775807) :
    Calls Try.prog 17 #[.slice A xs.length c, .int .i64 m] w (GivesPP (if right xs then Pan.due m xs else []) (if right xs then Pan.rest m xs else []) w) := by
  by_cases h : right xs = true
  · rw [if_pos h, if_pos h]; exact paDue xs A c m w hA hl hc h
  · rw [if_neg h, if_neg h]; exact paDue_not xs A c m w hA (by omega) (by simpa using h)
theorem right_le {xs : List Pn} (h : right xs = true) : xs.length ≤ 2000 := ((right_iff xs).1 h).1
set_option maxRecDepth 100000 in
set_option maxHeartbeats 1000000 in
theorem walkPaneParts (xs : List Pn) (A : Option Addr) (c : Nat) (k m : Int) (w : World) (hA : Row w A (pc xs)) (hl : xs.length ≤ c) (hc : c ≤ 9223372036854775807) :
    Calls Try.prog 4 #[.slice A xs.length c, .int .i64 k, .int .i64 m] w (TellsB true w) := by
  have HF := Lib.hid (lwFewP xs A c w hl hc)
  have hfl := few_len xs
  have hrow := few_row hA
  obtain ⟨ys, hy⟩ : ∃ ys, ys = few xs := ⟨_, rfl⟩
  rw [← hy] at HF hfl hrow
  have HD := Lib.hid (fun w' (hb : Below w.heap.size w w') => paDueAll ys A c m w' (hrow.below hb) (by omega) hc)
  have HE := Lib.hid (fun w' (hb : Below w.heap.size w w') => rfDue ys A c m w' (hrow.below hb) (by omega))
  have HR := Lib.hid (fun w' (hb : Below w.heap.size w w') => paResults k ys A c w' (hrow.below hb) (by omega))
  have HS := Lib.hid (fun w' (hb : Below w.heap.size w w') => rfResults k ys A c w' (hrow.below hb) (by omega))
  have d20 : (if right ys then Pan.due m ys else []).length ≤ 9223372036854775807 := by
    split
    · have := right_le (by assumption); have := List.length_filter_le (fun a => decide (a.p.hi ≤ m)) ys; unfold Pan.due; omega
    · simp
  have r20 : (if right ys then Pan.rest m ys else []).length ≤ 9223372036854775807 := by
    split
    · have := right_le (by assumption); have := List.length_filter_le (fun a => !decide (a.p.hi ≤ m)) ys; unfold Pan.rest; omega
    · simp
  have s20 : (resO k ys).length ≤ 9223372036854775807 := by
    unfold resO
    split
    · rw [List.length_map]; omega
    · simp
  obtain ⟨us, hu⟩ : ∃ us, us = (if right ys then Pan.due m ys else []) := ⟨_, rfl⟩
  obtain ⟨zs, hz⟩ : ∃ zs, zs = (if right ys then Pan.rest m ys else []) := ⟨_, rfl⟩
  obtain ⟨rs, hr⟩ : ∃ rs, rs = resO k ys := ⟨_, rfl⟩
  rw [← hu] at HD HE d20
  rw [← hz] at HD HE r20
  rw [← hr] at HR HS s20
  have HL1 := Lib.hid (paLike us d20)
  have HL2 := Lib.hid (paLike zs r20)
  have HL3 := Lib.hid (paLikeR rs s20)
  clear hu hz hr hy hA hrow d20 r20 s20
  go_enter Try.func4, Try.ntmps4
  go_wp2_with fail
  refine HF.out.mono ?_
  rintro e w0 ⟨rfl, rfl⟩
  go_wp2_with fail
  refine (HD.out _ (Below.refl _ _)).mono ?_
  rintro e w1 ⟨A1, c1, A2, c2, rfl, _, _, _, _, s1, s2, hb1⟩
  have HB1 := Lib.hid hb1
  have S1 := Lib.hid s1; have S2 := Lib.hid s2
  clear hb1 s1 s2
  go_wp2_with fail
  refine (HE.out _ HB1.out).mono ?_
  rintro e w2 ⟨A3, c3, A4, c4, rfl, _, _, _, _, s3, s4, hb2⟩
  have HB2 := Lib.hid (below_next HB1.out hb2)
  have S1 := Lib.hid (S1.out.below hb2); have S2 := Lib.hid (S2.out.below hb2)
  have S3 := Lib.hid s3; have S4 := Lib.hid s4
  clear hb2 s3 s4
  go_wp2_with fail
  refine (lawAlive _).mono ?_
  rintro e w3 ⟨rfl, hb3⟩
  have HB3 := Lib.hid (below_next HB2.out hb3)
  have S1 := Lib.hid (S1.out.below hb3); have S2 := Lib.hid (S2.out.below hb3)
  have S3 := Lib.hid (S3.out.below hb3); have S4 := Lib.hid (S4.out.below hb3)
  clear hb3
  go_wp2_with fail
  refine (HL1.out _ _ _ _ _ S1.out S3.out).mono ?_
  rintro e w4 ⟨rfl, hb4⟩
  have HB4 := Lib.hid (below_next HB3.out hb4)
  have S2 := Lib.hid (S2.out.below hb4); have S4 := Lib.hid (S4.out.below hb4)
  clear hb4
  go_wp2_with fail
  refine (HL2.out _ _ _ _ _ S2.out S4.out).mono ?_
  rintro e w5 ⟨rfl, hb5⟩
  have HB5 := Lib.hid (below_next HB4.out hb5)
  clear hb5
  go_wp2_with fail
  refine (HR.out _ HB5.out).mono ?_
  rintro e w6 ⟨A6, c6, rfl, _, _, s6, hb6⟩
  have HB6 := Lib.hid (below_next HB5.out hb6)
  have S6 := Lib.hid s6
  clear hb6 s6
  go_wp2_with fail
  refine (HS.out _ HB6.out).mono ?_
  rintro e w7 ⟨A7, c7, rfl, _, _, s7, hb7⟩
  have HB7 := Lib.hid (below_next HB6.out hb7)
  have S6 := Lib.hid (S6.out.below hb7)
  have S7 := Lib.hid s7
  clear hb7 s7
  go_wp2_with fail
  refine (HL3.out _ _ _ _ _ S6.out S7.out).mono ?_
  rintro e w8 ⟨rfl, hb8⟩
  have HB8 := Lib.hid (below_next HB7.out hb8)
  clear hb8
  go_wp2_with fail
  go_ret
  exact ⟨rfl, HB8.out⟩
theorem lawPaneParts : Lift.Owes 4 [22, 3, 2] := by
  intro H enc W base args ds ps hval hA _ _
  obtain ⟨v0, v1, v2, d0, d1, d2, p0, p1, p2, rfl, rfl, rfl, h0, h1, h2⟩ := trodAll_three hA
  obtain ⟨A, c, xs, rfl, hl, hc, hrow⟩ := openPanes (hval 0 _ v0 rfl rfl) h0
  obtain ⟨k, rfl, rfl, rfl, _⟩ := open_int Try.underlying3 (hval 1 _ v1 rfl rfl) h1
  obtain ⟨m, rfl, rfl, rfl, _⟩ := open_int Try.underlying2 (hval 2 _ v2 rfl rfl) h2
  exact walkPaneParts xs A c k m W hrow hl hc
namespace Pan
theorem mOut_len (k : Int) (a b : List Pn) : (mOut k a b).1.length ≤ 2000 := by
  unfold mOut
  split
  · split
    · simp
    · rename_i h
      rw [Bool.or_eq_true, decide_eq_true_eq] at h
      show (mrg k a b).length ≤ 2000
      omega
  · simp
end Pan
set_option maxRecDepth 100000 in
set_option maxHeartbeats 1000000 in
theorem walkPaneMerges (k : Int) (xs ys : List Pn) (A A2 : Option Addr) (c c2 : Nat) (w : World) (hA : Row w A (pc xs)) (hA2 : Row w A2 (pc ys)) (hl : xs.length ≤ c) (hc : c ≤ 9223372036854775807) (hl2 : ys.length ≤ c2) (hc2 : c2 ≤ 9223372036854775807) :
    Calls Try.prog 5 #[.int .i64 k, .slice A xs.length c, .slice A2 ys.length c2] w (TellsB true w) := by
  have HF := Lib.hid (lwFewP xs A c w hl hc)
  have HG := Lib.hid (lwFewP ys A2 c2 w hl2 hc2)
  have hfl := few_len xs
  have hgl := few_len ys
  have hrow := few_row hA
  have hrow2 := few_row hA2
  obtain ⟨us, hu⟩ : ∃ us, us = few xs := ⟨_, rfl⟩
  obtain ⟨zs, hz⟩ : ∃ zs, zs = few ys := ⟨_, rfl⟩
  rw [← hu] at HF hfl hrow
  rw [← hz] at HG hgl hrow2
  obtain ⟨bs, hbs⟩ : ∃ bs, bs = if 60 < us.length ∧ zs.length = 2000 then zs.take 60 else zs := ⟨_, rfl⟩
  have hrow3 : Row w A2 (pc bs) := by
    rw [hbs]; split
    · exact hrow2.takeP 60
    · exact hrow2
  have hbl : bs.length ≤ c2 := by
    rw [hbs]; split
    · rw [List.length_take]; omega
    · omega
  have HBS : Hid (bs.length = if 60 < us.length ∧ zs.length = 2000 then 60 else zs.length) := Lib.hid (by
    rw [hbs]; split
    · rw [List.length_take]; omega
    · rfl)
  have HM := Lib.hid (fun w' (hb : Below w.heap.size w w') => paMerge k us bs A A2 c c2 w' (hrow.below hb) (hrow3.below hb) (by omega) hc (by omega))
  have HN := Lib.hid (fun w' (hb : Below w.heap.size w w') => rfMerge k us bs A A2 c c2 w' (hrow.below hb) (hrow3.below hb) (by omega) hc (by omega))
  have hml := mOut_len k us bs
  obtain ⟨⟨rl, re⟩, hr⟩ : ∃ r, r = mOut k us bs := ⟨_, rfl⟩
  rw [← hr] at HM HN hml
  have HL := Lib.hid (paLike rl (by simp only at hml; omega))
  obtain ⟨n, hn⟩ : ∃ n, n = bs.length := ⟨_, rfl⟩
  rw [← hn] at HBS HM HN hbl
  clear hr hbs hu hz hrow hrow2 hrow3 hA hA2 hml hn
  go_enter Try.func5, Try.ntmps5
  go_wp2_with fail
  refine HF.out.mono ?_
  rintro e w0 ⟨rfl, rfl⟩
  go_wp2_with fail
  refine HG.out.mono ?_
  rintro e w0 ⟨rfl, rfl⟩
  have hcase : (decide (60 < us.length) = false ∧ n = zs.length) ∨ (60 < us.length ∧ zs.length ≠ 2000 ∧ n = zs.length) ∨ (60 < us.length ∧ zs.length = 2000 ∧ n = 60) := by
    have h := HBS.out
    by_cases h1 : 60 < us.length
    · by_cases h2 : zs.length = 2000
      · rw [if_pos ⟨h1, h2⟩] at h; exact .inr (.inr ⟨h1, h2, h⟩)
      · rw [if_neg (fun h => h2 h.2)] at h; exact .inr (.inl ⟨h1, h2, h⟩)
    · rw [if_neg (fun h => h1 h.1)] at h; exact .inl ⟨decide_eq_false h1, h⟩
  have HC := Lib.hid hcase
  clear hcase HBS
  have hee : (re == re) = true := eq_b rfl
  rcases HC.out with ⟨h1, h2⟩ | ⟨h1, h2, h3⟩ | ⟨h1, h2, h3⟩
  · subst h2
    have g1 : (us.length : Int) ≤ 60 := by have := of_decide_eq_false h1; omega
    go_wp2_with fail
    refine (HM.out _ (Below.refl _ _)).mono ?_
    rintro e w1 ⟨A1, c1, rfl, _, _, s1, hb1⟩
    have HB1 := Lib.hid hb1
    have S1 := Lib.hid s1
    clear hb1 s1
    go_wp2_with fail
    refine (HN.out _ HB1.out).mono ?_
    rintro e w2 ⟨A3, c3, rfl, _, _, s2, hb2⟩
    have HB2 := Lib.hid (below_next HB1.out hb2)
    have S1 := Lib.hid (S1.out.below hb2)
    have S2 := Lib.hid s2
    clear hb2 s2
    go_wp2_with fail
    refine (lawAlive _).mono ?_
    rintro e w3 ⟨rfl, hb3⟩
    have HB3 := Lib.hid (below_next HB2.out hb3)
    have S1 := Lib.hid (S1.out.below hb3)
    have S2 := Lib.hid (S2.out.below hb3)
    clear hb3
    go_wp2_with fail
    refine (HL.out _ _ _ _ _ S1.out S2.out).mono ?_
    rintro e w4 ⟨rfl, hb4⟩
    have HB4 := Lib.hid (below_next HB3.out hb4)
    clear hb4
    go_wp2_with fail
    go_ret
    exact ⟨rfl, HB4.out⟩
  · subst h3
    have g1 : (60 : Int) < us.length := by omega
    have g2 : ((zs.length : Int) == 2000) = false := ne_b (by omega)
    go_wp2_with fail
    refine (HM.out _ (Below.refl _ _)).mono ?_
    rintro e w1 ⟨A1, c1, rfl, _, _, s1, hb1⟩
    have HB1 := Lib.hid hb1
    have S1 := Lib.hid s1
    clear hb1 s1
    go_wp2_with fail
    refine (HN.out _ HB1.out).mono ?_
    rintro e w2 ⟨A3, c3, rfl, _, _, s2, hb2⟩
    have HB2 := Lib.hid (below_next HB1.out hb2)
    have S1 := Lib.hid (S1.out.below hb2)
    have S2 := Lib.hid s2
    clear hb2 s2
    go_wp2_with fail
    refine (lawAlive _).mono ?_
    rintro e w3 ⟨rfl, hb3⟩
    have HB3 := Lib.hid (below_next HB2.out hb3)
    have S1 := Lib.hid (S1.out.below hb3)
    have S2 := Lib.hid (S2.out.below hb3)
    clear hb3
    go_wp2_with fail
    refine (HL.out _ _ _ _ _ S1.out S2.out).mono ?_
    rintro e w4 ⟨rfl, hb4⟩
    have HB4 := Lib.hid (below_next HB3.out hb4)
    clear hb4
    go_wp2_with fail
    go_ret
    exact ⟨rfl, HB4.out⟩
  · subst h3
    have g1 : (60 : Int) < us.length := by omega
    have g2 : ((zs.length : Int) == 2000) = true := eq_b (by omega)
    have g3 : (60 : Int) ≤ c2 := by omega
    go_wp2_with fail
    refine (HM.out _ (Below.refl _ _)).mono ?_
    rintro e w1 ⟨A1, c1, rfl, _, _, s1, hb1⟩
    have HB1 := Lib.hid hb1
    have S1 := Lib.hid s1
    clear hb1 s1
    go_wp2_with fail
    refine (HN.out _ HB1.out).mono ?_
    rintro e w2 ⟨A3, c3, rfl, _, _, s2, hb2⟩
    have HB2 := Lib.hid (below_next HB1.out hb2)
    have S1 := Lib.hid (S1.out.below hb2)
    have S2 := Lib.hid s2
    clear hb2 s2
    go_wp2_with fail
    refine (lawAlive _).mono ?_
    rintro e w3 ⟨rfl, hb3⟩
    have HB3 := Lib.hid (below_next HB2.out hb3)
    have S1 := Lib.hid (S1.out.below hb3)
    have S2 := Lib.hid (S2.out.below hb3)
    clear hb3
    go_wp2_with fail
    refine (HL.out _ _ _ _ _ S1.out S2.out).mono ?_
    rintro e w4 ⟨rfl, hb4⟩
    have HB4 := Lib.hid (below_next HB3.out hb4)
    clear hb4
    go_wp2_with fail
    go_ret
    exact ⟨rfl, HB4.out⟩
theorem lawPaneMerges : Lift.Owes 5 [3, 22, 22] := by
  intro H enc W base args ds ps hval hA _ _
  obtain ⟨v0, v1, v2, d0, d1, d2, p0, p1, p2, rfl, rfl, rfl, h0, h1, h2⟩ := trodAll_three hA
  obtain ⟨k, rfl, rfl, rfl, _⟩ := open_int Try.underlying3 (hval 0 _ v0 rfl rfl) h0
  obtain ⟨A, c, xs, rfl, hl, hc, hrow⟩ := openPanes (hval 1 _ v1 rfl rfl) h1
  obtain ⟨A2, c2, ys, rfl, hl2, hc2, hrow2⟩ := openPanes (hval 2 _ v2 rfl rfl) h2
  exact walkPaneMerges k xs ys A A2 c c2 W hrow hrow2 hl hc hl2 hc2
end Go.Proofs.Ytklpfifellghlaa
