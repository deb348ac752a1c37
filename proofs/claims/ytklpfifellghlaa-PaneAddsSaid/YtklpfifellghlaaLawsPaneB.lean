/- The walk of the law PaneSplits. -/
import Derived.Test.YtklpfifellghlaaPaneAll
import Derived.Test.YtklpfifellghlaaLawsPaneA
import Derived.Deep.Cut
namespace Go.Proofs.Ytklpfifellghlaa
open Go.ChangeShapes Go.WideShapes Go.ChangeAt Go.RowKit
open Pan
set_option linter.unusedVariables false
theorem cut_at {n : Nat} (a : Int) (hn : n ≤ 40) : ∃ p : Nat, p ≤ n ∧ (a.tmod ((n : Int) + 1) + n + 1).tmod ((n : Int) + 1) = p ∧ -((n : Int) + 1) < a.tmod ((n : Int) + 1) ∧ a.tmod ((n : Int) + 1) < (n : Int) + 1 := by
  have h1 : a.tmod ((n : Int) + 1) < (n : Int) + 1 := Int.tmod_lt_of_pos a (by omega)
  have h2 : -((n : Int) + 1) < a.tmod ((n : Int) + 1) := by
    have h3 : (-a).tmod ((n : Int) + 1) < (n : Int) + 1 := Int.tmod_lt_of_pos (-a) (by omega)
    rw [Int.neg_tmod] at h3
    omega
  have h4 : 0 ≤ (a.tmod ((n : Int) + 1) + n + 1).tmod ((n : Int) + 1) := Int.tmod_nonneg _ (by omega)
  have h5 : (a.tmod ((n : Int) + 1) + n + 1).tmod ((n : Int) + 1) < (n : Int) + 1 := Int.tmod_lt_of_pos _ (by omega)
  exact ⟨((a.tmod ((n : Int) + 1) + n + 1).tmod ((n : Int) + 1)).toNat, by omega, by omega, h2, h1⟩
set_option maxRecDepth 100000 in
set_option maxHeartbeats 1000000 in
theorem walkPaneSplits (k : Int) (vs : List (Pl × Int)) (A : Option Addr) (c : Nat) (at_ : Int) (w : World) (hA : Row w A (vc vs)) (hl : vs.length ≤ c) (hc : c ≤ 9223372036854775807) :
    Calls Try.prog 7 #[.int .i64 k, .slice A vs.length c, .int .i64 at_] w (TellsB true w) := by
  obtain ⟨us, hus⟩ : ∃ us, us = vs.take 40 := ⟨_, rfl⟩
  obtain ⟨n, hn⟩ : ∃ n, n = us.length := ⟨_, rfl⟩
  have hnv : n = if 40 < vs.length then 40 else vs.length := by rw [hn, hus, List.length_take]; split <;> omega
  have hn40 : n ≤ 40 := by rw [hnv]; split <;> omega
  have hnc : n ≤ c := by rw [hnv]; split <;> omega
  have HV := Lib.hid (hus ▸ hA.takeV 40 : Row w A (vc us))
  have HNV := Lib.hid hnv
  have HN := Lib.hid hn
  clear hA hus hnv hn
  go_enter Try.func7, Try.ntmps7
  go_upto_if 19 with fail
  go_cut [1] from 20 (fun s wc => s = .slice A n c ∧ wc = w)
  case first =>
    by_cases h : 40 < vs.length
    · have h1 : (40 : Int) < vs.length := by omega
      have h2 : (40 : Int) ≤ c := by omega
      have hn := HNV.out
      rw [if_pos h] at hn
      go_wp2_with fail
      go_meet
      case rel => exact ⟨by rw [hn], rfl⟩
    · have h1 : (vs.length : Int) ≤ 40 := by omega
      have hn := HNV.out
      rw [if_neg h] at hn
      go_wp2_with fail
      go_meet
      case rel => exact ⟨by rw [hn], rfl⟩
  case rest =>
    obtain ⟨rfl, hw⟩ := hcut
    subst hw
    obtain ⟨p, hp, hpe, g1, g2⟩ := cut_at at_ hn40
    have HALL := Lib.hid (fun w' (hb : Below wc.heap.size wc w') => lwAll k us A c w' (HV.out.below hb) (by have := HN.out; omega))
    rw [← HN.out] at HALL
    have q1 : IntKind.i64.wrap ((n : Int) + 1) = (n : Int) + 1 := wrap64_in (by omega) (by omega)
    have q2 : IntKind.i64.wrap (at_.tmod ((n : Int) + 1)) = at_.tmod ((n : Int) + 1) := wrap64_in (by omega) (by omega)
    have q3 : IntKind.i64.wrap (at_.tmod ((n : Int) + 1) + n) = at_.tmod ((n : Int) + 1) + n := wrap64_in (by omega) (by omega)
    have q4 : IntKind.i64.wrap (at_.tmod ((n : Int) + 1) + n + 1) = at_.tmod ((n : Int) + 1) + n + 1 := wrap64_in (by omega) (by omega)
    have q5 : IntKind.i64.wrap (p : Int) = (p : Int) := wrap64_in (by omega) (by omega)
    have q6 : ((n : Int) + 1 == 0) = false := ne_b (by omega)
    obtain ⟨o, ho⟩ : ∃ o, o = allO k us := ⟨_, rfl⟩
    have HO := Lib.hid ho
    rw [← ho] at HALL
    clear ho
    rcases o with _ | both
    · go_wp2_with fail
      refine (HALL.out _ (Below.refl _ _)).mono ?_
      rintro e w1 ⟨A1, c1, rfl, _, _, _, hb1⟩
      have HB1 := Lib.hid hb1
      clear hb1
      go_wp2_with fail
      refine (lawAlive _).mono ?_
      rintro e w2 ⟨rfl, hb2⟩
      have HB2 := Lib.hid (below_next HB1.out hb2)
      clear hb2
      go_wp2_with fail
      go_ret
      exact ⟨rfl, HB2.out⟩
    · by_cases k1 : k < 1
      · go_wp2_with fail
        refine (HALL.out _ (Below.refl _ _)).mono ?_
        rintro e w1 ⟨A1, c1, rfl, _, _, _, hb1⟩
        have HB1 := Lib.hid hb1
        clear hb1
        go_wp2_with fail
        refine (lawAlive _).mono ?_
        rintro e w2 ⟨rfl, hb2⟩
        have HB2 := Lib.hid (below_next HB1.out hb2)
        clear hb2
        go_wp2_with fail
        go_ret
        exact ⟨rfl, HB2.out⟩
      · by_cases k5 : 5 < k
        · have k1' : decide (k < 1) = false := decide_eq_false k1
          go_wp2_with fail
          refine (HALL.out _ (Below.refl _ _)).mono ?_
          rintro e w1 ⟨A1, c1, rfl, _, _, _, hb1⟩
          have HB1 := Lib.hid hb1
          clear hb1
          go_wp2_with fail
          refine (lawAlive _).mono ?_
          rintro e w2 ⟨rfl, hb2⟩
          have HB2 := Lib.hid (below_next HB1.out hb2)
          clear hb2
          go_wp2_with fail
          go_ret
          exact ⟨rfl, HB2.out⟩
        · have hk : 1 ≤ k ∧ k ≤ 5 := ⟨by omega, by omega⟩
          have k1' : decide (k < 1) = false := decide_eq_false k1
          have k5' : decide (5 < k) = false := decide_eq_false k5
          have hul : us.length ≤ 40 := by have := HN.out; omega
          have hoo := HO.out
          rw [allO_kind hk us (by omega)] at hoo
          obtain ⟨hall, hboth⟩ : us.all (fun v => plOk v.1) = true ∧ both = adds k us := by
            by_cases h : us.all (fun v => plOk v.1) = true
            · rw [if_pos h] at hoo; exact ⟨h, by cases hoo; rfl⟩
            · rw [if_neg h] at hoo; cases hoo
          have hmem : ∀ v ∈ us, plOk v.1 = true := fun v hv => List.all_eq_true.1 hall v hv
          have e1 : allO k (us.take p) = some (adds k (us.take p)) := by
            rw [allO_kind hk _ (by rw [List.length_take]; omega), if_pos (List.all_eq_true.2 fun v hv => hmem v (List.mem_of_mem_take hv))]
          have e2 : allO k (us.drop p) = some (adds k (us.drop p)) := by
            rw [allO_kind hk _ (by rw [List.length_drop]; omega), if_pos (List.all_eq_true.2 fun v hv => hmem v (List.mem_of_mem_drop hv))]
          have r1 : right (adds k (us.take p)) = true := adds_ok hk (fun v hv => hmem v (List.mem_of_mem_take hv)) (by rw [List.length_take]; omega)
          have r2 : right (adds k (us.drop p)) = true := adds_ok hk (fun v hv => hmem v (List.mem_of_mem_drop hv)) (by rw [List.length_drop]; omega)
          have l1 := len_adds k (us.take p)
          have l2 := len_adds k (us.drop p)
          rw [List.length_take] at l1
          rw [List.length_drop] at l2
          have n1 := adds_n hk (vs := us.take p) (by rw [List.length_take]; omega)
          have n2 := adds_n hk (vs := us.drop p) (by rw [List.length_drop]; omega)
          have m1 : mOut k (adds k (us.take p)) (adds k (us.drop p)) = (both, 0) := by
            rw [mOut_few hk r1 r2 n1 n2 (by omega), mrg_adds hk _ _ (by rw [List.length_take]; omega) (by rw [List.length_drop]; omega), List.take_append_drop, hboth]
          have m2 : mOut k (adds k (us.drop p)) (adds k (us.take p)) = (both, 0) := by
            rw [mOut_few hk r2 r1 n2 n1 (by omega), mrg_turn hk _ _ (by rw [List.length_take]; omega) (by rw [List.length_drop]; omega), List.take_append_drop, hboth]
          have HT := Lib.hid (fun w' (hb : Below wc.heap.size wc w') => lwAll k (us.take p) A c w' ((HV.out.takeV p).below hb) (by rw [List.length_take]; omega))
          have HD := Lib.hid (fun w' B m cc (hb : Below wc.heap.size wc w') (hB : ¬ c = p → B = Option.map (fun x => x.add (p * 4)) A) (hm : m = (us.drop p).length) => hm ▸ lwAll k (us.drop p) B cc w' (show Row w' B (vc (us.drop p)) from by
            by_cases h : c = p
            · rw [List.drop_eq_nil_of_le (by have := HN.out; omega)]; exact Row.nil
            · rw [hB h]; exact (HV.out.dropV p).below hb) (by rw [List.length_drop]; omega))
          have HLK := Lib.hid (fun A A' c c' w' => paLike both (by have := len_adds k us; rw [← hboth] at this; omega) A A' c c' w')
          rw [e1, show (us.take p).length = p by rw [List.length_take]; have := HN.out; omega] at HT
          rw [e2, show (us.drop p).length = n - p by rw [List.length_drop]; have := HN.out; omega] at HD
          obtain ⟨xa, hxa⟩ : ∃ xa, xa = adds k (us.take p) := ⟨_, rfl⟩
          obtain ⟨xb, hxb⟩ : ∃ xb, xb = adds k (us.drop p) := ⟨_, rfl⟩
          rw [← hxa] at HT m1 m2 l1
          rw [← hxb] at HD m1 m2 l2
          have HM1 := Lib.hid (fun w' A B c c' (hA : Row w' A (pc xa)) (hB : Row w' B (pc xb)) (h1 : xa.length ≤ c) (h2 : c ≤ maxLen) => m1 ▸ paMerge k xa xb A B c c' w' hA hB h1 h2 (by omega))
          have HM2 := Lib.hid (fun w' A B c c' (hA : Row w' A (pc xb)) (hB : Row w' B (pc xa)) (h1 : xb.length ≤ c) (h2 : c ≤ maxLen) => m2 ▸ paMerge k xb xa A B c c' w' hA hB h1 h2 (by omega))
          have g3 : (0 : Int) ≤ p := by omega
          have g4 : (p : Int) ≤ c := by omega
          have g5 : (p : Int) ≤ n := by omega
          clear hoo hall hboth hmem e1 e2 r1 r2 l1 l2 n1 n2 m1 m2 hxa hxb hul
          by_cases hcp : c = p
          · subst hcp
            go_wp2_with fail
            refine (HALL.out _ (Below.refl _ _)).mono ?_
            rintro e w1 ⟨A1, c1, rfl, _, _, s1, hb1⟩
            have HB1 := Lib.hid hb1
            have S1 := Lib.hid s1
            clear hb1 s1
            go_wp2_with fail
            refine (HT.out _ HB1.out).mono ?_
            rintro e w2 ⟨A2, c2, rfl, t1, t2, s2, hb2⟩
            have HB2 := Lib.hid (below_next HB1.out hb2)
            have S1 := Lib.hid (S1.out.below hb2)
            have S2 := Lib.hid s2
            clear hb2 s2
            go_wp2_with fail
            refine (HD.out _ _ _ _ HB2.out (by intro h; exact absurd (by first | rfl | trivial) h) (by omega)).mono ?_
            rintro e w3 ⟨A3, c3, rfl, t3, t4, s3, hb3⟩
            have HB3 := Lib.hid (below_next HB2.out hb3)
            have S1 := Lib.hid (S1.out.below hb3)
            have S2 := Lib.hid (S2.out.below hb3)
            have S3 := Lib.hid s3
            clear hb3 s3
            go_wp2_with fail
            refine (HM1.out _ _ _ _ _ S2.out S3.out t1 t2).mono ?_
            rintro e w4 ⟨A4, c4, rfl, t5, t6, s4, hb4⟩
            have HB4 := Lib.hid (below_next HB3.out hb4)
            have S1 := Lib.hid (S1.out.below hb4)
            have S2 := Lib.hid (S2.out.below hb4)
            have S3 := Lib.hid (S3.out.below hb4)
            have S4 := Lib.hid s4
            clear hb4 s4
            go_wp2_with fail
            refine (HM2.out _ _ _ _ _ S3.out S2.out t3 t4).mono ?_
            rintro e w5 ⟨A5, c5, rfl, t7, t8, s5, hb5⟩
            have HB5 := Lib.hid (below_next HB4.out hb5)
            have S1 := Lib.hid (S1.out.below hb5)
            have S4 := Lib.hid (S4.out.below hb5)
            have S5 := Lib.hid s5
            clear hb5 s5
            go_wp2_with fail
            refine (lawAlive _).mono ?_
            rintro e w6 ⟨rfl, hb6⟩
            have HB6 := Lib.hid (below_next HB5.out hb6)
            have S1 := Lib.hid (S1.out.below hb6)
            have S4 := Lib.hid (S4.out.below hb6)
            have S5 := Lib.hid (S5.out.below hb6)
            clear hb6
            go_wp2_with fail
            refine (HLK.out _ _ _ _ _ S4.out S1.out).mono ?_
            rintro e w7 ⟨rfl, hb7⟩
            have HB7 := Lib.hid (below_next HB6.out hb7)
            have S1 := Lib.hid (S1.out.below hb7)
            have S5 := Lib.hid (S5.out.below hb7)
            clear hb7
            go_wp2_with fail
            refine (HLK.out _ _ _ _ _ S5.out S1.out).mono ?_
            rintro e w8 ⟨rfl, hb8⟩
            have HB8 := Lib.hid (below_next HB7.out hb8)
            clear hb8
            go_wp2_with fail
            go_ret
            exact ⟨rfl, HB8.out⟩
          · go_wp2_with fail
            refine (HALL.out _ (Below.refl _ _)).mono ?_
            rintro e w1 ⟨A1, c1, rfl, _, _, s1, hb1⟩
            have HB1 := Lib.hid hb1
            have S1 := Lib.hid s1
            clear hb1 s1
            go_wp2_with fail
            refine (HT.out _ HB1.out).mono ?_
            rintro e w2 ⟨A2, c2, rfl, t1, t2, s2, hb2⟩
            have HB2 := Lib.hid (below_next HB1.out hb2)
            have S1 := Lib.hid (S1.out.below hb2)
            have S2 := Lib.hid s2
            clear hb2 s2
            go_wp2_with fail
            refine (HD.out _ _ _ _ HB2.out (by intro _; rfl) (by omega)).mono ?_
            rintro e w3 ⟨A3, c3, rfl, t3, t4, s3, hb3⟩
            have HB3 := Lib.hid (below_next HB2.out hb3)
            have S1 := Lib.hid (S1.out.below hb3)
            have S2 := Lib.hid (S2.out.below hb3)
            have S3 := Lib.hid s3
            clear hb3 s3
            go_wp2_with fail
            refine (HM1.out _ _ _ _ _ S2.out S3.out t1 t2).mono ?_
            rintro e w4 ⟨A4, c4, rfl, t5, t6, s4, hb4⟩
            have HB4 := Lib.hid (below_next HB3.out hb4)
            have S1 := Lib.hid (S1.out.below hb4)
            have S2 := Lib.hid (S2.out.below hb4)
            have S3 := Lib.hid (S3.out.below hb4)
            have S4 := Lib.hid s4
            clear hb4 s4
            go_wp2_with fail
            refine (HM2.out _ _ _ _ _ S3.out S2.out t3 t4).mono ?_
            rintro e w5 ⟨A5, c5, rfl, t7, t8, s5, hb5⟩
            have HB5 := Lib.hid (below_next HB4.out hb5)
            have S1 := Lib.hid (S1.out.below hb5)
            have S4 := Lib.hid (S4.out.below hb5)
            have S5 := Lib.hid s5
            clear hb5 s5
            go_wp2_with fail
            refine (lawAlive _).mono ?_
            rintro e w6 ⟨rfl, hb6⟩
            have HB6 := Lib.hid (below_next HB5.out hb6)
            have S1 := Lib.hid (S1.out.below hb6)
            have S4 := Lib.hid (S4.out.below hb6)
            have S5 := Lib.hid (S5.out.below hb6)
            clear hb6
            go_wp2_with fail
            refine (HLK.out _ _ _ _ _ S4.out S1.out).mono ?_
            rintro e w7 ⟨rfl, hb7⟩
            have HB7 := Lib.hid (below_next HB6.out hb7)
            have S1 := Lib.hid (S1.out.below hb7)
            have S5 := Lib.hid (S5.out.below hb7)
            clear hb7
            go_wp2_with fail
            refine (HLK.out _ _ _ _ _ S5.out S1.out).mono ?_
            rintro e w8 ⟨rfl, hb8⟩
            have HB8 := Lib.hid (below_next HB7.out hb8)
            clear hb8
            go_wp2_with fail
            go_ret
            exact ⟨rfl, HB8.out⟩
theorem lawPaneSplits : Lift.Owes 7 [3, 41, 3] := by
  intro H enc W base args ds ps hval hA _ _
  obtain ⟨v0, v1, v2, d0, d1, d2, p0, p1, p2, rfl, rfl, rfl, h0, h1, h2⟩ := trodAll_three hA
  obtain ⟨k, rfl, rfl, rfl, _⟩ := open_int Try.underlying3 (hval 0 _ v0 rfl rfl) h0
  obtain ⟨A, c, vs, rfl, hl, hc, hrow⟩ := openVals (hval 1 _ v1 rfl rfl) h1
  obtain ⟨a, rfl, rfl, rfl, _⟩ := open_int Try.underlying3 (hval 2 _ v2 rfl rfl) h2
  exact walkPaneSplits k vs A c a W hrow hl hc
end Go.Proofs.Ytklpfifellghlaa
