/- The walk of the law PaneOrder. -/
import Derived.Test.YtklpfifellghlaaLawsPaneB
import Derived.Deep.CutBlock
import Derived.RegionTactic
import Derived.BigRegion
import Derived.ChangeAlike
import Derived.LoopTactic
namespace Go.Proofs.Ytklpfifellghlaa
open Go.ChangeShapes Go.WideShapes Go.ChangeAt Go.RowKit
open Pan
set_option linter.unusedVariables false
theorem vc_ones (xs : List (Pl × Int)) : ∀ u ∈ vc xs, u.oneCell' = true := by
  intro u hu
  obtain ⟨p, _, hp⟩ := List.mem_flatMap.1 hu
  simp only [vL, List.mem_cons, List.not_mem_nil, or_false] at hp
  rcases hp with rfl | rfl | rfl | rfl <;> rfl
theorem vlInfo : (Try.prog.info? 44).map (fun i => (i.zero, i.size, i.bytes)) = some (some (.agg #[.string ByteArray.empty, .int .i64 0, .int .i64 0, .int .i64 0]), 4, 40) := by kernel_rfl
theorem vc_set {ys : List (Pl × Int)} {i : Nat} (x : Pl × Int) (h : i < ys.length) :
    ((((vc ys).set (i * 4) (.string (kS x.1.key))).set (i * 4 + 1) (.int .i64 x.1.lo)).set (i * 4 + 2) (.int .i64 x.1.hi)).set (i * 4 + 3) (.int .i64 x.2) = vc (ys.set i x) := by
  induction ys generalizing i with
  | nil => simp at h
  | cons y r ih =>
    cases i with
    | zero => simp [vc, vL]
    | succ i =>
      have e : vc (y :: r) = .string (kS y.1.key) :: .int .i64 y.1.lo :: .int .i64 y.1.hi :: .int .i64 y.2 :: vc r := by simp [vc, vL]
      have e2 : vc ((y :: r).set (i + 1) x) = .string (kS y.1.key) :: .int .i64 y.1.lo :: .int .i64 y.1.hi :: .int .i64 y.2 :: vc (r.set i x) := by simp [vc, vL]
      rw [e, e2, show (i + 1) * 4 = i * 4 + 1 + 1 + 1 + 1 by omega]
      simp only [List.set_cons_succ]
      rw [ih (by simpa using h)]
def setV (w : World) (g i : Nat) (x : Pl × Int) : World :=
  (((w.setCell ⟨g, i * 4, none⟩ (.string (kS x.1.key))).setCell ⟨g, i * 4 + 1, none⟩ (.int .i64 x.1.lo)).setCell ⟨g, i * 4 + 2, none⟩ (.int .i64 x.1.hi)).setCell ⟨g, i * 4 + 3, none⟩ (.int .i64 x.2)
theorem own_setV {w : World} {B n cap g : Nat} {T : TypeId} {ys : List (Pl × Int)} (h : w.ownsRow B T 4 (.slice (some ⟨g, 0, none⟩) n cap) n (vc ys)) {i : Nat} (x : Pl × Int) (hi : i < ys.length) :
    (setV w g i x).ownsRow B T 4 (.slice (some ⟨g, 0, none⟩) n cap) n (vc (ys.set i x)) := by
  have h1 := (h.stored (i * 4) (.string (kS x.1.key))).1
  have h2 := (h1.stored (i * 4 + 1) (.int .i64 x.1.lo)).1
  have h3 := (h2.stored (i * 4 + 2) (.int .i64 x.1.hi)).1
  have h4 := (h3.stored (i * 4 + 3) (.int .i64 x.2)).1
  rwa [vc_set x hi] at h4
theorem below_setV {B g : Nat} {a b : World} (h : Below B a b) (hg : B ≤ g) (i : Nat) (x : Pl × Int) : Below B a (setV b g i x) :=
  (((h.setCell (p := ⟨g, i * 4, none⟩) hg _).setCell (p := ⟨g, i * 4 + 1, none⟩) hg _).setCell (p := ⟨g, i * 4 + 2, none⟩) hg _).setCell (p := ⟨g, i * 4 + 3, none⟩) hg _
structure OwnV (w : World) (g i : Nat) (x : Pl × Int) : Prop where
  at_ : VlAt w g (i * 4) x
  f0 : w.frozen? ⟨g, i * 4, none⟩ = false
  f1 : w.frozen? ⟨g, i * 4 + 1, none⟩ = false
  f2 : w.frozen? ⟨g, i * 4 + 2, none⟩ = false
  f3 : w.frozen? ⟨g, i * 4 + 3, none⟩ = false
theorem own_cellV {w : World} {B n cap g : Nat} {T : TypeId} {ys : List (Pl × Int)} (h : w.ownsRow B T 4 (.slice (some ⟨g, 0, none⟩) n cap) n (vc ys)) {i : Nat} {x : Pl × Int} (hi : ys[i]? = some x) : OwnV w g i x := by
  have hl := h.1
  rw [vc_len] at hl
  have := (List.getElem?_eq_some_iff.1 hi).1
  have g0 : ∀ j, j < 4 → (vc ys)[i * 4 + j]? = (vL x)[j]? := fun j hj => flat_get vL vL_len hi hj
  refine ⟨⟨?_, ?_, ?_, ?_⟩, h.frozenAt _, h.frozenAt _, h.frozenAt _, h.frozenAt _⟩
  · rw [h.cellAt _ (by omega)]; exact g0 0 (by omega)
  · rw [h.cellAt _ (by omega)]; exact g0 1 (by omega)
  · rw [h.cellAt _ (by omega)]; exact g0 2 (by omega)
  · rw [h.cellAt _ (by omega)]; exact g0 3 (by omega)
theorem tmod_lo {x d : Int} (h : 0 < d) : -d < x.tmod d := by
  have h3 : (-x).tmod d < d := Int.tmod_lt_of_pos (-x) h
  rw [Int.neg_tmod] at h3
  omega
theorem swap_perm {ms : List (Pl × Int)} {j k : Nat} {u v : Pl × Int} (hu : ms[j]? = some u) (hv : ms[k]? = some v) : ((ms.set j v).set k u).Perm ms := by
  obtain ⟨h1, rfl⟩ := List.getElem?_eq_some_iff.1 hu
  obtain ⟨h2, rfl⟩ := List.getElem?_eq_some_iff.1 hv
  exact List.set_set_perm h1 h2
/-- Values in another order. -/
structure Mixed (w : World) (us : List (Pl × Int)) (n g cap : Nat) (wr : World) : Prop where
  row : ∃ ms : List (Pl × Int), ms.Perm us ∧ wr.ownsRow w.heap.size 44 4 (.slice (some ⟨g, 0, none⟩) n cap) n (vc ms)
  below : Below w.heap.size w wr
theorem Mixed.swap {w wr : World} {us ms : List (Pl × Int)} {n g cap j k : Nat} {u v : Pl × Int} (hg : w.heap.size ≤ g) (hp : ms.Perm us) (hown : wr.ownsRow w.heap.size 44 4 (.slice (some ⟨g, 0, none⟩) n cap) n (vc ms)) (hb : Below w.heap.size w wr)
    (hu : ms[j]? = some u) (hv : ms[k]? = some v) : Mixed w us n g cap (setV (setV wr g j v) g k u).drew :=
  ⟨⟨(ms.set j v).set k u, (swap_perm hu hv).trans hp, (own_setV (own_setV hown v (List.getElem?_eq_some_iff.1 hu).1) u (by rw [List.length_set]; exact (List.getElem?_eq_some_iff.1 hv).1)).drew⟩, (below_setV (below_setV hb hg _ _) hg _ _).drew⟩
theorem openIntsP {H : Type} {enc : TypeId × Value → H} {W : World} {base : Nat} {sp : Nat → Bool} {held : Bool} {v : Value} {d : DataW H} {ps : List MemPlace}
    {r : Reach} {b0 : Nat} (hval : Value.okWide Try.prog W r b0 42 v) (h : DataW.Trod enc Try.prog W base sp held 42 v d ps) :
    ∃ (A : Option Addr) (c : Nat) (zs : List Int), v = .slice A zs.length c ∧ zs.length ≤ c ∧ c ≤ maxLen ∧ Row W A (zs.map (Value.int .i64)) := by
  obtain ⟨A, c, zs, h1, h2, h3, h4, _⟩ := openInts Try.underlying42 Try.underlying3 (by kernel_rfl) hval h
  exact ⟨A, c, zs, h1, h2, h3, h4⟩
set_option maxRecDepth 100000 in
set_option maxHeartbeats 1000000 in
theorem walkPaneOrder (k : Int) (vs : List (Pl × Int)) (A : Option Addr) (c : Nat) (D : Option Addr) (d : Nat) (ss : List Int) (w : World) (hA : Row w A (vc vs)) (hl : vs.length ≤ c) (hc : c ≤ 9223372036854775807)
    (hd : ss.length ≤ 9223372036854775807) (hs : Row w D (ss.map (Value.int .i64))) :
    Calls Try.prog 6 #[.int .i64 k, .slice A vs.length c, .slice D ss.length d] w (TellsB true w) := by
  obtain ⟨us, hus⟩ : ∃ us, us = vs.take 40 := ⟨_, rfl⟩
  obtain ⟨n, hnn⟩ : ∃ n, n = us.length := ⟨_, rfl⟩
  have hnv : n = if 40 < vs.length then 40 else vs.length := by rw [hnn, hus, List.length_take]; split <;> omega
  have hn40 : n ≤ 40 := by rw [hnv]; split <;> omega
  have hnc : n ≤ c := by rw [hnv]; split <;> omega
  have HN := Lib.hid hnn
  have HV := Lib.hid (hus ▸ hA.takeV 40 : Row w A (vc us))
  have HNV := Lib.hid hnv
  have HSR := Lib.hid hs
  obtain ⟨i0, hi0, hz0, hz1, hz2⟩ := info_parts vlInfo
  have HI0 := Lib.hid hi0; have HZ0 := Lib.hid hz0; have HZ1 := Lib.hid hz1; have HZ2 := Lib.hid hz2
  have HALL : Hid (∀ w' B e (ms : List (Pl × Int)), ms.Perm us → Row w' B (vc ms) → Calls Try.prog 24 #[.int .i64 k, .slice B n e] w' (GivesO (allO k us) w')) := Lib.hid fun w' B e ms hp hr => by
    have h := lwAll k ms B e w' hr (by rw [hp.length_eq]; omega)
    rw [hp.length_eq, ← hnn, allO_perm (k := k) hp (by rw [hp.length_eq]; omega)] at h
    exact h
  have hR : ∀ xs, allO k us = some xs → right xs = true := fun xs h => allO_right (by omega) h
  have HR := Lib.hid hR
  clear hA hus hnv hs hR hnn hi0 hz0 hz1 hz2
  go_enter Try.func6, Try.ntmps6
  go_upto_if 17 with fail
  go_cut [1] from 18 (fun s wb => s = .slice A n c ∧ wb = w)
  case first =>
    by_cases h : 40 < vs.length
    · have h1 : (40 : Int) < vs.length := by omega
      have h2 : (40 : Int) ≤ c := by omega
      have hn := HNV.out
      rw [if_pos h] at hn
      go_wp2_with fail
      go_meet
      case rel => exact ⟨by rw [hn], rfl⟩
    · have h1 : (vs.length : Int) ≤ 40 := by omega
      have hn := HNV.out
      rw [if_neg h] at hn
      go_wp2_with fail
      go_meet
      case rel => exact ⟨by rw [hn], rfl⟩
  case rest =>
    obtain ⟨rfl, hw⟩ := hcut
    have hw2 := hw.symm
    clear hw
    subst hw2
    go_wp2_with (at_builtin; refine hold_mk ?_)
    refine hold_out ?_
    refine wpApp rfl _ _ _ rfl w.heap.size 44 i0 _ 4 40 Try.underlying41 HI0.out HZ0.out HZ1.out HZ2.out rfl (by omega) _ 0 [] rfl (own_new (Nat.le_refl _)) A n c (vc us) rfl
      (HV.out.below (below_al (Below.refl _ _))) (by rw [vc_len, HN.out]) (vc_ones us) (by unfold maxLen; omega) (by omega) (by simp) ?_
    intro v1 w1 hown1 hb1
    rw [Nat.zero_add, List.nil_append] at hown1
    have B1 := Lib.hid ((below_al (o := .cells #[] 44) (Below.refl w.heap.size w)).trans hb1)
    have HOW := Lib.hid hown1
    clear hown1 hb1
    go_upto_block 0 with fail
    go_cut [7, 8, 9, 10] from 25 (fun s7 s8 s9 s10 wx => ∃ B e ms, s7 = .slice B n e ∧ ms.Perm us ∧ Row wx B (vc ms) ∧ Below w.heap.size w wx)
    case first =>
      rcases HOW.out.2 with ⟨rfl, h0⟩ | ⟨g, cap, cur, rfl, hg, hh, hn, hm, hcur, hx⟩
      · have hyn : us = [] := List.eq_nil_of_length_eq_zero (by have := HN.out; omega)
        subst hyn
        subst h0
        clear HOW
        go_wp2_with fail
        go_loop [25] (fun i => i = .int .i64 (0 : Nat)) (fun _ => 0)
        case atStart => rfl
        case round =>
          obtain rfl := hrel
          by_cases hlt : 0 < ss.length
          · obtain ⟨x, b, off, rfl, hx, hc2⟩ := (HSR.out.below B1.out).ints hlt
            rw [Nat.add_zero] at hc2
            clear hx
            go_wp2_with fail
            go_meet
            case rel => exact ⟨none, 0, [], rfl, List.Perm.refl _, Row.nil, B1.out⟩
          · go_wp2_with fail
            go_meet
            case rel => exact ⟨none, 0, [], rfl, List.Perm.refl _, Row.nil, B1.out⟩
      · have T1 := Lib.hid (show Mixed w us n g cap w1 from ⟨⟨us, List.Perm.refl _, HOW.out⟩, B1.out⟩)
        have HG := Lib.hid hg
        clear hh hn hm hcur hx hg B1 HOW
        go_wp2_with fail
        go_loopw [25] (fun i wr => (∃ j : Nat, i = .int .i64 j ∧ j ≤ ss.length) ∧ Mixed w us n g cap wr) (fun i _ => ss.length - (intOf i).toNat)
        case atStart => exact ⟨⟨0, rfl, Nat.zero_le _⟩, T1.out⟩
        case round =>
          obtain ⟨⟨j, rfl, hj⟩, ⟨ms, hp, hown⟩, hbw⟩ := hrel
          have hml : ms.length = n := hp.length_eq.trans HN.out.symm
          have HP := Lib.hid hp
          have HO := Lib.hid hown
          have BB := Lib.hid hbw
          have HM := Lib.hid (show Row wr (some ⟨g, 0, none⟩) (vc ms) from by
            obtain ⟨A', c', he, _, _, _, hr', _⟩ := own_form hown (by omega)
            cases he
            exact hr')
          clear hp hown hbw T1
          by_cases hlt : j < ss.length
          · obtain ⟨x, b, off, rfl, hx, hc2⟩ := (HSR.out.below BB.out).ints hlt
            clear hx
            by_cases hn : j + 1 < n
            · obtain ⟨q, hq⟩ : ∃ q, x.tmod ((n : Int) - j) = q := ⟨_, rfl⟩
              have q1 : -((n : Int) - j) < q := hq ▸ tmod_lo (by omega)
              have q2 : q < (n : Int) - j := hq ▸ Int.tmod_lt_of_pos _ (by omega)
              obtain ⟨r, hr⟩ : ∃ r, (q + n - j).tmod ((n : Int) - j) = r := ⟨_, rfl⟩
              have r1 : 0 ≤ r := hr ▸ Int.tmod_nonneg _ (by omega)
              have r2 : r < (n : Int) - j := hr ▸ Int.tmod_lt_of_pos _ (by omega)
              have hr3 : (q + n - j) % ((n : Int) - j) = r := by rw [← Int.tmod_eq_emod_of_nonneg (by omega)]; exact hr
              obtain ⟨kk, hk⟩ : ∃ kk : Nat, (j : Int) + r = kk := ⟨((j : Int) + r).toNat, by omega⟩
              have k1 : j ≤ kk := by omega
              have k2 : kk < n := by omega
              obtain ⟨u, hu⟩ : ∃ u, ms[j]? = some u := ⟨_, List.getElem?_eq_getElem (by omega)⟩
              obtain ⟨v, hv⟩ : ∃ v, ms[kk]? = some v := ⟨_, List.getElem?_eq_getElem (by omega)⟩
              obtain ⟨⟨a0, a1, a2, a3⟩, a4, a5, a6, a7⟩ := own_cellV HO.out hu
              obtain ⟨⟨b0, b1, b2, b3⟩, b4, b5, b6, b7⟩ := own_cellV HO.out hv
              have HU := Lib.hid hu
              have HVV := Lib.hid hv
              have HML := Lib.hid hml
              clear hu hv hml
              by_cases hjk : j = kk
              · subst hjk
                go_wp2_with fail
                go_region
                have T2 := Lib.hid (Mixed.swap HG.out HP.out HO.out BB.out HU.out HU.out)
                clear a0 a1 a2 a3 a4 a5 a6 a7 b0 b1 b2 b3 b4 b5 b6 b7 hq hr hr3 hk
                go_wp2
                go_roundw
                case rel => exact ⟨⟨j + 1, by go_num, by omega⟩, T2.out⟩
                case measure => simp [intOf]; omega
              · have hij : j < kk := by omega
                clear hjk
                go_wp2_with fail
                go_region
                have T2 := Lib.hid (Mixed.swap HG.out HP.out HO.out BB.out HU.out HVV.out)
                clear a0 a1 a2 a3 a4 a5 a6 a7 b0 b1 b2 b3 b4 b5 b6 b7 hq hr hr3 hk
                go_wp2
                go_roundw
                case rel => exact ⟨⟨j + 1, by go_num, by omega⟩, T2.out⟩
                case measure => simp [intOf]; omega
            · have hge : n ≤ j + 1 := by omega
              go_wp2_with fail
              go_meet
              case rel => exact ⟨_, _, ms, rfl, HP.out, HM.out, BB.out⟩
          · have hge : ss.length ≤ j := by omega
            clear hlt
            go_wp2_with fail
            go_meet
            case rel => exact ⟨_, _, ms, rfl, HP.out, HM.out, BB.out⟩
    case rest =>
      obtain ⟨B, e, ms, rfl, hp, hrow, hbe⟩ := hcut
      have HP := Lib.hid hp
      have HROW := Lib.hid hrow
      have HB := Lib.hid hbe
      clear hp hrow hbe
      obtain ⟨o, ho⟩ : ∃ o, o = allO k us := ⟨_, rfl⟩
      rw [← ho] at HALL HR
      clear ho
      rcases o with _ | xs
      · go_wp2_with fail
        refine (HALL.out _ _ _ us (List.Perm.refl _) (HV.out.below HB.out)).mono ?_
        rintro e w2 ⟨A2, c2, rfl, _, _, s2, hb2⟩
        have HB2 := Lib.hid (below_next HB.out hb2)
        have HROW := Lib.hid (HROW.out.below hb2)
        have S2 := Lib.hid s2
        clear hb2 s2
        go_wp2_with fail
        refine (HALL.out _ _ _ ms HP.out HROW.out).mono ?_
        rintro e w3 ⟨A3, c3, rfl, _, _, s3, hb3⟩
        have HB3 := Lib.hid (below_next HB2.out hb3)
        have S2 := Lib.hid (S2.out.below hb3)
        have S3 := Lib.hid s3
        clear hb3 s3
        go_wp2_with fail
        refine (lawAlive _).mono ?_
        rintro e w4 ⟨rfl, hb4⟩
        have HB4 := Lib.hid (below_next HB3.out hb4)
        have S2 := Lib.hid (S2.out.below hb4)
        have S3 := Lib.hid (S3.out.below hb4)
        clear hb4
        go_wp2_with fail
        refine (paLike [] (by simp) _ _ _ _ _ S2.out S3.out).mono ?_
        rintro e w5 ⟨rfl, hb5⟩
        have HB5 := Lib.hid (below_next HB4.out hb5)
        clear hb5
        go_wp2_with fail
        go_ret
        exact ⟨rfl, HB5.out⟩
      · have hxr := HR.out xs rfl
        obtain ⟨hx20, _, _⟩ := (right_iff xs).1 hxr
        have HXR := Lib.hid (fun A c w' h => hxr ▸ paRight xs A c w' h (by omega))
        clear hxr
        go_wp2_with fail
        refine (HALL.out _ _ _ us (List.Perm.refl _) (HV.out.below HB.out)).mono ?_
        rintro e w2 ⟨A2, c2, rfl, _, _, s2, hb2⟩
        have HB2 := Lib.hid (below_next HB.out hb2)
        have HROW := Lib.hid (HROW.out.below hb2)
        have S2 : Hid (Row w2 A2 (pc xs)) := Lib.hid s2
        clear hb2 s2
        go_wp2_with fail
        refine (HALL.out _ _ _ ms HP.out HROW.out).mono ?_
        rintro e w3 ⟨A3, c3, rfl, _, _, s3, hb3⟩
        have HB3 := Lib.hid (below_next HB2.out hb3)
        have S2 := Lib.hid (S2.out.below hb3)
        have S3 : Hid (Row w3 A3 (pc xs)) := Lib.hid s3
        clear hb3 s3
        go_wp2_with fail
        refine (lawAlive _).mono ?_
        rintro e w4 ⟨rfl, hb4⟩
        have HB4 := Lib.hid (below_next HB3.out hb4)
        have S2 := Lib.hid (S2.out.below hb4)
        have S3 := Lib.hid (S3.out.below hb4)
        clear hb4
        go_wp2_with fail
        refine (paLike xs (by omega) _ _ _ _ _ S2.out S3.out).mono ?_
        rintro e w5 ⟨rfl, hb5⟩
        have HB5 := Lib.hid (below_next HB4.out hb5)
        have S2 := Lib.hid (S2.out.below hb5)
        clear hb5
        go_wp2_with fail
        refine (HXR.out _ _ _ S2.out).mono ?_
        rintro e w6 ⟨rfl, hb6⟩
        have HB6 := Lib.hid (below_next HB5.out hb6)
        clear hb6
        go_wp2_with fail
        go_ret
        exact ⟨rfl, HB6.out⟩
theorem lawPaneOrder : Lift.Owes 6 [3, 41, 42] := by
  intro H enc W base args ds ps hval hA _ _
  obtain ⟨v0, v1, v2, d0, d1, d2, p0, p1, p2, rfl, rfl, rfl, h0, h1, h2⟩ := trodAll_three hA
  obtain ⟨k, rfl, rfl, rfl, _⟩ := open_int Try.underlying3 (hval 0 _ v0 rfl rfl) h0
  obtain ⟨A, c, vs, rfl, hl, hc, hrow⟩ := openVals (hval 1 _ v1 rfl rfl) h1
  obtain ⟨D, d, ss, rfl, hl2, hc2, hrow2⟩ := openIntsP (hval 2 _ v2 rfl rfl) h2
  have hc3 : d ≤ 9223372036854775807 := hc2
  exact walkPaneOrder k vs A c D d ss W hrow hl hc (by omega) hrow2
end Go.Proofs.Ytklpfifellghlaa
