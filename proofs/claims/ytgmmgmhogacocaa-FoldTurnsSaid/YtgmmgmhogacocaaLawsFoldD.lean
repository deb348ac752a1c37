/- The walk of FoldTurns. -/
import Derived.Test.YtgmmgmhogacocaaLawsFoldB
import Derived.RegionTactic
import Derived.BigRegion
import Derived.ChangeAlike
import Derived.LoopTactic
namespace Go.Proofs.Ytgmmgmhogacocaa
open Go.ChangeShapes Go.WideShapes Go.ChangeAt Go.RowKit
open Acm
set_option linter.unusedVariables false
abbrev iv (l : List Int) : List Value := l.map (Value.int .i64)
theorem own_setI {w : World} {B n cap g : Nat} {T : TypeId} {ys : List Int} (h : w.ownsRow B T 1 (.slice (some ⟨g, 0, none⟩) n cap) n (iv ys)) (i : Nat) (x : Int) :
    (w.setCell ⟨g, i, none⟩ (.int .i64 x)).ownsRow B T 1 (.slice (some ⟨g, 0, none⟩) n cap) n (iv (ys.set i x)) := by
  have h1 := (h.stored i (.int .i64 x)).1
  rwa [show (iv ys).set i (.int .i64 x) = iv (ys.set i x) from by simp [List.map_set]] at h1
theorem own_cellI {w : World} {B n cap g : Nat} {T : TypeId} {ys : List Int} (h : w.ownsRow B T 1 (.slice (some ⟨g, 0, none⟩) n cap) n (iv ys)) {i : Nat} {x : Int} (hi : ys[i]? = some x) :
    w.cell? ⟨g, i, none⟩ = some (.int .i64 x) ∧ w.frozen? ⟨g, i, none⟩ = false := by
  have hl : ys.length = n := by have := h.1; simpa using this
  have := (List.getElem?_eq_some_iff.1 hi).1
  refine ⟨?_, h.frozenAt _⟩
  rw [h.cellAt _ (by omega)]
  simp [hi]
theorem tmod_lo {x d : Int} (h : 0 < d) : -d < x.tmod d := by
  rcases Int.le_total 0 x with h0 | h0
  · rw [Int.tmod_eq_emod_of_nonneg h0]; have := Int.emod_nonneg x (show d ≠ 0 by omega); omega
  · have e : x = -(-x) := by omega
    rw [e, Int.neg_tmod, Int.tmod_eq_emod_of_nonneg (by omega)]
    have := Int.emod_lt_of_pos (-x) h
    omega
theorem tmod_hi {x d : Int} (h : 0 < d) : x.tmod d < d := Int.tmod_lt_of_pos x h
/-- The row behind j rounds: turned, old blocks as they were. -/
structure Turned (w : World) (ys : List Int) (g cap : Nat) (wr : World) : Prop where
  row : ∃ ms : List Int, ms.Perm ys ∧ wr.ownsRow w.heap.size 2 1 (.slice (some ⟨g, 0, none⟩) ys.length cap) ys.length (iv ms)
  below : Below w.heap.size w wr
theorem turn_perm {ms : List Int} {j k : Nat} {u v : Int} (hu : ms[j]? = some u) (hv : ms[k]? = some v) : ((ms.set j v).set k u).Perm ms := by
  obtain ⟨h1, rfl⟩ := List.getElem?_eq_some_iff.1 hu
  obtain ⟨h2, rfl⟩ := List.getElem?_eq_some_iff.1 hv
  exact List.set_set_perm h1 h2
theorem Turned.swap {w wr : World} {ys ms : List Int} {g cap j k : Nat} {u v : Int} (hg : w.heap.size ≤ g) (hp : ms.Perm ys) (hown : wr.ownsRow w.heap.size 2 1 (.slice (some ⟨g, 0, none⟩) ys.length cap) ys.length (iv ms)) (hb : Below w.heap.size w wr)
    (hu : ms[j]? = some u) (hv : ms[k]? = some v) : Turned w ys g cap ((wr.setCell ⟨g, j, none⟩ (.int .i64 v)).setCell ⟨g, k, none⟩ (.int .i64 u)).drew :=
  ⟨⟨(ms.set j v).set k u, (turn_perm hu hv).trans hp, (own_setI (own_setI hown j v) k u).drew⟩, ((hb.setCell (p := ⟨g, j, none⟩) hg _).setCell (p := ⟨g, k, none⟩) hg _).drew⟩
theorem walkFoldTurns (k : Int) (A : Option Addr) (c : Nat) (zs : List Int) (D : Option Addr) (d : Nat) (ss : List Int) (w : World) (hl : zs.length ≤ c) (hc : c ≤ 9223372036854775807) (hr : Row w A (zs.map (Value.int .i64)))
    (hd : ss.length ≤ 9223372036854775807) (hs : Row w D (ss.map (Value.int .i64))) :
    Calls Try.prog 8 #[.int .i64 k, .slice A zs.length c, .slice D ss.length d] w (Yes w) := by
  obtain ⟨ys, hys⟩ : ∃ ys, ys = zs.take 2000 := ⟨_, rfl⟩
  have y1 : ys.length ≤ 2000 := by rw [hys, List.length_take]; omega
  obtain ⟨a, ha⟩ : ∃ a, a = all k ys := ⟨_, rfl⟩
  have hyr : Row w A (ys.map (Value.int .i64)) := by rw [hys, List.map_take]; exact hr.first 2000
  have HYR := Lib.hid hyr
  have HSR := Lib.hid hs
  have HS := Lib.hid (show Calls Try.prog 9 #[.slice A zs.length c] w fun e w' => e = .returned (.slice A ys.length c) ∧ w = w' from hys ▸ lwShort A c zs w hl hc hr)
  have HA := Lib.hid (fun w' (hb : Below w.heap.size w w') => gives_ac (ha ▸ foldAll k A c ys w' (hyr.below hb) (by omega)))
  have HB := Lib.hid (show ∀ w' B e (ms : List Int), ms.Perm ys → Row w' B (iv ms) → Calls Try.prog 10 #[.int .i64 k, .slice B ys.length e] w' (Gives (acV a) w') from
    fun w' B e ms hp h => by have := gives_ac (foldAll k B e ms w' h (by rw [hp.length_eq]; omega)); rwa [hp.length_eq, all_perm hp (by rw [hp.length_eq]; omega), ← ha] at this)
  have hE := run_same a
  have HR := Lib.hid (fun w => gives_of (foldRight 1 w))
  have h1 : isK 1 = true := rfl
  obtain ⟨i0, hi, hz0, hz1, hz2⟩ := info_i64p
  clear hys ha hyr hr hl hc hs
  go_enter Try.func8, Try.ntmps8
  go_wp2_with fail
  refine HS.out.mono ?_
  rintro e w1 ⟨rfl, rfl⟩
  go_wp2_with (at_builtin
               refine wpApp rfl (.tmp 13) (.tmp 14) _ rfl w.heap.size 2 i0 _ 1 8 Try.underlying22 hi hz0 hz1 hz2 rfl (by omega) _ 0 [] rfl (own_new (Nat.le_refl _)) A ys.length c (ys.map (Value.int .i64)) rfl (HYR.out.below ((Below.refl _ _).alloc (Nat.le_refl _) _)) (by simp) ones (by simp only [maxLen]; omega) (by omega) (by simp) ?_
               intro v1 w1 hown1 hb1
               have B1 := Lib.hid (((Below.refl _ _).alloc (Nat.le_refl _) _).trans hb1 : Below w.heap.size w w1)
               clear hb1)
  rw [Nat.zero_add, List.nil_append] at hown1
  rcases hown1.2 with ⟨rfl, h0⟩ | ⟨g, cap, cur, rfl, hg, hh, hn, hm, hcur, hx⟩
  · have hy0 : ys.length = 0 := by simpa using h0
    have hyn : ys = [] := List.eq_nil_of_length_eq_zero hy0
    have HP := Lib.hid (show ([] : List Int).Perm ys from hyn ▸ List.Perm.refl _)
    have HM := Lib.hid (show Row w1 none (iv []) from Row.nil)
    have HBZ := Lib.hid (show ∀ w' B e (ms : List Int), ms.Perm ys → Row w' B (iv ms) → Calls Try.prog 10 #[.int .i64 k, .slice B 0 e] w' (Gives (acV a) w') from hy0 ▸ HB.out)
    clear hown1 h0 hy0 hyn hz0 hz1 hz2 hi HB
    have HB := HBZ
    have BB := B1
    go_loop [18] (fun i => i = .int .i64 (0 : Nat)) (fun _ => 0)
    case atStart => rfl
    case round =>
      obtain rfl := hrel
      by_cases hlt : 0 < ss.length
      · obtain ⟨x, b, off, rfl, hx, hc⟩ := (HSR.out.below B1.out).ints hlt
        rw [Nat.add_zero] at hc
        clear hx
        go_wp2_with fail
        refine (HR.out _).mono ?_
        rw [h1]
        rintro e w2 ⟨rfl, hb2⟩
        have B2 := Lib.hid (below_next BB.out hb2)
        have N2 := Lib.hid hb2
        clear hb2
        go_wp2_with fail
        refine (HA.out _ B2.out).mono ?_
        rintro e w3 ⟨rfl, hb3⟩
        have B3 := Lib.hid (below_next B2.out hb3)
        have N3 := Lib.hid (below_next N2.out hb3)
        clear hb3
        go_wp2_with fail
        refine (HB.out _ _ _ _ HP.out (HM.out.below N3.out)).mono ?_
        rintro e w4 ⟨rfl, hb4⟩
        have B4 := Lib.hid (below_next B3.out hb4)
        clear hb4
        go_wp2_with fail
        go_ret
        exact ⟨by simp, B4.out⟩
      · go_wp2_with fail
        refine (HR.out _).mono ?_
        rw [h1]
        rintro e w2 ⟨rfl, hb2⟩
        have B2 := Lib.hid (below_next BB.out hb2)
        have N2 := Lib.hid hb2
        clear hb2
        go_wp2_with fail
        refine (HA.out _ B2.out).mono ?_
        rintro e w3 ⟨rfl, hb3⟩
        have B3 := Lib.hid (below_next B2.out hb3)
        have N3 := Lib.hid (below_next N2.out hb3)
        clear hb3
        go_wp2_with fail
        refine (HB.out _ _ _ _ HP.out (HM.out.below N3.out)).mono ?_
        rintro e w4 ⟨rfl, hb4⟩
        have B4 := Lib.hid (below_next B3.out hb4)
        clear hb4
        go_wp2_with fail
        go_ret
        exact ⟨by simp, B4.out⟩
  · have T1 := Lib.hid (show Turned w ys g cap w1 from ⟨⟨ys, List.Perm.refl _, hown1⟩, B1.out⟩)
    have HG := Lib.hid hg
    clear hown1 hh hn hm hcur hx hz0 hz1 hz2 hi hg B1
    go_loopw [18] (fun i wr => (∃ j : Nat, i = .int .i64 j ∧ j ≤ ss.length) ∧ Turned w ys g cap wr) (fun i _ => ss.length - (intOf i).toNat)
    case atStart => exact ⟨⟨0, rfl, Nat.zero_le _⟩, T1.out⟩
    case round =>
      obtain ⟨⟨j, rfl, hj⟩, ⟨ms, hp, hown⟩, hbw⟩ := hrel
      have hml : ms.length = ys.length := hp.length_eq
      have HP := Lib.hid hp
      have HO := Lib.hid hown
      have BB := Lib.hid hbw
      have HM := Lib.hid (show Row wr (some ⟨g, 0, none⟩) (iv ms) from by
        obtain ⟨A', c', he, _, _, _, hr', _⟩ := own_form hown (by omega)
        cases he
        exact hr')
      clear hp hown hbw T1
      by_cases hlt : j < ss.length
      · obtain ⟨x, b, off, rfl, hx, hc⟩ := (HSR.out.below BB.out).ints hlt
        clear hx
        by_cases hn : j + 1 < ys.length
        · obtain ⟨q, hq⟩ : ∃ q, x.tmod ((ys.length : Int) - j) = q := ⟨_, rfl⟩
          have q1 : -((ys.length : Int) - j) < q := hq ▸ tmod_lo (by omega)
          have q2 : q < (ys.length : Int) - j := hq ▸ tmod_hi (by omega)
          obtain ⟨r, hr⟩ : ∃ r, (q + ys.length - j).tmod ((ys.length : Int) - j) = r := ⟨_, rfl⟩
          have r1 : 0 ≤ r := hr ▸ Int.tmod_nonneg _ (by omega)
          have r2 : r < (ys.length : Int) - j := hr ▸ tmod_hi (by omega)
          have hr3 : (q + ys.length - j) % ((ys.length : Int) - j) = r := by rw [← Int.tmod_eq_emod_of_nonneg (by omega)]; exact hr
          obtain ⟨kk, hk⟩ : ∃ kk : Nat, (j : Int) + r = kk := ⟨((j : Int) + r).toNat, by omega⟩
          have k1 : j ≤ kk := by omega
          have k2 : kk < ys.length := by omega
          obtain ⟨u, hu⟩ : ∃ u, ms[j]? = some u := ⟨_, List.getElem?_eq_getElem (by omega)⟩
          obtain ⟨v, hv⟩ : ∃ v, ms[kk]? = some v := ⟨_, List.getElem?_eq_getElem (by omega)⟩
          obtain ⟨c1, c2⟩ := own_cellI HO.out hu
          obtain ⟨e1, e2⟩ := own_cellI HO.out hv
          have HU := Lib.hid hu
          have HV := Lib.hid hv
          have HML := Lib.hid hml
          clear hu hv hml
          by_cases hjk : j = kk
          · subst hjk
            go_wp2_with fail
            go_region
            have T2 := Lib.hid (Turned.swap HG.out HP.out HO.out BB.out HU.out HU.out)
            clear c1 c2 e1 e2 hq hr hr3 hk
            go_wp2
            go_roundw
            case rel => exact ⟨⟨j + 1, by go_num, by omega⟩, T2.out⟩
            case measure => simp [intOf]; omega
          · have hij : j < kk := by omega
            clear hjk
            go_wp2_with fail
            go_region
            have T2 := Lib.hid (Turned.swap HG.out HP.out HO.out BB.out HU.out HV.out)
            clear c1 c2 e1 e2 hq hr hr3 hk
            go_wp2
            go_roundw
            case rel => exact ⟨⟨j + 1, by go_num, by omega⟩, T2.out⟩
            case measure => simp [intOf]; omega
        · have hge : ys.length ≤ j + 1 := by omega
          go_wp2_with fail
          refine (HR.out _).mono ?_
          rw [h1]
          rintro e w2 ⟨rfl, hb2⟩
          have B2 := Lib.hid (below_next BB.out hb2)
          have N2 := Lib.hid hb2
          clear hb2
          go_wp2_with fail
          refine (HA.out _ B2.out).mono ?_
          rintro e w3 ⟨rfl, hb3⟩
          have B3 := Lib.hid (below_next B2.out hb3)
          have N3 := Lib.hid (below_next N2.out hb3)
          clear hb3
          go_wp2_with fail
          refine (HB.out _ _ _ _ HP.out (HM.out.below N3.out)).mono ?_
          rintro e w4 ⟨rfl, hb4⟩
          have B4 := Lib.hid (below_next B3.out hb4)
          clear hb4
          go_wp2_with fail
          go_ret
          exact ⟨by simp, B4.out⟩
      · go_wp2_with fail
        refine (HR.out _).mono ?_
        rw [h1]
        rintro e w2 ⟨rfl, hb2⟩
        have B2 := Lib.hid (below_next BB.out hb2)
        have N2 := Lib.hid hb2
        clear hb2
        go_wp2_with fail
        refine (HA.out _ B2.out).mono ?_
        rintro e w3 ⟨rfl, hb3⟩
        have B3 := Lib.hid (below_next B2.out hb3)
        have N3 := Lib.hid (below_next N2.out hb3)
        clear hb3
        go_wp2_with fail
        refine (HB.out _ _ _ _ HP.out (HM.out.below N3.out)).mono ?_
        rintro e w4 ⟨rfl, hb4⟩
        have B4 := Lib.hid (below_next B3.out hb4)
        clear hb4
        go_wp2_with fail
        go_ret
        exact ⟨by simp, B4.out⟩
theorem lawFoldTurns : Lift.Owes 8 [3, 22, 37] := by
  intro H enc W base args ds ps hval hA _ _
  obtain ⟨v0, v1, v2, d0, d1, d2, p0, p1, p2, rfl, rfl, rfl, h0, h1, h2⟩ := trodAll_three hA
  obtain ⟨k, rfl, rfl, rfl, w0⟩ := open_int Try.underlying3 (hval 0 _ v0 rfl rfl) h0
  obtain ⟨A, c, zs, rfl, hl, hm, hr, hz, _⟩ := openInts Try.underlying22 Try.underlying2 cells_i64f (hval 1 _ v1 rfl rfl) h1
  obtain ⟨D, d, ss, rfl, hl', hm', hr', hz', _⟩ := openInts Try.underlying37 Try.underlying3 (by kernel_rfl) (hval 2 _ v2 rfl rfl) h2
  exact walkFoldTurns k A c zs D d ss W hl (by simp only [maxLen] at hm; omega) hr (by simp only [maxLen] at hm'; omega) hr'
end Go.Proofs.Ytgmmgmhogacocaa
