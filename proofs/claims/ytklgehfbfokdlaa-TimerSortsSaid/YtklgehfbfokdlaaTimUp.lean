/- container/heap's up. -/
import Derived.Test.YtklgehfbfokdlaaTimMeth
namespace Go.Proofs.Ytklgehfbfokdlaa
open Go.RowKit
set_option linter.unusedVariables false
namespace Tim
theorem HeapAt.turned {M : Nat → Prop} {w w' : World} {h g cap : Nat} {d d' : List Tm} {n : Nat} (H : HeapAt M w h d) (hl : Lies h #[.slice (some ⟨g, 0, none⟩) n cap] 50 w) (hg : M g) (hgh : g ≠ h)
    (ho : w'.ownsRow 0 27 2 (.slice (some ⟨g, 0, none⟩) n cap) n (tc d')) (hn : n = d'.length) (hm : Mine (· = g) w w') : HeapAt M w' h d' := by
  subst hn
  exact ⟨H.own, fun k hk => Nat.lt_of_lt_of_le (H.lt k hk) hm.size, _, hm.lies hl (fun e => hgh e.symm), ho, fun k hk => by cases hk; exact ⟨hg, hgh⟩⟩
theorem Mine.of_eq {M : Nat → Prop} {g : Nat} {w w' : World} (h : Mine (· = g) w w') (hg : M g) : Mine M w w' := h.sub fun k hk => by subst hk; exact hg
set_option maxHeartbeats 2000000 in
theorem hpUp (M : Nat → Prop) (h : Nat) (d : List Tm) (j : Nat) (w : World) (H : HeapAt M w h d) (hj : j < d.length) (hu : UpAt d j) (hl : d.length ≤ 100000) :
    Calls Try.prog 29 #[hV h, .int .i64 j] w fun e w' => e = .returned (.tuple #[]) ∧ ∃ d', HeapAt M w' h d' ∧ Mine M w w' ∧ Hp d' ∧ d'.Perm d := by
  have HH := Lib.hid H
  have HU := Lib.hid hu
  clear H hu
  go_enter Try.func29, Try.ntmps29
  go_wp2_with fail
  go_loopw [1, 4] (fun s1 s4 wr => ∃ (j : Nat) (c : List Tm), s1 = .int .i64 j ∧ j < c.length ∧ UpAt c j ∧ c.Perm d ∧ HeapAt M wr h c ∧ Mine M w wr)
    (fun s1 _ _ => (intOf s1).toNat)
  case atStart => exact ⟨j, d, rfl, hj, HU.out, .refl _, HH.out, Mine.refl _ _⟩
  case round =>
    clear HH HU hj
    obtain ⟨j, c, rfl, hj, hu, hp, H, hm⟩ := hrel
    have hlc : c.length ≤ 100000 := by rw [hp.length_eq]; exact hl
    obtain ⟨g, cap, hlie, hown, hMg, hgh, hnc, hcm⟩ := H.open_ (by omega)
    obtain ⟨n, en⟩ : ∃ n, n = c.length := ⟨_, rfl⟩
    have HP := Lib.hid hp
    have HH := Lib.hid H
    have HM := Lib.hid hm
    clear hp H hm
    by_cases h0 : j = 0
    · subst h0
      have HU := Lib.hid (up_zero hu)
      clear hu hlie hown hgh hnc hcm en
      have hq : ((0 : Nat) : Int) - 1 = -1 := rfl
      have hq2 : (-1 : Int).tdiv 2 = 0 := rfl
      go_wp2_with fail
      go_end0
      exact ⟨rfl, c, HH.out, HM.out, HU.out, HP.out⟩
    · obtain ⟨p, hpp⟩ : ∃ p, p = (j - 1) / 2 := ⟨_, rfl⟩
      have hpj : p < j := by omega
      have hq : ((j : Int) - 1).tdiv 2 = (p : Int) := by
        rw [hpp, show ((j : Int) - 1) = ((j - 1 : Nat) : Int) by omega]; rfl
      obtain ⟨x, hx⟩ : ∃ x, c[p]? = some x := ⟨_, List.getElem?_eq_getElem (by omega)⟩
      obtain ⟨y, hy⟩ : ∃ y, c[j]? = some y := ⟨_, List.getElem?_eq_getElem hj⟩
      have hne : ((p : Int) == (j : Int)) = false := ne_b (by omega)
      have hr : Row wr (some ⟨g, 0, none⟩) (tc c) := by
        obtain ⟨A, c2, e, _, _, _, hr, _⟩ := own_form hown (by omega)
        cases e; exact hr
      have HL := Lib.hid (qLess c (some ⟨g, 0, none⟩) cap j p y x wr hr hy hx (by unfold maxLen; omega))
      rw [← en] at HL hlie hown hj hlc hnc
      have eL := mLess h _ wr (hlie.cell (j := 0) rfl)
      have HLie := Lib.hid hlie
      have HO := Lib.hid hown
      have HX := Lib.hid hx
      have HY := Lib.hid hy
      have HU := Lib.hid hu
      have EN := Lib.hid en
      have HPP := Lib.hid hpp
      have HG := Lib.hid hgh
      clear hx hy hu en hpp hlie hown hr hgh
      cases ha : ahead y x with
      | false =>
        have HA := Lib.hid ha
        rw [ha] at HL
        clear ha
        go_wp2_with (go_at_call 49; refine HL.out.mono ?_; rintro e w1 ⟨rfl, hb1⟩)
        go_end0
        exact ⟨rfl, c, HH.out.below hb1, HM.out.trans (Mine.of_below hb1 (Nat.le_refl _)), up_stop HU.out HY.out (by rw [← HPP.out]; exact HX.out) HA.out, HP.out⟩
      | true =>
        have HA := Lib.hid ha
        rw [ha] at HL
        clear ha
        go_wp2_with first
          | (go_at_call 49
             refine HL.out.mono ?_
             rintro e w1 ⟨rfl, hb1⟩
             have eS := mSwap h _ w1 ((HLie.out.below hb1).cell (j := 0) rfl)
             have HO1 := Lib.hid (ownsRow_block HO.out fun k _ hlt => hb1.block k hlt)
             have HB1 := Lib.hid hb1
             clear hb1)
          | (go_at_call 50
             refine (qSwap c g n cap p j x y _ EN.out HO1.out HX.out HY.out (by unfold maxLen; omega)).mono ?_
             rintro e w2 ⟨rfl, ho2, hm2⟩
             have HO2 := Lib.hid ho2
             have HM2 := Lib.hid hm2
             clear ho2 hm2 eS)
        go_roundw
        case rel =>
          have hll : n = (swp c p j x y).length := by rw [swp_len]; exact EN.out
          refine ⟨p, swp c p j x y, rfl, by rw [← hll]; omega, ?_, (swp_perm HX.out HY.out).trans HP.out, ?_, ?_⟩
          · have hu := up_step (x := x) (y := y) HU.out (by omega) (by rw [← HPP.out]; exact HX.out) HY.out HA.out
            rw [← HPP.out] at hu
            exact hu
          · exact (HH.out.below HB1.out).turned (HLie.out.below HB1.out) hMg HG.out HO2.out hll HM2.out
          · exact (HM.out.trans (Mine.of_below HB1.out (Nat.le_refl _))).trans (HM2.out.of_eq hMg)
        case measure => simp [intOf]; omega
end Tim
end Go.Proofs.Ytklgehfbfokdlaa
