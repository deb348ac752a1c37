/- container/heap's down. -/
import Derived.Test.YtklgehfbfokdlaaTimUp
namespace Go.Proofs.Ytklgehfbfokdlaa
open Go.RowKit
set_option linter.unusedVariables false
namespace Tim
/-- What down leaves. -/
def Downed (M : Nat → Prop) (h : Nat) (d : List Tm) (n lo : Nat) (w : World) (e : Ending) (w' : World) : Prop :=
  (∃ b, e = .returned (.bool b)) ∧ ∃ d', HeapAt M w' h d' ∧ Mine M w w' ∧ HpN d' n lo ∧ d'.Perm d ∧ ∀ k, n ≤ k → d'[k]? = d[k]?
theorem swp_far {c d : List Tm} {n i j : Nat} {x y : Tm} (hx : c[i]? = some x) (hy : c[j]? = some y) (hi : i < n) (hj : j < n) (h : ∀ k, n ≤ k → c[k]? = d[k]?) : ∀ k, n ≤ k → (swp c i j x y)[k]? = d[k]? := by
  intro k hk
  rw [swp_get hx hy, if_neg (by omega), if_neg (by omega)]
  exact h k hk
/-- Where a round of down stands. -/
structure DownTo (M : Nat → Prop) (h : Nat) (d : List Tm) (n lo : Nat) (w : World) (i : Nat) (c : List Tm) (wr : World) : Prop where
  at_ : DownAt c n lo i
  perm : c.Perm d
  far : ∀ k, n ≤ k → c[k]? = d[k]?
  heap : HeapAt M wr h c
  mine : Mine M w wr
theorem DownTo.end_ {M : Nat → Prop} {h : Nat} {d : List Tm} {n lo i : Nat} {w wr w' : World} {c : List Tm} {e : Ending} (H : DownTo M h d n lo w i c wr) (hp : HpN c n lo) (hb : Below wr.heap.size wr w') (he : ∃ b, e = .returned (.bool b)) : Downed M h d n lo w e w' :=
  ⟨he, c, H.heap.below hb, H.mine.trans (Mine.of_below hb (Nat.le_refl _)), hp, H.perm, H.far⟩
theorem DownTo.next {M : Nat → Prop} {h : Nat} {d : List Tm} {n lo i j g cap m : Nat} {w wr w1 w2 : World} {c : List Tm} {x y : Tm} (H : DownTo M h d n lo w i c wr) (hx : c[i]? = some x) (hy : c[j]? = some y) (h0 : 0 < j) (hj : (j - 1) / 2 = i) (hjn : j < n) (hl : Least c n i y) (ha : ahead y x = true)
    (hb : Below wr.heap.size wr w1) (hm : m = c.length) (hlie : Lies h #[.slice (some ⟨g, 0, none⟩) m cap] 50 wr) (hg : M g) (hgh : g ≠ h)
    (ho : w2.ownsRow 0 27 2 (.slice (some ⟨g, 0, none⟩) m cap) m (tc (swp c i j x y))) (hm2 : Mine (· = g) w1 w2) : DownTo M h d n lo w j (swp c i j x y) w2 :=
  ⟨down_step H.at_ hx hy h0 hj hjn hl ha, (swp_perm hx hy).trans H.perm, swp_far hx hy (by omega) hjn H.far,
   (H.heap.below hb).turned (hlie.below hb) hg hgh ho (by rw [swp_len]; exact hm) hm2, (H.mine.trans (Mine.of_below hb (Nat.le_refl _))).trans (hm2.of_eq hg)⟩
set_option maxHeartbeats 4000000 in
theorem hpDown (M : Nat → Prop) (h : Nat) (d : List Tm) (i n lo : Nat) (w : World) (H : HeapAt M w h d) (hn : n ≤ d.length) (hd : DownAt d n lo i) (hi : i ≤ 100000) (hl : d.length ≤ 100000) :
    Calls Try.prog 30 #[hV h, .int .i64 i, .int .i64 n] w (Downed M h d n lo w) := by
  have HD : Hid (DownTo M h d n lo w i d w) := Lib.hid ⟨hd, .refl _, fun _ _ => rfl, H, Mine.refl _ _⟩
  have HN := Lib.hid hn
  clear H hd
  have hnb : n ≤ 100000 := by omega
  clear hn
  go_enter Try.func30, Try.ntmps30
  go_wp2_with fail
  go_loopw [7] (fun s7 wr => ∃ (i : Nat) (c : List Tm), s7 = .int .i64 i ∧ i ≤ 100000 ∧ DownTo M h d n lo w i c wr)
    (fun s7 _ => n - (intOf s7).toNat)
  case atStart => exact ⟨i, d, rfl, hi, HD.out⟩
  case round =>
    clear HD hi
    obtain ⟨i, c, rfl, hi, hat⟩ := hrel
    have HA := Lib.hid hat
    clear hat
    obtain ⟨a, ea⟩ : ∃ a, a = 2 * i + 1 := ⟨_, rfl⟩
    have q1 : 2 * (i : Int) + 1 = (a : Int) := by omega
    have hlc : c.length = d.length := HA.out.perm.length_eq
    by_cases hA : n ≤ a
    · have hg1 : (n : Int) ≤ (a : Int) := by omega
      have hE := Lib.hid (down_none HA.out.at_ (by omega))
      clear hlc ea
      go_wp2_with fail
      go_ret
      exact HA.out.end_ hE.out (Below.refl _ _) ⟨_, rfl⟩
    · obtain ⟨g, cap, hlie, hown, hMg, hgh, hnc, hcm⟩ := HA.out.heap.open_ (by have := HN.out; omega)
      obtain ⟨m, em⟩ : ∃ m, m = c.length := ⟨_, rfl⟩
      obtain ⟨b, eb⟩ : ∃ b, b = 2 * i + 2 := ⟨_, rfl⟩
      have q2 : (a : Int) + 1 = (b : Int) := by omega
      have hr : Row wr (some ⟨g, 0, none⟩) (tc c) := by
        obtain ⟨A, c2, e, _, _, _, hr, _⟩ := own_form hown (by omega)
        cases e; exact hr
      have hnm : n ≤ c.length := by rw [hlc]; exact HN.out
      have hm : m ≤ 100000 := by omega
      obtain ⟨x, hx⟩ : ∃ x, c[i]? = some x := ⟨_, List.getElem?_eq_getElem (by omega)⟩
      obtain ⟨y, hy⟩ : ∃ y, c[a]? = some y := ⟨_, List.getElem?_eq_getElem (by omega)⟩
      have HR := Lib.hid hr
      rw [← em] at hlie hown hnc
      have HLie := Lib.hid hlie
      have eL := mLess h _ wr (hlie.cell (j := 0) rfl)
      have HO := Lib.hid hown
      have HX := Lib.hid hx
      have HY := Lib.hid hy
      have EM := Lib.hid em
      have HGH := Lib.hid hgh
      have HNM := Lib.hid hnm
      have EA := Lib.hid ea
      have EB := Lib.hid eb
      have HLL := Lib.hid hlc
      clear hr hx hy hlc hnm hlie hown hgh
      have hL1 : ∀ (k : Nat) (u : Tm) (W : World), c[k]? = some u → Below wr.heap.size wr W → Calls Try.prog 49 #[.slice (some ⟨g, 0, none⟩) m cap, .int .i64 k, .int .i64 i] W (TellsB (ahead u x) W) :=
        fun k u W hk hb => by rw [EM.out]; exact qLess c _ cap k i u x W (HR.out.below hb) hk HX.out (by have := EM.out; unfold maxLen; omega)
      have HL1 := Lib.hid hL1
      clear hL1
      by_cases hB : n ≤ b
      · have hg2 : ¬ (b : Int) < (n : Int) := by omega
        have HLS : Hid (Least c n i y) := Lib.hid (least_one (by have := EB.out; omega) (by have := HY.out; rw [EA.out] at this; exact this))
        clear em ea eb
        cases hq : ahead y x with
        | false =>
          have HQ := Lib.hid hq
          clear hq
          go_wp2_with
            (go_at_call 49
             refine (HL1.out a y _ HY.out (Below.refl _ _)).mono ?_
             rw [HQ.out]
             rintro e w1 ⟨rfl, hb1⟩
             have eS := mSwap h _ w1 ((HLie.out.below hb1).cell (j := 0) rfl)
             have HO1 := Lib.hid (ownsRow_block HO.out fun k _ hlt => hb1.block k hlt)
             have HB1 := Lib.hid hb1
             clear hb1)
          go_ret
          exact HA.out.end_ (down_stop HA.out.at_ HX.out HLS.out HQ.out) HB1.out ⟨_, rfl⟩
        | true =>
          have HQ := Lib.hid hq
          clear hq
          go_wp2_with first
            | (go_at_call 49
               refine (HL1.out a y _ HY.out (Below.refl _ _)).mono ?_
               rw [HQ.out]
               rintro e w1 ⟨rfl, hb1⟩
               have eS := mSwap h _ w1 ((HLie.out.below hb1).cell (j := 0) rfl)
               have HO1 := Lib.hid (ownsRow_block HO.out fun k _ hlt => hb1.block k hlt)
               have HB1 := Lib.hid hb1
               clear hb1)
            | (go_at_call 50
               refine (qSwap c g m cap i a x y _ EM.out HO1.out HX.out HY.out (by unfold maxLen; omega)).mono ?_
               rintro e w2 ⟨rfl, ho2, hm2⟩
               have HO2 := Lib.hid ho2
               have HM2 := Lib.hid hm2
               clear ho2 hm2 eS)
          go_roundw
          case rel =>
            have e1 := EA.out
            exact ⟨a, swp c i a x y, rfl, by omega, HA.out.next HX.out HY.out (by omega) (by omega) (by omega) HLS.out HQ.out HB1.out EM.out HLie.out hMg HGH.out HO2.out HM2.out⟩
          case measure => have e1 := EA.out; simp [intOf]; omega
      · obtain ⟨z, hz⟩ : ∃ z, c[b]? = some z := ⟨_, List.getElem?_eq_getElem (by have := HNM.out; omega)⟩
        have HZ := Lib.hid hz
        have HL2 := Lib.hid (qLess c (some ⟨g, 0, none⟩) cap b a z y wr HR.out hz HY.out (by have := EM.out; unfold maxLen; omega))
        rw [← EM.out] at HL2
        clear hz
        cases h2 : ahead z y with
        | false =>
          have HLS : Hid (Least c n i y) := Lib.hid (least_left (by have := HY.out; rw [EA.out] at this; exact this) (by have := HZ.out; rw [EB.out] at this; exact this) h2)
          rw [h2] at HL2
          clear h2 em ea eb
          cases hq : ahead y x with
          | false =>
            have HQ := Lib.hid hq
            clear hq
            go_wp2_with first
              | (go_at_call 49
                 with_reducible refine HL2.out.mono ?_
                 rintro e w0 ⟨rfl, hb0⟩
                 have eL0 := mLess h _ w0 ((HLie.out.below hb0).cell (j := 0) rfl)
                 have HB0 := Lib.hid hb0
                 clear hb0 eL)
              | (go_at_call 49
                 refine (HL1.out a y _ HY.out HB0.out).mono ?_
                 rw [HQ.out]
                 rintro e w1 ⟨rfl, hb1⟩
                 have eS := mSwap h _ w1 ((HLie.out.below (below_next HB0.out hb1)).cell (j := 0) rfl)
                 have HO1 := Lib.hid (ownsRow_block HO.out fun k _ hlt => (below_next HB0.out hb1).block k hlt)
                 have HB1 := Lib.hid (below_next HB0.out hb1)
                 clear hb1 eL0)
            go_ret
            exact HA.out.end_ (down_stop HA.out.at_ HX.out HLS.out HQ.out) HB1.out ⟨_, rfl⟩
          | true =>
            have HQ := Lib.hid hq
            clear hq
            go_wp2_with first
              | (go_at_call 49
                 with_reducible refine HL2.out.mono ?_
                 rintro e w0 ⟨rfl, hb0⟩
                 have eL0 := mLess h _ w0 ((HLie.out.below hb0).cell (j := 0) rfl)
                 have HB0 := Lib.hid hb0
                 clear hb0 eL)
              | (go_at_call 49
                 refine (HL1.out a y _ HY.out HB0.out).mono ?_
                 rw [HQ.out]
                 rintro e w1 ⟨rfl, hb1⟩
                 have eS := mSwap h _ w1 ((HLie.out.below (below_next HB0.out hb1)).cell (j := 0) rfl)
                 have HO1 := Lib.hid (ownsRow_block HO.out fun k _ hlt => (below_next HB0.out hb1).block k hlt)
                 have HB1 := Lib.hid (below_next HB0.out hb1)
                 clear hb1 eL0)
              | (go_at_call 50
                 refine (qSwap c g m cap i a x y _ EM.out HO1.out HX.out HY.out (by unfold maxLen; omega)).mono ?_
                 rintro e w2 ⟨rfl, ho2, hm2⟩
                 have HO2 := Lib.hid ho2
                 have HM2 := Lib.hid hm2
                 clear ho2 hm2 eS)
            go_roundw
            case rel =>
              have e1 := EA.out
              exact ⟨a, swp c i a x y, rfl, by omega, HA.out.next HX.out HY.out (by omega) (by omega) (by omega) HLS.out HQ.out HB1.out EM.out HLie.out hMg HGH.out HO2.out HM2.out⟩
            case measure => have e1 := EA.out; simp [intOf]; omega
        | true =>
          have HLS : Hid (Least c n i z) := Lib.hid (least_right (by have := HY.out; rw [EA.out] at this; exact this) (by have := HZ.out; rw [EB.out] at this; exact this) h2)
          rw [h2] at HL2
          clear h2 em ea eb
          cases hq : ahead z x with
          | false =>
            have HQ := Lib.hid hq
            clear hq
            go_wp2_with first
              | (go_at_call 49
                 with_reducible refine HL2.out.mono ?_
                 rintro e w0 ⟨rfl, hb0⟩
                 have eL0 := mLess h _ w0 ((HLie.out.below hb0).cell (j := 0) rfl)
                 have HB0 := Lib.hid hb0
                 clear hb0 eL)
              | (go_at_call 49
                 refine (HL1.out b z _ HZ.out HB0.out).mono ?_
                 rw [HQ.out]
                 rintro e w1 ⟨rfl, hb1⟩
                 have eS := mSwap h _ w1 ((HLie.out.below (below_next HB0.out hb1)).cell (j := 0) rfl)
                 have HO1 := Lib.hid (ownsRow_block HO.out fun k _ hlt => (below_next HB0.out hb1).block k hlt)
                 have HB1 := Lib.hid (below_next HB0.out hb1)
                 clear hb1 eL0)
            go_ret
            exact HA.out.end_ (down_stop HA.out.at_ HX.out HLS.out HQ.out) HB1.out ⟨_, rfl⟩
          | true =>
            have HQ := Lib.hid hq
            clear hq
            go_wp2_with first
              | (go_at_call 49
                 with_reducible refine HL2.out.mono ?_
                 rintro e w0 ⟨rfl, hb0⟩
                 have eL0 := mLess h _ w0 ((HLie.out.below hb0).cell (j := 0) rfl)
                 have HB0 := Lib.hid hb0
                 clear hb0 eL)
              | (go_at_call 49
                 refine (HL1.out b z _ HZ.out HB0.out).mono ?_
                 rw [HQ.out]
                 rintro e w1 ⟨rfl, hb1⟩
                 have eS := mSwap h _ w1 ((HLie.out.below (below_next HB0.out hb1)).cell (j := 0) rfl)
                 have HO1 := Lib.hid (ownsRow_block HO.out fun k _ hlt => (below_next HB0.out hb1).block k hlt)
                 have HB1 := Lib.hid (below_next HB0.out hb1)
                 clear hb1 eL0)
              | (go_at_call 50
                 refine (qSwap c g m cap i b x z _ EM.out HO1.out HX.out HZ.out (by unfold maxLen; omega)).mono ?_
                 rintro e w2 ⟨rfl, ho2, hm2⟩
                 have HO2 := Lib.hid ho2
                 have HM2 := Lib.hid hm2
                 clear ho2 hm2 eS)
            go_roundw
            case rel =>
              have e1 := EB.out
              exact ⟨b, swp c i b x z, rfl, by omega, HA.out.next HX.out HZ.out (by omega) (by omega) (by omega) HLS.out HQ.out HB1.out EM.out HLie.out hMg HGH.out HO2.out HM2.out⟩
            case measure => have e1 := EB.out; simp [intOf]; omega
end Tim
end Go.Proofs.Ytklgehfbfokdlaa
