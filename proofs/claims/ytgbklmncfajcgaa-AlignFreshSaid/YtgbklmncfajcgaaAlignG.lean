/- The walks of AlignOne, AlignHolds. -/
import Derived.Test.YtgbklmncfajcgaaAlignF
namespace Go.Proofs.Ytgbklmncfajcgaa
open Go.ChangeShapes Go.WideShapes Go.ChangeAt Go.RowKit
set_option linter.unusedVariables false
set_option maxRecDepth 8000
namespace Aln
open Gen (TellsB TellsI row_one flat_len flat_get Mine)
open Itm
/-- An aligner in a variable. -/
structure VaAt (w0 : World) (b3 : Nat) (a : Al) (n : Nat) (G : Option Addr) (cG : Nat) (H : Option Addr) (cH : Nat) (w : World) : Prop where
  l3 : Lies b3 (alC a.n G n cG H n cH) 25 w
  am : AlM (· = b3) w a n n G cG H cH
  lo : w0.heap.size ≤ b3
  lt : b3 < w.heap.size
  below : Below w0.heap.size w0 w
theorem VaAt.next {w0 : World} {b3 : Nat} {a : Al} {n : Nat} {G : Option Addr} {cG : Nat} {H : Option Addr} {cH : Nat} {w w' : World} (h : VaAt w0 b3 a n G cG H cH w) (hb : Below w.heap.size w w') : VaAt w0 b3 a n G cG H cH w' :=
  ⟨h.l3.below hb, h.am.below hb, h.lo, Nat.lt_of_lt_of_le h.lt hb.size, below_next h.below hb⟩
theorem mine_set3A (w : World) (b : Nat) (v0 v1 v2 : Value) : Mine (· = b) w (set3A w b v0 v1 v2) :=
  ((Mine.set (M := (· = b)) w (a := ⟨b, 0, none⟩) v0 rfl).trans (Mine.set _ (M := (· = b)) (a := ⟨b, 1, none⟩) v1 rfl)).trans (Mine.set _ (M := (· = b)) (a := ⟨b, 2, none⟩) v2 rfl)
theorem VaAt.put {w0 : World} {b3 : Nat} {a a' : Al} {n n' : Nat} {G G' : Option Addr} {cG cG' : Nat} {H H' : Option Addr} {cH cH' : Nat} {w : World} (h : VaAt w0 b3 a n G cG H cH w) (k : AlM (· = b3) w a' n' n' G' cG' H' cH') :
    VaAt w0 b3 a' n' G' cG' H' cH' (set3A w b3 (.int .i64 a'.n) (.slice G' n' cG') (.slice H' n' cH')) :=
  ⟨lies_set3A h.l3 _ _ _, k.mine (mine_set3A w b3 _ _ _), h.lo, by have := (mine_set3A w b3 (.int .i64 a'.n) (.slice G' n' cG') (.slice H' n' cH')).size; have := h.lt; omega, below_set3A h.below h.lo _ _ _⟩
set_option maxRecDepth 100000 in
set_option maxHeartbeats 4000000 in
theorem walkOne (l : List It) (n : Nat) (hn : n = l.length) (A : Option Addr) (c : Nat) (w : World) (hA : Row w A (itc l)) :
    Calls Try.prog 7 #[.slice A n c] w (TellsB true w) := by
  have HR := Lib.hid hA
  have HN := Lib.hid hn
  have HC := Lib.hid (fun w' => ckNew 1 w')
  rw [new_one] at HC
  have HRA : Hid (rightA (anew 1) = true) := Lib.hid ((ok_iff _).2 (ok_anew (by omega) (by omega)))
  clear hA hn
  go_enter Try.func7, Try.ntmps7
  go_wp2_with fail
  refine (HC.out _).mono ?_
  rintro e w1 ⟨n1, G, cG, H, cH, rfl, ha, hb1⟩
  have hn1 : n1 = 1 := ha.len.1
  subst hn1
  go_upto_region 2 with fail
  have V0 : Hid (VaAt w w1.heap.size (anew 1) 1 G cG H cH (w1.alloc (.cells (alC (anew 1).n G 1 cG H 1 cH) 25))) := Lib.hid
    ⟨Lies.new w1 _ _, (ha.mk_ (· = w1.heap.size) (fun k hk => by omega)).below (below_al (Below.refl _ _)), hb1.size, by simp, below_next hb1 (below_al (Below.refl _ _))⟩
  obtain ⟨b3, hb3⟩ : ∃ b, b = w1.heap.size := ⟨_, rfl⟩
  obtain ⟨W, hW⟩ : ∃ W, W = w1.alloc (.cells (alC (anew 1).n G 1 cG H 1 cH) 25) := ⟨_, rfl⟩
  rw [← hW] at V0 ⊢
  rw [← hb3] at V0 ⊢
  clear hW hb3 ha hb1 HC
  go_wp2_with fail
  refine (lawAliveA _).mono ?_
  rintro e w2 ⟨rfl, hb2⟩
  have V2 := Lib.hid (V0.out.next hb2)
  clear hb2 V0
  go_wp2_with fail
  go_loopw [24] (fun s24 wr => ∃ (k : Nat) (G : Option Addr) (cG : Nat) (H : Option Addr) (cH : Nat), s24 = .int .i64 k ∧ k ≤ n ∧ k ≤ 60 ∧ VaAt w b3 (anew 1) 1 G cG H cH wr) (fun s24 _ => n - (intOf s24).toNat)
  case atStart => exact ⟨0, G, cG, H, cH, rfl, Nat.zero_le _, Nat.zero_le _, V2.out⟩
  case round =>
    clear V2
    obtain ⟨k, G, cG, H, cH, rfl, hk, hk60, hat⟩ := hrel
    have AT := Lib.hid hat
    have HK60 := Lib.hid hk60
    clear hat hk60
    by_cases hlt : k < n
    · obtain ⟨x, hx⟩ : ∃ x, l[k]? = some x := ⟨_, List.getElem?_eq_getElem (by rw [← HN.out]; exact hlt)⟩
      obtain ⟨q, off, hA1, e0⟩ := item_row (HR.out.below AT.out.below) hx
      subst hA1
      have hki : (k : Int) < (n : Int) := by omega
      have hw := wrapKA (k := k) (by have := HK60.out; omega)
      have HKM := Lib.hid hlt
      have e00 := e0 0 _ rfl; have e01 := e0 1 _ rfl; have e02 := e0 2 _ rfl; have e03 := e0 3 _ rfl; have e04 := e0 4 _ rfl; have e05 := e0 5 _ rfl; have e06 := e0 6 _ rfl; have e07 := e0 7 _ rfl; have e08 := e0 8 _ rfl; have e09 := e0 9 _ rfl; have e10 := e0 10 _ rfl
      rw [Nat.add_zero] at e00
      clear hx e0 hlt hk
      go_upto_region 7 with fail
      clear e00 e01 e02 e03 e04 e05 e06 e07 e08 e09 e10
      have hb6 := below_al (o := .cells (itC x) 42) (Below.refl wr.heap.size wr)
      have A6 := Lib.hid (AT.out.next hb6)
      have LY := Lib.hid (Lies.new wr (itC x) 42)
      obtain ⟨b6, hb6e⟩ : ∃ b, b = wr.heap.size := ⟨_, rfl⟩
      obtain ⟨W6, hW6⟩ : ∃ W, W = wr.alloc (.cells (itC x) 42) := ⟨_, rfl⟩
      rw [← hW6] at A6 LY ⊢
      rw [← hb6e] at LY ⊢
      clear hW6 hb6e hb6 AT
      have x0 := A6.out.l3.cell (j := 0) rfl; have x1 := A6.out.l3.cell (j := 1) rfl; have x2 := A6.out.l3.cell (j := 2) rfl
      by_cases h60 : 60 ≤ k
      · have g1 : decide ((60 : Int) ≤ (k : Int)) = true := decide_eq_true (by omega)
        have HRC := Lib.hid (ckRight A6.out.am.at_)
        rw [HRA.out] at HRC
        clear h60
        go_wp2_with fail
        refine HRC.out.mono ?_
        rintro e w7 ⟨rfl, hb7⟩
        have A7 := Lib.hid (A6.out.next hb7)
        clear hb7
        go_wp2_with fail
        go_ret
        exact ⟨rfl, A7.out.below⟩
      · have g1 : decide ((60 : Int) ≤ (k : Int)) = false := decide_eq_false (by omega)
        have HK59 : Hid (k + 1 ≤ 60) := Lib.hid (by omega)
        have HOF := Lib.hid (ckOfferM A6.out.am (fun q hq => by have := A6.out.lt; omega) 0 x)
        rw [one_offer] at HOF
        clear h60
        have y00 := LY.out.cell (j := 0) rfl; have y01 := LY.out.cell (j := 1) rfl; have y02 := LY.out.cell (j := 2) rfl; have y03 := LY.out.cell (j := 3) rfl; have y04 := LY.out.cell (j := 4) rfl; have y05 := LY.out.cell (j := 5) rfl; have y06 := LY.out.cell (j := 6) rfl; have y07 := LY.out.cell (j := 7) rfl; have y08 := LY.out.cell (j := 8) rfl; have y09 := LY.out.cell (j := 9) rfl; have y10 := LY.out.cell (j := 10) rfl
        by_cases hx : right x = true
        · by_cases hk4 : x.k = 4
          · rw [if_neg (by rw [hx]; simp), if_neg (by simpa using hk4)] at HOF
            have g2 : (x.k == 4) = true := eq_b hk4
            have g3 : (x.k != 4) = false := nb0 hk4
            have g4 : (x.n != x.n) = false := nb0 rfl
            clear hx hk4
            go_wp2_with fail
            refine HOF.out.mono ?_
            rintro e w7 ⟨n7, l7, G7, cG7, H7, cH7, L7, cL7, rfl, ha7, ht7, hb7⟩
            have hn7 : n7 = 1 := ha7.at_.len.1
            have hl7 : l7 = 0 := ht7.1.ln
            subst hn7 hl7
            go_upto_region 9 with fail
            have hbx := below_al (o := .cells (alC (anew 1).n G7 1 cG7 H7 1 cH7) 25) (Below.refl w7.heap.size w7)
            have A7 := Lib.hid (A6.out.next (below_next hb7 hbx))
            have N7 := Lib.hid (ha7.below hbx)
            have LY7 := Lib.hid (LY.out.below (below_next hb7 hbx))
            have LN := Lib.hid (Lies.new w7 (alC (anew 1).n G7 1 cG7 H7 1 cH7) 25)
            obtain ⟨b7, hb7e⟩ : ∃ b, b = w7.heap.size := ⟨_, rfl⟩
            obtain ⟨W7, hW7⟩ : ∃ W, W = w7.alloc (.cells (alC (anew 1).n G7 1 cG7 H7 1 cH7) 25) := ⟨_, rfl⟩
            rw [← hW7] at A7 N7 LY7 LN ⊢
            rw [← hb7e] at LN ⊢
            clear hW7 hb7e hbx ha7 ht7 hb7 A6 x0 x1 x2 HOF LY y00 y01 y02 y03 y04 y05 y06 y07 y08 y09 y10
            have u0 := LY7.out.cell (j := 0) rfl; have u5 := LY7.out.cell (j := 5) rfl
            have n0 := LN.out.cell (j := 0) rfl; have n1 := LN.out.cell (j := 1) rfl; have n2 := LN.out.cell (j := 2) rfl
            have HRM := Lib.hid (ckRoom N7.out.at_ 0)
            rw [one_room] at HRM
            go_wp2_with fail
            refine HRM.out.mono ?_
            rintro e w8 ⟨rfl, hb8⟩
            have A8 := Lib.hid (A7.out.next hb8)
            have N8 := Lib.hid (N7.out.below hb8)
            have LN8 := Lib.hid (LN.out.below hb8)
            have A9 := Lib.hid (A8.out.put N8.out)
            clear hb8 u0 u5 n0 n1 n2 A7 N7 LY7 LN HRM
            have n0 := LN8.out.cell (j := 0) rfl; have n1 := LN8.out.cell (j := 1) rfl; have n2 := LN8.out.cell (j := 2) rfl
            have x0 := A8.out.l3.cell (j := 0) rfl; have x1 := A8.out.l3.cell (j := 1) rfl; have x2 := A8.out.l3.cell (j := 2) rfl
            have f0 := A8.out.l3.free 0; have f1 := A8.out.l3.free 1; have f2 := A8.out.l3.free 2
            go_wp2_with fail
            go_roundw
            case rel => exact ⟨k + 1, G7, cG7, H7, cH7, rfl, HKM.out, HK59.out, A9.out⟩
            case measure => simp [intOf]; have := HKM.out; omega
          · rw [if_neg (by rw [hx]; simp), if_pos hk4] at HOF
            have g2 : (x.k == 4) = false := ne_b hk4
            have g3 : (x.k != 4) = true := nb hk4
            clear hx hk4
            go_wp2_with fail
            refine HOF.out.mono ?_
            rintro e w7 ⟨n7, l7, G7, cG7, H7, cH7, L7, cL7, rfl, ha7, ht7, hb7⟩
            have hn7 : n7 = 1 := ha7.at_.len.1
            have hl7 : l7 = 0 := ht7.1.ln
            subst hn7 hl7
            go_upto_region 9 with fail
            have hbx := below_al (o := .cells (alC (anew 1).n G7 1 cG7 H7 1 cH7) 25) (Below.refl w7.heap.size w7)
            have A7 := Lib.hid (A6.out.next (below_next hb7 hbx))
            have N7 := Lib.hid (ha7.below hbx)
            have LY7 := Lib.hid (LY.out.below (below_next hb7 hbx))
            have LN := Lib.hid (Lies.new w7 (alC (anew 1).n G7 1 cG7 H7 1 cH7) 25)
            obtain ⟨b7, hb7e⟩ : ∃ b, b = w7.heap.size := ⟨_, rfl⟩
            obtain ⟨W7, hW7⟩ : ∃ W, W = w7.alloc (.cells (alC (anew 1).n G7 1 cG7 H7 1 cH7) 25) := ⟨_, rfl⟩
            rw [← hW7] at A7 N7 LY7 LN ⊢
            rw [← hb7e] at LN ⊢
            clear hW7 hb7e hbx ha7 ht7 hb7 A6 x0 x1 x2 HOF LY y00 y01 y02 y03 y04 y05 y06 y07 y08 y09 y10
            have u0 := LY7.out.cell (j := 0) rfl; have u5 := LY7.out.cell (j := 5) rfl
            have n0 := LN.out.cell (j := 0) rfl; have n1 := LN.out.cell (j := 1) rfl; have n2 := LN.out.cell (j := 2) rfl
            have HRM := Lib.hid (ckRoom N7.out.at_ 0)
            rw [one_room] at HRM
            go_wp2_with fail
            refine HRM.out.mono ?_
            rintro e w8 ⟨rfl, hb8⟩
            have A8 := Lib.hid (A7.out.next hb8)
            have N8 := Lib.hid (N7.out.below hb8)
            have LN8 := Lib.hid (LN.out.below hb8)
            have A9 := Lib.hid (A8.out.put N8.out)
            clear hb8 u0 u5 n0 n1 n2 A7 N7 LY7 LN HRM
            have n0 := LN8.out.cell (j := 0) rfl; have n1 := LN8.out.cell (j := 1) rfl; have n2 := LN8.out.cell (j := 2) rfl
            have x0 := A8.out.l3.cell (j := 0) rfl; have x1 := A8.out.l3.cell (j := 1) rfl; have x2 := A8.out.l3.cell (j := 2) rfl
            have f0 := A8.out.l3.free 0; have f1 := A8.out.l3.free 1; have f2 := A8.out.l3.free 2
            go_wp2_with fail
            go_roundw
            case rel => exact ⟨k + 1, G7, cG7, H7, cH7, rfl, HKM.out, HK59.out, A9.out⟩
            case measure => simp [intOf]; have := HKM.out; omega
        · rw [if_pos (by simpa using hx)] at HOF
          clear hx
          go_wp2_with fail
          refine HOF.out.mono ?_
          rintro e w7 ⟨n7, l7, G7, cG7, H7, cH7, L7, cL7, rfl, ha7, ht7, hb7⟩
          have A7 := Lib.hid (A6.out.next (below_next hb7 (below_al (o := .cells (alC zA.n G7 n7 cG7 H7 n7 cH7) 25) (Below.refl w7.heap.size w7))))
          clear ha7 ht7 hb7 A6 x0 x1 x2 HOF LY y00 y01 y02 y03 y04 y05 y06 y07 y08 y09 y10
          go_wp2_with fail
          go_roundw
          case rel => exact ⟨k + 1, G, cG, H, cH, rfl, HKM.out, HK59.out, A7.out⟩
          case measure => simp [intOf]; have := HKM.out; omega
    · have hki : ¬ (k : Int) < (n : Int) := by omega
      have HRC := Lib.hid (ckRight AT.out.am.at_)
      rw [HRA.out] at HRC
      have x0 := AT.out.l3.cell (j := 0) rfl; have x1 := AT.out.l3.cell (j := 1) rfl; have x2 := AT.out.l3.cell (j := 2) rfl
      clear hlt hk
      go_wp2_with fail
      refine HRC.out.mono ?_
      rintro e w7 ⟨rfl, hb7⟩
      have A7 := Lib.hid (AT.out.next hb7)
      clear hb7
      go_wp2_with fail
      go_ret
      exact ⟨rfl, A7.out.below⟩
set_option maxRecDepth 100000 in
set_option maxHeartbeats 4000000 in
theorem walkHolds {w : World} {a : Al} {ng nh : Nat} {G : Option Addr} {cG : Nat} {H : Option Addr} {cH : Nat} {hs : List Hd} (h : RawAt w a ng nh G cG H cH hs) (hlen : nh ≤ 9223372036854775807) (input : Int) (l : List It) (n : Nat) (hn : n = l.length) (A : Option Addr) (c : Nat) (hA : Row w A (itc l)) :
    Calls Try.prog 6 #[alV a.n G ng cG H nh cH, .int .i64 input, .slice A n c] w (TellsB true w) := by
  obtain ⟨r, hr⟩ : ∃ r, r = smallO ng nh hs := ⟨_, rfl⟩
  have HSM := Lib.hid (fun w' (hb : Below w.heap.size w w') => lawSmallA (h.below hb) hlen r hr)
  have HAL : Hid (r = true → AlAt w a ng nh G cG H cH) := Lib.hid (fun e => ⟨hs, h, small_iff.1 (hr.symm.trans e)⟩)
  have HB := Lib.hid (below_al (o := .cells (alC a.n G ng cG H nh cH) 25) (Below.refl w.heap.size w))
  have L3 := Lib.hid (Lies.new w (alC a.n G ng cG H nh cH) 25)
  have HNGL := Lib.hid h.lng
  have HNHL := Lib.hid h.lnh
  have HR := Lib.hid hA
  have HN := Lib.hid hn
  clear h hr hlen hA hn
  go_enter Try.func6, Try.ntmps6
  go_upto_region 1 with fail
  obtain ⟨b3, hb3⟩ : ∃ b, b = w.heap.size := ⟨_, rfl⟩
  have HB3 := Lib.hid hb3
  obtain ⟨W, hW⟩ : ∃ W, W = w.alloc (.cells (alC a.n G ng cG H nh cH) 25) := ⟨_, rfl⟩
  rw [← hW] at L3 HB ⊢
  rw [← hb3] at L3 ⊢
  clear hW hb3
  have x0 := L3.out.cell (j := 0) rfl; have x1 := L3.out.cell (j := 1) rfl; have x2 := L3.out.cell (j := 2) rfl
  go_wp2_with fail
  refine (HSM.out _ HB.out).mono ?_
  rintro e w1 ⟨rfl, hb1⟩
  have HB1 := Lib.hid (below_next HB.out hb1)
  have L1 := Lib.hid (L3.out.below hb1)
  clear hb1 x0 x1 x2 L3 HB HSM
  cases r
  · go_wp2_with fail
    refine (lawAliveA _).mono ?_
    rintro e wz ⟨rfl, hbz⟩
    have HBZ := Lib.hid (below_next HB1.out hbz)
    clear hbz
    go_wp2_with fail
    go_ret
    exact ⟨rfl, HBZ.out⟩
  · have HA := Lib.hid (HAL.out (by trivial))
    obtain ⟨q, hq⟩ : ∃ q, q = rightA a := ⟨_, rfl⟩
    have HRT := Lib.hid (ckRight (HA.out.below HB1.out))
    rw [← hq] at HRT
    have HQ := Lib.hid hq
    have x0 := L1.out.cell (j := 0) rfl; have x1 := L1.out.cell (j := 1) rfl; have x2 := L1.out.cell (j := 2) rfl
    clear hq HAL
    go_wp2_with fail
    refine HRT.out.mono ?_
    rintro e w2 ⟨rfl, hb2⟩
    have HB2 := Lib.hid (below_next HB1.out hb2)
    have L2 := Lib.hid (L1.out.below hb2)
    clear hb2 x0 x1 x2 HB1 L1 HRT
    cases q
    · go_wp2_with fail
      refine (lawAliveA _).mono ?_
      rintro e wz ⟨rfl, hbz⟩
      have HBZ := Lib.hid (below_next HB2.out hbz)
      clear hbz
      go_wp2_with fail
      go_ret
      exact ⟨rfl, HBZ.out⟩
    · have x1 := L2.out.cell (j := 1) rfl
      by_cases hi0 : input < 0
      · have g1 : decide (input < 0) = true := decide_eq_true hi0
        clear hi0
        go_wp2_with fail
        refine (lawAliveA _).mono ?_
        rintro e wz ⟨rfl, hbz⟩
        have HBZ := Lib.hid (below_next HB2.out hbz)
        clear hbz
        go_wp2_with fail
        go_ret
        exact ⟨rfl, HBZ.out⟩
      · have g1 : decide (input < 0) = false := decide_eq_false hi0
        by_cases hi1 : (ng : Int) ≤ input
        · have g2 : decide ((ng : Int) ≤ input) = true := decide_eq_true hi1
          clear hi0 hi1
          go_wp2_with fail
          refine (lawAliveA _).mono ?_
          rintro e wz ⟨rfl, hbz⟩
          have HBZ := Lib.hid (below_next HB2.out hbz)
          clear hbz
          go_wp2_with fail
          go_ret
          exact ⟨rfl, HBZ.out⟩
        · have g2 : decide ((ng : Int) ≤ input) = false := decide_eq_false hi1
          obtain ⟨j, hj⟩ : ∃ j : Nat, input = (j : Int) := ⟨input.toNat, by omega⟩
          subst hj
          have g3 : decide (ng ≤ j) = false := decide_eq_false (by omega)
          have HJ : Hid (j < ng) := Lib.hid (by omega)
          have hnn : nh = ng := by rw [HNGL.out, HNHL.out]; exact ((ok_iff a).1 HQ.out.symm).hl
          subst hnn
          have V2 : Hid (VaAt w b3 a nh G cG H cH w2) := Lib.hid ⟨L2.out, (HA.out.mk_ (· = b3) (fun k hk => by rw [hk, HB3.out]; exact Nat.le_refl _)).below HB2.out, by rw [HB3.out]; exact Nat.le_refl _, lt_of_block L2.out, HB2.out⟩
          clear hi0 hi1
          go_wp2_with fail
          refine (lawAliveA _).mono ?_
          rintro e w3 ⟨rfl, hb3⟩
          have V3 := Lib.hid (V2.out.next hb3)
          clear hb3 x1 V2 L2 HB2 g1 g2 g3
          go_wp2_with fail
          go_loopw [41] (fun s41 wr => ∃ (k : Nat) (a' : Al) (G : Option Addr) (cG : Nat) (H : Option Addr) (cH : Nat), s41 = .int .i64 k ∧ k ≤ n ∧ k ≤ 40 ∧ rightA a' = true ∧ a'.got.length = nh ∧ VaAt w b3 a' nh G cG H cH wr) (fun s41 _ => n - (intOf s41).toNat)
          case atStart => exact ⟨0, a, G, cG, H, cH, rfl, Nat.zero_le _, Nat.zero_le _, HQ.out.symm, HNGL.out.symm, V3.out⟩
          case round =>
            clear V3 HA HQ HNGL HNHL
            obtain ⟨k, a', G, cG, H, cH, rfl, hk, hk40, hra, hla, hat⟩ := hrel
            have AT := Lib.hid hat
            have HK40 := Lib.hid hk40
            have HRA := Lib.hid hra
            have HLA := Lib.hid hla
            clear hat hk40 hra hla
            by_cases hlt : k < n
            · obtain ⟨x, hx⟩ : ∃ x, l[k]? = some x := ⟨_, List.getElem?_eq_getElem (by rw [← HN.out]; exact hlt)⟩
              obtain ⟨q, off, hA1, e0⟩ := item_row (HR.out.below AT.out.below) hx
              subst hA1
              have hki : (k : Int) < (n : Int) := by omega
              have hw := wrapKA (k := k) (by have := HK40.out; omega)
              have HKM := Lib.hid hlt
              have e00 := e0 0 _ rfl; have e01 := e0 1 _ rfl; have e02 := e0 2 _ rfl; have e03 := e0 3 _ rfl; have e04 := e0 4 _ rfl; have e05 := e0 5 _ rfl; have e06 := e0 6 _ rfl; have e07 := e0 7 _ rfl; have e08 := e0 8 _ rfl; have e09 := e0 9 _ rfl; have e10 := e0 10 _ rfl
              rw [Nat.add_zero] at e00
              clear hx e0 hlt hk
              go_upto_region 6 with fail
              clear e00 e01 e02 e03 e04 e05 e06 e07 e08 e09 e10
              have hb6 := below_al (o := .cells (itC x) 42) (Below.refl wr.heap.size wr)
              have A6 := Lib.hid (AT.out.next hb6)
              have LY := Lib.hid (Lies.new wr (itC x) 42)
              obtain ⟨b6, hb6e⟩ : ∃ b, b = wr.heap.size := ⟨_, rfl⟩
              obtain ⟨W6, hW6⟩ : ∃ W, W = wr.alloc (.cells (itC x) 42) := ⟨_, rfl⟩
              rw [← hW6] at A6 LY ⊢
              rw [← hb6e] at LY ⊢
              clear hW6 hb6e hb6 AT
              have x0 := A6.out.l3.cell (j := 0) rfl; have x1 := A6.out.l3.cell (j := 1) rfl; have x2 := A6.out.l3.cell (j := 2) rfl
              have HRIN := Lib.hid (room_in a' (j : Int))
              obtain ⟨rm, hrm⟩ : ∃ rm, rm = roomO a' (j : Int) := ⟨_, rfl⟩
              have HRO := Lib.hid (ckRoom A6.out.am.at_ (j : Int))
              rw [← hrm] at HRO HRIN
              have HRM := Lib.hid hrm
              have HRN := Lib.hid hrm.symm
              clear hrm
              by_cases h40 : 40 ≤ k
              · have g1 : decide ((40 : Int) ≤ (k : Int)) = true := decide_eq_true (by omega)
                clear h40
                have gr1 : decide ((0 : Int) ≤ rm) = true := decide_eq_true HRIN.out.1
                have gr2 : decide (rm ≤ (16 : Int)) = true := decide_eq_true HRIN.out.2
                go_wp2_with fail
                refine HRO.out.mono ?_
                rintro e wy ⟨rfl, hby⟩
                have AY := Lib.hid (A6.out.next hby)
                have HRY : Hid (Calls Try.prog 16 _ _ (TellsI rm wy)) := Lib.hid (HRN.out ▸ ckRoom AY.out.am.at_ (j : Int))
                clear hby x0 x1 x2 A6 HRO
                have x0 := AY.out.l3.cell (j := 0) rfl; have x1 := AY.out.l3.cell (j := 1) rfl; have x2 := AY.out.l3.cell (j := 2) rfl
                go_wp2_with fail
                refine HRY.out.mono ?_
                rintro e wx ⟨rfl, hbx⟩
                have AX := Lib.hid (AY.out.next hbx)
                clear hbx
                go_wp2_with fail
                go_ret
                exact ⟨by first | rfl | simp, AX.out.below⟩
              · have g1 : decide ((40 : Int) ≤ (k : Int)) = false := decide_eq_false (by omega)
                have HK39 : Hid (k + 1 ≤ 40) := Lib.hid (by omega)
                clear h40
                go_wp2_with fail
                refine HRO.out.mono ?_
                rintro e w7 ⟨rfl, hb7⟩
                have A7 := Lib.hid (A6.out.next hb7)
                have LY7 := Lib.hid (LY.out.below hb7)
                clear hb7 x0 x1 x2 A6 LY HRO
                obtain ⟨o, ho⟩ : ∃ o, o = offerA a' (j : Int) x 190 := ⟨_, rfl⟩
                have HOF := Lib.hid (ckOfferM A7.out.am (fun q hq => by have := A7.out.lt; omega) (j : Int) x)
                have HHOW := Lib.hid (how HRA.out (by rw [HLA.out]; exact HJ.out) x 190)
                have HGL := Lib.hid (offer_len (i := x) HRA.out (by rw [HLA.out]; exact HJ.out))
                have HOKO := Lib.hid (offer_ok (a := a') (input := (j : Int)) (i := x) (stage := 190) (by decide))
                rw [← ho] at HOF HHOW HGL HOKO
                clear ho
                have x0 := A7.out.l3.cell (j := 0) rfl; have x1 := A7.out.l3.cell (j := 1) rfl; have x2 := A7.out.l3.cell (j := 2) rfl
                have y00 := LY7.out.cell (j := 0) rfl; have y01 := LY7.out.cell (j := 1) rfl; have y02 := LY7.out.cell (j := 2) rfl; have y03 := LY7.out.cell (j := 3) rfl; have y04 := LY7.out.cell (j := 4) rfl; have y05 := LY7.out.cell (j := 5) rfl; have y06 := LY7.out.cell (j := 6) rfl; have y07 := LY7.out.cell (j := 7) rfl; have y08 := LY7.out.cell (j := 8) rfl; have y09 := LY7.out.cell (j := 9) rfl; have y10 := LY7.out.cell (j := 10) rfl
                go_wp2_with fail
                refine HOF.out.mono ?_
                rintro e w8 ⟨n8, l8, G8, cG8, H8, cH8, L8, cL8, rfl, ha8, ht8, hb8⟩
                go_upto_region 9 with fail
                have hbx := below_al (o := .cells (alC o.a.n G8 n8 cG8 H8 n8 cH8) 25) (Below.refl w8.heap.size w8)
                have A8 := Lib.hid (A7.out.next (below_next hb8 hbx))
                have N8 := Lib.hid (ha8.below hbx)
                have LN := Lib.hid (Lies.new w8 (alC o.a.n G8 n8 cG8 H8 n8 cH8) 25)
                obtain ⟨b8, hb8e⟩ : ∃ b, b = w8.heap.size := ⟨_, rfl⟩
                obtain ⟨W8, hW8⟩ : ∃ W, W = w8.alloc (.cells (alC o.a.n G8 n8 cG8 H8 n8 cH8) 25) := ⟨_, rfl⟩
                rw [← hW8] at A8 N8 LN ⊢
                rw [← hb8e] at LN ⊢
                clear hW8 hb8e hbx ha8 ht8 hb8 A7 x0 x1 x2 HOF LY7 y00 y01 y02 y03 y04 y05 y06 y07 y08 y09 y10
                obtain ⟨g, hg⟩ : ∃ g, a'.got[j]? = some g := ⟨_, List.getElem?_eq_getElem (by rw [HLA.out]; exact HJ.out)⟩
                obtain ⟨hs8, hraw, _, _⟩ := A8.out.am
                obtain ⟨qg, offg, hG1, c0⟩ := got_row hraw.hg hg
                subst hG1
                have hjI : (j : Int) < (nh : Int) := by have := HJ.out; omega
                have HGJ := Lib.hid hg
                clear hraw hg
                have x1 := A8.out.l3.cell (j := 1) rfl
                obtain ⟨oa, op, od, ol, oe⟩ := o
                simp only at N8 LN HHOW HGL HOKO
                have hway : ((oe == (3 : Int)) = false ∧ (oe == (0 : Int)) = false) ∨ (oe = 3 ∧ g = true ∧ rm = 0) ∨ (oe = 0 ∧ g = true ∧ op = false ∧ od = 0 ∧ decide (rm < 1) = false ∧ roomO oa (j : Int) = rm - 1) ∨ (oe = 0 ∧ g = false) := by
                  have hgj := HGJ.out
                  rcases HHOW.out with ⟨_, h⟩ | ⟨l, hg, hl, hn, h⟩ | ⟨l, hi, hg, hl, hn, h⟩ | ⟨_, hg, _, h⟩ | ⟨_, _, _, _, h⟩ | ⟨_, hg, _, _, _, h⟩ | ⟨_, hg, _, _, _, h⟩
                  · cases h; exact .inl ⟨rfl, rfl⟩
                  · cases h
                    rw [hg] at hgj; cases hgj
                    exact .inr (.inl ⟨rfl, rfl, by rw [HRM.out]; exact room_full HRA.out (by rw [HLA.out]; exact HJ.out) hl hn⟩)
                  · cases h
                    rw [hg] at hgj; cases hgj
                    have h2 := hold_room HRA.out hi hg hl hn
                    have h3 := HRM.out
                    exact .inr (.inr (.inl ⟨rfl, rfl, rfl, rfl, decide_eq_false (by omega), by omega⟩))
                  · cases h
                    rw [hg] at hgj; cases hgj
                    exact .inr (.inr (.inr ⟨rfl, rfl⟩))
                  · cases h; exact .inl ⟨rfl, rfl⟩
                  · cases h
                    rw [hg] at hgj; cases hgj
                    exact .inr (.inr (.inr ⟨rfl, rfl⟩))
                  · cases h
                    rw [hg] at hgj; cases hgj
                    exact .inr (.inr (.inr ⟨rfl, rfl⟩))
                clear HHOW
                rcases hway with ⟨g2, g3⟩ | ⟨h1, h2, h3⟩ | ⟨h1, h2, h3, h4, h5, h6⟩ | ⟨h1, h2⟩
                · clear HGL HOKO
                  go_wp2_with fail
                  go_roundw
                  case rel => exact ⟨k + 1, a', some ⟨qg, offg, none⟩, cG, H, cH, rfl, HKM.out, HK39.out, HRA.out, HLA.out, A8.out⟩
                  case measure => simp [intOf]; have := HKM.out; omega
                · subst h1 h2 h3
                  clear HGL HOKO
                  go_wp2_with fail
                  go_roundw
                  case rel => exact ⟨k + 1, a', some ⟨qg, offg, none⟩, cG, H, cH, rfl, HKM.out, HK39.out, HRA.out, HLA.out, A8.out⟩
                  case measure => simp [intOf]; have := HKM.out; omega
                · subst h1 h2 h3 h4
                  have HR8 := Lib.hid (ckRoom N8.out.at_ (j : Int))
                  rw [h6] at HR8
                  have hwr : IntKind.i64.wrap (rm - 1) = rm - 1 := wrapA (by have := HRIN.out; omega) (by have := HRIN.out; omega)
                  have hrr : (rm - 1 != rm - 1) = false := nb0 rfl
                  have n0 := LN.out.cell (j := 0) rfl; have n1 := LN.out.cell (j := 1) rfl; have n2 := LN.out.cell (j := 2) rfl
                  clear h6
                  go_wp2_with fail
                  refine HR8.out.mono ?_
                  rintro e w9 ⟨rfl, hb9⟩
                  have A9 := Lib.hid (A8.out.next hb9)
                  have N9 := Lib.hid (N8.out.below hb9)
                  have LN9 := Lib.hid (LN.out.below hb9)
                  clear hb9 n0 n1 n2 A8 N8 LN HR8 x1 c0
                  have HOK9 := HOKO.out (by trivial)
                  have HN8 : n8 = nh := by rw [N9.out.at_.len.1, HGL.out (by trivial), HLA.out]
                  subst HN8
                  have HRC := Lib.hid (ckRight N9.out.at_)
                  rw [(ok_iff _).2 HOK9] at HRC
                  have HR9 := Lib.hid ((ok_iff _).2 HOK9)
                  have HGL9 := Lib.hid (show oa.got.length = n8 from N9.out.at_.len.1.symm)
                  have n0 := LN9.out.cell (j := 0) rfl; have n1 := LN9.out.cell (j := 1) rfl; have n2 := LN9.out.cell (j := 2) rfl
                  clear HOK9 HOKO HGL
                  go_wp2_with fail
                  refine HRC.out.mono ?_
                  rintro e w10 ⟨rfl, hb10⟩
                  have A10 := Lib.hid (A9.out.next hb10)
                  have N10 := Lib.hid (N9.out.below hb10)
                  have LN10 := Lib.hid (LN9.out.below hb10)
                  have A11 := Lib.hid (A10.out.put N10.out)
                  clear hb10 n0 n1 n2 A9 N9 LN9 HRC
                  have n0 := LN10.out.cell (j := 0) rfl; have n1 := LN10.out.cell (j := 1) rfl; have n2 := LN10.out.cell (j := 2) rfl
                  have u0 := A10.out.l3.cell (j := 0) rfl; have u1 := A10.out.l3.cell (j := 1) rfl; have u2 := A10.out.l3.cell (j := 2) rfl
                  have f0 := A10.out.l3.free 0; have f1 := A10.out.l3.free 1; have f2 := A10.out.l3.free 2
                  go_wp2_with fail
                  go_roundw
                  case rel => exact ⟨k + 1, oa, G8, cG8, H8, cH8, rfl, HKM.out, HK39.out, HR9.out, HGL9.out, A11.out⟩
                  case measure => simp [intOf]; have := HKM.out; omega
                · subst h1 h2
                  obtain ⟨w9, hw9⟩ : ∃ w9, w9 = W8 := ⟨_, rfl⟩
                  subst hw9
                  have A9 := Lib.hid A8.out
                  have N9 := Lib.hid N8.out
                  have LN9 := Lib.hid LN.out
                  clear A8 N8 LN
                  have HOK9 := HOKO.out (by trivial)
                  have HN8 : n8 = nh := by rw [N9.out.at_.len.1, HGL.out (by trivial), HLA.out]
                  subst HN8
                  have HRC := Lib.hid (ckRight N9.out.at_)
                  rw [(ok_iff _).2 HOK9] at HRC
                  have HR9 := Lib.hid ((ok_iff _).2 HOK9)
                  have HGL9 := Lib.hid (show oa.got.length = n8 from N9.out.at_.len.1.symm)
                  have n0 := LN9.out.cell (j := 0) rfl; have n1 := LN9.out.cell (j := 1) rfl; have n2 := LN9.out.cell (j := 2) rfl
                  clear HOK9 HOKO HGL
                  go_wp2_with fail
                  refine HRC.out.mono ?_
                  rintro e w10 ⟨rfl, hb10⟩
                  have A10 := Lib.hid (A9.out.next hb10)
                  have N10 := Lib.hid (N9.out.below hb10)
                  have LN10 := Lib.hid (LN9.out.below hb10)
                  have A11 := Lib.hid (A10.out.put N10.out)
                  clear hb10 n0 n1 n2 A9 N9 LN9 HRC
                  have n0 := LN10.out.cell (j := 0) rfl; have n1 := LN10.out.cell (j := 1) rfl; have n2 := LN10.out.cell (j := 2) rfl
                  have u0 := A10.out.l3.cell (j := 0) rfl; have u1 := A10.out.l3.cell (j := 1) rfl; have u2 := A10.out.l3.cell (j := 2) rfl
                  have f0 := A10.out.l3.free 0; have f1 := A10.out.l3.free 1; have f2 := A10.out.l3.free 2
                  go_wp2_with fail
                  go_roundw
                  case rel => exact ⟨k + 1, oa, G8, cG8, H8, cH8, rfl, HKM.out, HK39.out, HR9.out, HGL9.out, A11.out⟩
                  case measure => simp [intOf]; have := HKM.out; omega
            · have hki : ¬ (k : Int) < (n : Int) := by omega
              have A6 := Lib.hid AT.out
              have HRIN := Lib.hid (room_in a' (j : Int))
              obtain ⟨rm, hrm⟩ : ∃ rm, rm = roomO a' (j : Int) := ⟨_, rfl⟩
              have HRO := Lib.hid (ckRoom A6.out.am.at_ (j : Int))
              rw [← hrm] at HRO HRIN
              have HRN := Lib.hid hrm.symm
              clear hrm hlt hk AT
              have x0 := A6.out.l3.cell (j := 0) rfl; have x1 := A6.out.l3.cell (j := 1) rfl; have x2 := A6.out.l3.cell (j := 2) rfl
              have gr1 : decide ((0 : Int) ≤ rm) = true := decide_eq_true HRIN.out.1
              have gr2 : decide (rm ≤ (16 : Int)) = true := decide_eq_true HRIN.out.2
              go_wp2_with fail
              refine HRO.out.mono ?_
              rintro e wy ⟨rfl, hby⟩
              have AY := Lib.hid (A6.out.next hby)
              have HRY : Hid (Calls Try.prog 16 _ _ (TellsI rm wy)) := Lib.hid (HRN.out ▸ ckRoom AY.out.am.at_ (j : Int))
              clear hby x0 x1 x2 A6 HRO
              have x0 := AY.out.l3.cell (j := 0) rfl; have x1 := AY.out.l3.cell (j := 1) rfl; have x2 := AY.out.l3.cell (j := 2) rfl
              go_wp2_with fail
              refine HRY.out.mono ?_
              rintro e wx ⟨rfl, hbx⟩
              have AX := Lib.hid (AY.out.next hbx)
              clear hbx
              go_wp2_with fail
              go_ret
              exact ⟨by first | rfl | simp, AX.out.below⟩
end Aln
end Go.Proofs.Ytgbklmncfajcgaa
