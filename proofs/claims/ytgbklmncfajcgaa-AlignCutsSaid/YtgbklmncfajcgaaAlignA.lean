/- The law's alive; AlignMakes, AlignOffers. -/
import Derived.Test.YtgbklmncfajcgaaAlignCk
import Derived.Test.YtgbklmncfajcgaaWide
namespace Go.Proofs.Ytgbklmncfajcgaa
open Go.ChangeShapes Go.WideShapes Go.ChangeAt Go.RowKit
set_option linter.unusedVariables false
set_option maxRecDepth 8000
namespace Aln
open Gen (TellsB TellsI row_one flat_len flat_get)
open Itm
theorem new_one : newO 1 = (anew 1, 0) := rfl
set_option maxHeartbeats 1000000 in
theorem lawAliveA (w : World) : Calls Try.prog 13 #[] w (TellsB true w) := by
  have HC := Lib.hid (ckNew 1 w)
  rw [new_one] at HC
  go_enter Try.func13, Try.ntmps13
  go_wp2_with fail
  refine HC.out.mono ?_
  rintro e w1 ⟨ng, G, cG, H, cH, rfl, ha, hb1⟩
  have hng : ng = 1 := ha.len.1
  subst hng
  have HB := Lib.hid (below_next hb1 (below_al (o := .cells (alC 0 G 1 cG H 1 cH) 25) (Below.refl w1.heap.size w1)))
  clear ha hb1
  simp only [anew]
  go_wp2_with fail
  go_ret
  exact ⟨rfl, HB.out⟩
/-- The blocks of AlignMakes. -/
structure MkAt (w0 : World) (b4 b7 b9 : Nat) (a o : Al) (ng nh : Nat) (G : Option Addr) (cG : Nat) (H : Option Addr) (cH : Nat) (n1 : Nat) (G1 : Option Addr) (cG1 : Nat) (H1 : Option Addr) (cH1 : Nat) (n2 : Nat) (G2 : Option Addr) (cG2 : Nat) (H2 : Option Addr) (cH2 : Nat) (w : World) : Prop where
  l4 : Lies b4 (alC a.n G ng cG H nh cH) 25 w
  l7 : Lies b7 (alC o.n G1 n1 cG1 H1 n1 cH1) 25 w
  l9 : Lies b9 (alC o.n G2 n2 cG2 H2 n2 cH2) 25 w
  a4 : AlAt w a ng nh G cG H cH
  a7 : AlAt w o n1 n1 G1 cG1 H1 cH1
  a9 : AlAt w o n2 n2 G2 cG2 H2 cH2
  below : Below w0.heap.size w0 w
theorem MkAt.next {w0 : World} {b4 b7 b9 : Nat} {a o : Al} {ng nh : Nat} {G : Option Addr} {cG : Nat} {H : Option Addr} {cH : Nat} {n1 : Nat} {G1 : Option Addr} {cG1 : Nat} {H1 : Option Addr} {cH1 : Nat} {n2 : Nat} {G2 : Option Addr} {cG2 : Nat} {H2 : Option Addr} {cH2 : Nat} {w w' : World}
    (h : MkAt w0 b4 b7 b9 a o ng nh G cG H cH n1 G1 cG1 H1 cH1 n2 G2 cG2 H2 cH2 w) (hb : Below w.heap.size w w') : MkAt w0 b4 b7 b9 a o ng nh G cG H cH n1 G1 cG1 H1 cH1 n2 G2 cG2 H2 cH2 w' :=
  ⟨h.l4.below hb, h.l7.below hb, h.l9.below hb, h.a4.below hb, h.a7.below hb, h.a9.below hb, below_next h.below hb⟩
set_option maxRecDepth 100000 in
set_option maxHeartbeats 4000000 in
theorem walkMakes {w : World} {a : Al} {ng nh : Nat} {G : Option Addr} {cG : Nat} {H : Option Addr} {cH : Nat} {hs : List Hd} (h : RawAt w a ng nh G cG H cH hs) (hlen : nh ≤ 9223372036854775807) (inputs input : Int) :
    Calls Try.prog 3 #[.int .i64 inputs, alV a.n G ng cG H nh cH, .int .i64 input] w (TellsB true w) := by
  obtain ⟨r, hr⟩ : ∃ r, r = smallO ng nh hs := ⟨_, rfl⟩
  have HSM := Lib.hid (fun w' (hb : Below w.heap.size w w') => lawSmallA (h.below hb) hlen r hr)
  have HAL : Hid (r = true → AlAt w a ng nh G cG H cH) := Lib.hid (fun e => ⟨hs, h, small_iff.1 (hr.symm.trans e)⟩)
  have HB := Lib.hid (below_al (o := .cells (alC a.n G ng cG H nh cH) 25) (Below.refl w.heap.size w))
  have L4 := Lib.hid (Lies.new w (alC a.n G ng cG H nh cH) 25)
  have HRAW := Lib.hid h
  clear h hr hlen
  go_enter Try.func3, Try.ntmps3
  go_upto_region 1 with fail
  obtain ⟨b4, hb4⟩ : ∃ b, b = w.heap.size := ⟨_, rfl⟩
  obtain ⟨W, hW⟩ : ∃ W, W = w.alloc (.cells (alC a.n G ng cG H nh cH) 25) := ⟨_, rfl⟩
  rw [← hW] at L4 HB ⊢
  rw [← hb4] at L4 ⊢
  clear hW hb4
  have x0 := L4.out.cell (j := 0) rfl; have x1 := L4.out.cell (j := 1) rfl; have x2 := L4.out.cell (j := 2) rfl
  go_wp2_with fail
  refine (HSM.out _ HB.out).mono ?_
  rintro e w1 ⟨rfl, hb1⟩
  have HB1 := Lib.hid (below_next HB.out hb1)
  have L1 := Lib.hid (L4.out.below hb1)
  clear hb1 x0 x1 x2 L4 HB HSM
  cases r
  · go_wp2_with fail
    go_ret
    exact ⟨rfl, HB1.out⟩
  · have A1 := Lib.hid ((HAL.out (by trivial)).below HB1.out)
    obtain ⟨o, ho⟩ : ∃ o, o = (newO inputs).1 := ⟨_, rfl⟩
    obtain ⟨z, hz⟩ : ∃ z, z = (newO inputs).2 := ⟨_, rfl⟩
    have HC1 := Lib.hid (fun w' => ckNew inputs w')
    have HC2 := Lib.hid (fun w' => rfNewS inputs w')
    rw [← ho, ← hz] at HC1 HC2
    clear ho hz HAL
    go_wp2_with fail
    refine (HC1.out _).mono ?_
    rintro e w2 ⟨n1, G1, cG1, H1, cH1, rfl, ha1, hb2⟩
    go_upto_region 4 with fail
    have hb3 := below_next hb2 (below_al (o := .cells (alC o.n G1 n1 cG1 H1 n1 cH1) 25) (Below.refl w2.heap.size w2))
    have HB3 := Lib.hid (below_next HB1.out hb3)
    have L3 := Lib.hid (L1.out.below hb3)
    have A3 := Lib.hid (A1.out.below hb3)
    have L7 := Lib.hid (Lies.new w2 (alC o.n G1 n1 cG1 H1 n1 cH1) 25)
    have A7 := Lib.hid (ha1.below (below_al (o := .cells (alC o.n G1 n1 cG1 H1 n1 cH1) 25) (Below.refl w2.heap.size w2)))
    obtain ⟨b7, hb7⟩ : ∃ b, b = w2.heap.size := ⟨_, rfl⟩
    obtain ⟨W3, hW3⟩ : ∃ W, W = w2.alloc (.cells (alC o.n G1 n1 cG1 H1 n1 cH1) 25) := ⟨_, rfl⟩
    rw [← hW3] at HB3 L3 A3 L7 A7 ⊢
    rw [← hb7] at L7 ⊢
    clear hW3 hb7 hb2 hb3 ha1 HB1 L1 A1 HC1
    go_wp2_with fail
    refine (HC2.out _).mono ?_
    rintro e w4 ⟨n2, G2, cG2, H2, cH2, rfl, ha2, hb4⟩
    go_upto_region 5 with fail
    have hb5 := below_next hb4 (below_al (o := .cells (alC o.n G2 n2 cG2 H2 n2 cH2) 25) (Below.refl w4.heap.size w4))
    have MK : Hid (MkAt w b4 b7 w4.heap.size a o ng nh G cG H cH n1 G1 cG1 H1 cH1 n2 G2 cG2 H2 cH2 (w4.alloc (.cells (alC o.n G2 n2 cG2 H2 n2 cH2) 25))) := Lib.hid
      ⟨L3.out.below hb5, L7.out.below hb5, Lies.new w4 _ _, A3.out.below hb5, A7.out.below hb5, ha2.below (below_al (o := .cells (alC o.n G2 n2 cG2 H2 n2 cH2) 25) (Below.refl w4.heap.size w4)), below_next HB3.out hb5⟩
    obtain ⟨b9, hb9⟩ : ∃ b, b = w4.heap.size := ⟨_, rfl⟩
    obtain ⟨W5, hW5⟩ : ∃ W, W = w4.alloc (.cells (alC o.n G2 n2 cG2 H2 n2 cH2) 25) := ⟨_, rfl⟩
    rw [← hW5] at MK ⊢
    rw [← hb9] at MK ⊢
    clear hW5 hb9 hb4 hb5 ha2 HB3 L3 L7 A3 A7 HC2
    obtain ⟨q, hq⟩ : ∃ q, q = rightA a := ⟨_, rfl⟩
    have HRT := Lib.hid (rfRightS MK.out.a4)
    rw [← hq] at HRT
    have HQ := Lib.hid hq
    clear hq
    have x0 := MK.out.l4.cell (j := 0) rfl; have x1 := MK.out.l4.cell (j := 1) rfl; have x2 := MK.out.l4.cell (j := 2) rfl
    go_wp2_with fail
    refine HRT.out.mono ?_
    rintro e w6 ⟨rfl, hb6⟩
    have M6 := Lib.hid (MK.out.next hb6)
    clear hb6 x0 x1 x2 MK HRT
    have hzz : (z == z) = true := eq_b rfl
    cases q
    · have HRM : Hid (roomO a input = 0) := Lib.hid (room_bad (.inl HQ.out.symm))
      go_upto_region 8 with fail
      have W0 := Lib.hid (M6.out.next (below_drewOf (Below.refl w6.heap.size w6)))
      refine wide_all (MkAt w b4 b7 b9 a o ng nh G cG H cH n1 G1 cG1 H1 cH1 n2 G2 cG2 H2 cH2) (by kernel_rfl) (by kernel_rfl) W0.out ?_
      (try simp only [List.append_eq, List.cons_append, List.nil_append])
      repeat (first
        | go_big_quiet_skip
        | (go_big_quiet_want
           apply wide_op
           · (intro w5 h5; have x0 := h5.l4.cell (j := 0) rfl; have x1 := h5.l4.cell (j := 1) rfl; have x2 := h5.l4.cell (j := 2) rfl; have y0 := h5.l7.cell (j := 0) rfl; have y1 := h5.l7.cell (j := 1) rfl; have y2 := h5.l7.cell (j := 2) rfl; have z0 := h5.l9.cell (j := 0) rfl; have z1 := h5.l9.cell (j := 1) rfl; have z2 := h5.l9.cell (j := 2) rfl; go_simp; first | done | with_reducible rfl | (go_at_call 13; refine (lawAliveA _).mono ?_; rintro e w6 ⟨rfl, hb6⟩; exact ⟨rfl, h5.next hb6⟩) | (go_at_call 14; refine (rfLikeS h5.a7 h5.a9).mono ?_; rintro e w6 ⟨rfl, hb6⟩; exact ⟨rfl, h5.next hb6⟩) | (go_at_call 15; refine (HQ.out ▸ ckRight h5.a4).mono ?_; rintro e w6 ⟨rfl, hb6⟩; exact ⟨rfl, h5.next hb6⟩) | (go_at_call 12; refine (HQ.out ▸ rfRightS h5.a4).mono ?_; rintro e w6 ⟨rfl, hb6⟩; exact ⟨rfl, h5.next hb6⟩) | (go_at_call 16; refine (HRM.out ▸ ckRoom h5.a4 input).mono ?_; rintro e w6 ⟨rfl, hb6⟩; exact ⟨rfl, h5.next hb6⟩))
           (try simp only [Act.put, List.setIfInBounds_toArray, List.set_cons_zero, List.set_cons_succ])
           go_big_quiet_on))
      refine wpQuiet_nil ?_
      intro w6 h6
      have H6 := Lib.hid h6
      clear h6
      go_wp2_with fail
      go_ret
      exact ⟨by first | rfl | simp, H6.out.below⟩
    · have x1 := M6.out.l4.cell (j := 1) rfl
      by_cases hi0 : input < 0
      · have g1 : decide ((0 : Int) ≤ input) = false := decide_eq_false (by omega)
        have HRM : Hid (roomO a input = 0) := Lib.hid (room_bad (.inr (.inl hi0)))
        clear hi0
        go_upto_region 8 with fail
        clear x1
        have W0 := Lib.hid (M6.out.next (below_drewOf (Below.refl w6.heap.size w6)))
        refine wide_all (MkAt w b4 b7 b9 a o ng nh G cG H cH n1 G1 cG1 H1 cH1 n2 G2 cG2 H2 cH2) (by kernel_rfl) (by kernel_rfl) W0.out ?_
        (try simp only [List.append_eq, List.cons_append, List.nil_append])
        repeat (first
          | go_big_quiet_skip
          | (go_big_quiet_want
             apply wide_op
             · (intro w5 h5; have x0 := h5.l4.cell (j := 0) rfl; have x1 := h5.l4.cell (j := 1) rfl; have x2 := h5.l4.cell (j := 2) rfl; have y0 := h5.l7.cell (j := 0) rfl; have y1 := h5.l7.cell (j := 1) rfl; have y2 := h5.l7.cell (j := 2) rfl; have z0 := h5.l9.cell (j := 0) rfl; have z1 := h5.l9.cell (j := 1) rfl; have z2 := h5.l9.cell (j := 2) rfl; go_simp; first | done | with_reducible rfl | (go_at_call 13; refine (lawAliveA _).mono ?_; rintro e w6 ⟨rfl, hb6⟩; exact ⟨rfl, h5.next hb6⟩) | (go_at_call 14; refine (rfLikeS h5.a7 h5.a9).mono ?_; rintro e w6 ⟨rfl, hb6⟩; exact ⟨rfl, h5.next hb6⟩) | (go_at_call 15; refine (HQ.out ▸ ckRight h5.a4).mono ?_; rintro e w6 ⟨rfl, hb6⟩; exact ⟨rfl, h5.next hb6⟩) | (go_at_call 12; refine (HQ.out ▸ rfRightS h5.a4).mono ?_; rintro e w6 ⟨rfl, hb6⟩; exact ⟨rfl, h5.next hb6⟩) | (go_at_call 16; refine (HRM.out ▸ ckRoom h5.a4 input).mono ?_; rintro e w6 ⟨rfl, hb6⟩; exact ⟨rfl, h5.next hb6⟩))
             (try simp only [Act.put, List.setIfInBounds_toArray, List.set_cons_zero, List.set_cons_succ])
             go_big_quiet_on))
        refine wpQuiet_nil ?_
        intro w6 h6
        have H6 := Lib.hid h6
        clear h6
        go_wp2_with fail
        go_ret
        exact ⟨by first | rfl | simp, H6.out.below⟩
      · have g1 : decide ((0 : Int) ≤ input) = true := decide_eq_true (by omega)
        by_cases hi1 : (ng : Int) ≤ input
        · have g2 : decide (input < (ng : Int)) = false := decide_eq_false (by omega)
          have HRM : Hid (roomO a input = 0) := Lib.hid (room_bad (.inr (.inr (by rw [← HRAW.out.lng]; exact hi1))))
          clear hi0 hi1
          go_upto_region 8 with fail
          clear x1
          have W0 := Lib.hid (M6.out.next (below_drewOf (Below.refl w6.heap.size w6)))
          refine wide_all (MkAt w b4 b7 b9 a o ng nh G cG H cH n1 G1 cG1 H1 cH1 n2 G2 cG2 H2 cH2) (by kernel_rfl) (by kernel_rfl) W0.out ?_
          (try simp only [List.append_eq, List.cons_append, List.nil_append])
          repeat (first
            | go_big_quiet_skip
            | (go_big_quiet_want
               apply wide_op
               · (intro w5 h5; have x0 := h5.l4.cell (j := 0) rfl; have x1 := h5.l4.cell (j := 1) rfl; have x2 := h5.l4.cell (j := 2) rfl; have y0 := h5.l7.cell (j := 0) rfl; have y1 := h5.l7.cell (j := 1) rfl; have y2 := h5.l7.cell (j := 2) rfl; have z0 := h5.l9.cell (j := 0) rfl; have z1 := h5.l9.cell (j := 1) rfl; have z2 := h5.l9.cell (j := 2) rfl; go_simp; first | done | with_reducible rfl | (go_at_call 13; refine (lawAliveA _).mono ?_; rintro e w6 ⟨rfl, hb6⟩; exact ⟨rfl, h5.next hb6⟩) | (go_at_call 14; refine (rfLikeS h5.a7 h5.a9).mono ?_; rintro e w6 ⟨rfl, hb6⟩; exact ⟨rfl, h5.next hb6⟩) | (go_at_call 15; refine (HQ.out ▸ ckRight h5.a4).mono ?_; rintro e w6 ⟨rfl, hb6⟩; exact ⟨rfl, h5.next hb6⟩) | (go_at_call 12; refine (HQ.out ▸ rfRightS h5.a4).mono ?_; rintro e w6 ⟨rfl, hb6⟩; exact ⟨rfl, h5.next hb6⟩) | (go_at_call 16; refine (HRM.out ▸ ckRoom h5.a4 input).mono ?_; rintro e w6 ⟨rfl, hb6⟩; exact ⟨rfl, h5.next hb6⟩))
               (try simp only [Act.put, List.setIfInBounds_toArray, List.set_cons_zero, List.set_cons_succ])
               go_big_quiet_on))
          refine wpQuiet_nil ?_
          intro w6 h6
          have H6 := Lib.hid h6
          clear h6
          go_wp2_with fail
          go_ret
          exact ⟨by first | rfl | simp, H6.out.below⟩
        · have g2 : decide (input < (ng : Int)) = true := decide_eq_true (by omega)
          obtain ⟨j, hj⟩ : ∃ j : Nat, input = (j : Int) := ⟨input.toNat, by omega⟩
          subst hj
          have hjn : j < ng := by omega
          have g3 : decide (j < ng) = true := decide_eq_true hjn
          have HOK := (ok_iff a).1 HQ.out.symm
          have hnh : nh = ng := by rw [HRAW.out.lnh, HRAW.out.lng]; exact HOK.hl
          obtain ⟨⟨A, c, l⟩, hx⟩ : ∃ x, hs[j]? = some x := ⟨_, List.getElem?_eq_getElem (by rw [hs_len HRAW.out.map, ← HRAW.out.lnh, hnh]; exact hjn)⟩
          have hlk : a.held[j]? = some l := by rw [← HRAW.out.map, List.getElem?_map, hx]; rfl
          have hl16 : l.length ≤ 16 := ok_held HOK l (List.mem_of_getElem? hlk)
          have HRM0 := room_is HQ.out.symm (by rw [← HRAW.out.lng]; exact hjn) hlk
          obtain ⟨qh, offh, hH1, d0⟩ := head_row (HRAW.out.hh.row.below M6.out.below) hx
          subst hH1
          simp only at d0
          obtain ⟨m, hm⟩ : ∃ m, m = l.length := ⟨_, rfl⟩
          rw [← hm] at d0 HRM0 hl16
          have hjh : (j : Int) < (nh : Int) := by omega
          have hwm : IntKind.i64.wrap (16 - (m : Int)) = 16 - (m : Int) := wrapA (by omega) (by omega)
          have HRM : Hid (roomO a (j : Int) = 16 - (m : Int)) := Lib.hid HRM0
          have x2 := M6.out.l4.cell (j := 2) rfl
          clear hi0 hi1 hjn hx hlk hl16 HRM0 hm HOK hnh
          go_upto_region 8 with fail
          clear x1 x2 d0
          have W0 := Lib.hid (M6.out.next (below_drewOf (Below.refl w6.heap.size w6)))
          refine wide_all (MkAt w b4 b7 b9 a o ng nh G cG (some ⟨qh, offh, none⟩) cH n1 G1 cG1 H1 cH1 n2 G2 cG2 H2 cH2) (by kernel_rfl) (by kernel_rfl) W0.out ?_
          (try simp only [List.append_eq, List.cons_append, List.nil_append])
          repeat (first
            | go_big_quiet_skip
            | (go_big_quiet_want
               apply wide_op
               · (intro w5 h5; have x0 := h5.l4.cell (j := 0) rfl; have x1 := h5.l4.cell (j := 1) rfl; have x2 := h5.l4.cell (j := 2) rfl; have y0 := h5.l7.cell (j := 0) rfl; have y1 := h5.l7.cell (j := 1) rfl; have y2 := h5.l7.cell (j := 2) rfl; have z0 := h5.l9.cell (j := 0) rfl; have z1 := h5.l9.cell (j := 1) rfl; have z2 := h5.l9.cell (j := 2) rfl; go_simp; first | done | with_reducible rfl | (go_at_call 13; refine (lawAliveA _).mono ?_; rintro e w6 ⟨rfl, hb6⟩; exact ⟨rfl, h5.next hb6⟩) | (go_at_call 14; refine (rfLikeS h5.a7 h5.a9).mono ?_; rintro e w6 ⟨rfl, hb6⟩; exact ⟨rfl, h5.next hb6⟩) | (go_at_call 15; refine (HQ.out ▸ ckRight h5.a4).mono ?_; rintro e w6 ⟨rfl, hb6⟩; exact ⟨rfl, h5.next hb6⟩) | (go_at_call 12; refine (HQ.out ▸ rfRightS h5.a4).mono ?_; rintro e w6 ⟨rfl, hb6⟩; exact ⟨rfl, h5.next hb6⟩) | (go_at_call 16; refine (HRM.out ▸ ckRoom h5.a4 (j : Int)).mono ?_; rintro e w6 ⟨rfl, hb6⟩; exact ⟨rfl, h5.next hb6⟩))
               (try simp only [Act.put, List.setIfInBounds_toArray, List.set_cons_zero, List.set_cons_succ])
               go_big_quiet_on))
          refine wpQuiet_nil ?_
          intro w6 h6
          have H6 := Lib.hid h6
          clear h6
          go_wp2_with fail
          go_ret
          exact ⟨by first | rfl | simp, H6.out.below⟩
/-- The blocks of AlignOffers. -/
structure OoAt (w0 : World) (b7 b12 : Nat) (o : An) (n1 l1 : Nat) (G1 : Option Addr) (cG1 : Nat) (H1 : Option Addr) (cH1 : Nat) (L1 : Option Addr) (cL1 : Nat) (n2 l2 : Nat) (G2 : Option Addr) (cG2 : Nat) (H2 : Option Addr) (cH2 : Nat) (L2 : Option Addr) (cL2 : Nat) (w : World) : Prop where
  l7 : Lies b7 (alC o.a.n G1 n1 cG1 H1 n1 cH1) 25 w
  l12 : Lies b12 (anC o.a.n G2 n2 cG2 H2 n2 cH2 o.pass o.done L2 l2 cL2 o.e) 47 w
  a7 : AlAt w o.a n1 n1 G1 cG1 H1 cH1
  a12 : AlAt w o.a n2 n2 G2 cG2 H2 cH2
  t7 : LtAt w o.late l1 L1 cL1
  t12 : LtAt w o.late l2 L2 cL2
  below : Below w0.heap.size w0 w
theorem OoAt.next {w0 : World} {b7 b12 : Nat} {o : An} {n1 l1 : Nat} {G1 : Option Addr} {cG1 : Nat} {H1 : Option Addr} {cH1 : Nat} {L1 : Option Addr} {cL1 : Nat} {n2 l2 : Nat} {G2 : Option Addr} {cG2 : Nat} {H2 : Option Addr} {cH2 : Nat} {L2 : Option Addr} {cL2 : Nat} {w w' : World}
    (h : OoAt w0 b7 b12 o n1 l1 G1 cG1 H1 cH1 L1 cL1 n2 l2 G2 cG2 H2 cH2 L2 cL2 w) (hb : Below w.heap.size w w') : OoAt w0 b7 b12 o n1 l1 G1 cG1 H1 cH1 L1 cL1 n2 l2 G2 cG2 H2 cH2 L2 cL2 w' :=
  ⟨h.l7.below hb, h.l12.below hb, h.a7.below hb, h.a12.below hb, h.t7.below hb, h.t12.below hb, below_next h.below hb⟩
set_option maxRecDepth 100000 in
set_option maxHeartbeats 4000000 in
theorem walkOffers {w : World} {a : Al} {ng nh : Nat} {G : Option Addr} {cG : Nat} {H : Option Addr} {cH : Nat} {hs : List Hd} (h : RawAt w a ng nh G cG H cH hs) (hlen : nh ≤ 9223372036854775807) (input : Int) (i : It) :
    Calls Try.prog 4 #[alV a.n G ng cG H nh cH, .int .i64 input, itV i] w (TellsB true w) := by
  obtain ⟨r, hr⟩ : ∃ r, r = smallO ng nh hs := ⟨_, rfl⟩
  have HSM := Lib.hid (fun w' (hb : Below w.heap.size w w') => lawSmallA (h.below hb) hlen r hr)
  have HAL : Hid (r = true → AlAt w a ng nh G cG H cH) := Lib.hid (fun e => ⟨hs, h, small_iff.1 (hr.symm.trans e)⟩)
  have HB := Lib.hid (below_al (o := .cells (itC i) 42) (below_al (o := .cells (alC a.n G ng cG H nh cH) 25) (Below.refl w.heap.size w)))
  have L3 := Lib.hid ((Lies.new w (alC a.n G ng cG H nh cH) 25).al (o := .cells (itC i) 42))
  have L5 := Lib.hid (Gen.lies_new1 w (.cells (alC a.n G ng cG H nh cH) 25) (itC i) 42)
  clear h hr hlen
  go_enter Try.func4, Try.ntmps4
  go_upto_region 1 with fail
  obtain ⟨b5, hb5⟩ : ∃ b, b = w.heap.size + 1 := ⟨_, rfl⟩
  obtain ⟨b3, hb3⟩ : ∃ b, b = w.heap.size := ⟨_, rfl⟩
  obtain ⟨W, hW⟩ : ∃ W, W = (w.alloc (.cells (alC a.n G ng cG H nh cH) 25)).alloc (.cells (itC i) 42) := ⟨_, rfl⟩
  rw [← hW] at L3 L5 HB ⊢
  rw [← hb5, ← hb3] at ⊢
  rw [← hb3] at L3
  rw [← hb5] at L5
  clear hW hb3 hb5
  have x0 := L3.out.cell (j := 0) rfl; have x1 := L3.out.cell (j := 1) rfl; have x2 := L3.out.cell (j := 2) rfl
  go_wp2_with fail
  refine (HSM.out _ HB.out).mono ?_
  rintro e w1 ⟨rfl, hb1⟩
  have HB1 := Lib.hid (below_next HB.out hb1)
  have M3 := Lib.hid (L3.out.below hb1)
  have M5 := Lib.hid (L5.out.below hb1)
  clear hb1 x0 x1 x2 L3 L5 HB HSM
  cases r
  · go_wp2_with fail
    go_ret
    exact ⟨rfl, HB1.out⟩
  · have A1 := Lib.hid ((HAL.out (by trivial)).below HB1.out)
    obtain ⟨o, ho⟩ : ∃ o, o = offerA a input i 190 := ⟨_, rfl⟩
    have HC1 := Lib.hid (ckOffer A1.out input i)
    have HC2 := Lib.hid (fun w' (h : AlAt w' a ng nh G cG H cH) => rfOfferS h input i)
    rw [← ho] at HC1 HC2
    have HLB : Hid (o.late.length ≤ 100000) := Lib.hid (by have := (offer_bounds a input i 190).2.2.2; rw [ho]; omega)
    clear ho HAL
    have x0 := M3.out.cell (j := 0) rfl; have x1 := M3.out.cell (j := 1) rfl; have x2 := M3.out.cell (j := 2) rfl
    have i00 := M5.out.cell (j := 0) rfl; have i01 := M5.out.cell (j := 1) rfl; have i02 := M5.out.cell (j := 2) rfl; have i03 := M5.out.cell (j := 3) rfl; have i04 := M5.out.cell (j := 4) rfl; have i05 := M5.out.cell (j := 5) rfl; have i06 := M5.out.cell (j := 6) rfl; have i07 := M5.out.cell (j := 7) rfl; have i08 := M5.out.cell (j := 8) rfl; have i09 := M5.out.cell (j := 9) rfl; have i10 := M5.out.cell (j := 10) rfl
    go_wp2_with fail
    refine HC1.out.mono ?_
    rintro e w2 ⟨n1, l1, G1, cG1, H1, cH1, L1, cL1, rfl, ha1, ht1, hb2⟩
    go_upto_region 4 with fail
    have hb3 := below_next hb2 (below_al (o := .cells (alC o.a.n G1 n1 cG1 H1 n1 cH1) 25) (Below.refl w2.heap.size w2))
    have hb9 := below_al (o := .cells (alC o.a.n G1 n1 cG1 H1 n1 cH1) 25) (Below.refl w2.heap.size w2)
    have HB3 := Lib.hid (below_next HB1.out hb3)
    have N3 := Lib.hid (M3.out.below hb3)
    have N5 := Lib.hid (M5.out.below hb3)
    have A3 := Lib.hid (A1.out.below hb3)
    have L7 := Lib.hid (Lies.new w2 (alC o.a.n G1 n1 cG1 H1 n1 cH1) 25)
    have A7 := Lib.hid (ha1.below hb9)
    have T7 := Lib.hid (ht1.below hb9)
    obtain ⟨b7, hb7⟩ : ∃ b, b = w2.heap.size := ⟨_, rfl⟩
    obtain ⟨W3, hW3⟩ : ∃ W, W = w2.alloc (.cells (alC o.a.n G1 n1 cG1 H1 n1 cH1) 25) := ⟨_, rfl⟩
    rw [← hW3] at HB3 N3 N5 A3 L7 A7 T7 ⊢
    rw [← hb7] at L7 ⊢
    clear hW3 hb7 hb2 hb3 hb9 ha1 ht1 HB1 M3 M5 A1 HC1 x0 x1 x2 i00 i01 i02 i03 i04 i05 i06 i07 i08 i09 i10
    have x0 := N3.out.cell (j := 0) rfl; have x1 := N3.out.cell (j := 1) rfl; have x2 := N3.out.cell (j := 2) rfl
    have i00 := N5.out.cell (j := 0) rfl; have i01 := N5.out.cell (j := 1) rfl; have i02 := N5.out.cell (j := 2) rfl; have i03 := N5.out.cell (j := 3) rfl; have i04 := N5.out.cell (j := 4) rfl; have i05 := N5.out.cell (j := 5) rfl; have i06 := N5.out.cell (j := 6) rfl; have i07 := N5.out.cell (j := 7) rfl; have i08 := N5.out.cell (j := 8) rfl; have i09 := N5.out.cell (j := 9) rfl; have i10 := N5.out.cell (j := 10) rfl
    go_wp2_with fail
    refine (HC2.out _ A3.out).mono ?_
    rintro e w4 ⟨n2, l2, G2, cG2, H2, cH2, L2, cL2, rfl, ha2, ht2, hb4⟩
    go_upto_region 5 with fail
    have hb5 := below_next hb4 (below_al (o := .cells (anC o.a.n G2 n2 cG2 H2 n2 cH2 o.pass o.done L2 l2 cL2 o.e) 47) (Below.refl w4.heap.size w4))
    have hb9 := below_al (o := .cells (anC o.a.n G2 n2 cG2 H2 n2 cH2 o.pass o.done L2 l2 cL2 o.e) 47) (Below.refl w4.heap.size w4)
    have MK : Hid (OoAt w b7 w4.heap.size o n1 l1 G1 cG1 H1 cH1 L1 cL1 n2 l2 G2 cG2 H2 cH2 L2 cL2 (w4.alloc (.cells (anC o.a.n G2 n2 cG2 H2 n2 cH2 o.pass o.done L2 l2 cL2 o.e) 47))) := Lib.hid
      ⟨L7.out.below hb5, Lies.new w4 _ _, A7.out.below hb5, ha2.below hb9, T7.out.below hb5, ht2.below hb9, below_next HB3.out hb5⟩
    obtain ⟨b12, hb12⟩ : ∃ b, b = w4.heap.size := ⟨_, rfl⟩
    obtain ⟨W5, hW5⟩ : ∃ W, W = w4.alloc (.cells (anC o.a.n G2 n2 cG2 H2 n2 cH2 o.pass o.done L2 l2 cL2 o.e) 47) := ⟨_, rfl⟩
    rw [← hW5] at MK ⊢
    rw [← hb12] at MK ⊢
    clear hW5 hb12 hb4 hb5 hb9 ha2 ht2 HB3 L7 A3 A7 T7 N3 N5 HC2 x0 x1 x2 i00 i01 i02 i03 i04 i05 i06 i07 i08 i09 i10
    obtain ⟨oa, op, od, ol, oe⟩ := o
    have hd1 : (od == od) = true := eq_b rfl
    have he1 : (oe == oe) = true := eq_b rfl
    simp only at MK HLB
    go_wp2_with fail
    refine (lawAliveA _).mono ?_
    rintro e w6 ⟨rfl, hb6⟩
    have M6 := Lib.hid (MK.out.next hb6)
    clear hb6 MK
    have y0 := M6.out.l7.cell (j := 0) rfl; have y1 := M6.out.l7.cell (j := 1) rfl; have y2 := M6.out.l7.cell (j := 2) rfl
    have u0 := M6.out.l12.cell (j := 0) rfl; have u1 := M6.out.l12.cell (j := 1) rfl; have u2 := M6.out.l12.cell (j := 2) rfl
    go_wp2_with fail
    refine (rfLikeS M6.out.a7 M6.out.a12).mono ?_
    rintro e w7 ⟨rfl, hb7⟩
    have M7 := Lib.hid (M6.out.next hb7)
    clear hb7 M6 y0 y1 y2 u0 u1 u2
    have u3 := M7.out.l12.cell (j := 3) rfl; have u4 := M7.out.l12.cell (j := 4) rfl; have u5 := M7.out.l12.cell (j := 5) rfl
    go_wp2_with fail
    refine (rfLateS M7.out.t7 M7.out.t12 HLB.out).mono ?_
    rintro e w8 ⟨rfl, hb8⟩
    have M8 := Lib.hid (M7.out.next hb8)
    clear hb8 M7 u3 u4 u5
    have u6 := M8.out.l12.cell (j := 6) rfl
    go_wp2_with fail
    go_ret
    exact ⟨by first | rfl | simp, M8.out.below⟩
end Aln
end Go.Proofs.Ytgbklmncfajcgaa
