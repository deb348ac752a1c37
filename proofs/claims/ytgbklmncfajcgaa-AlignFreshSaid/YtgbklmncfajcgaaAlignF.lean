/- The walks of AlignFresh, AlignOne, AlignHolds. -/
import Derived.Test.YtgbklmncfajcgaaAlignA
import Derived.Test.YtgbklmncfajcgaaAlignM
namespace Go.Proofs.Ytgbklmncfajcgaa
open Go.ChangeShapes Go.WideShapes Go.ChangeAt Go.RowKit
set_option linter.unusedVariables false
set_option maxRecDepth 8000
namespace Aln
open Gen (TellsB TellsI row_one flat_len flat_get)
open Itm
abbrev barIt (n : Int) : It := ⟨4, ⟨#[]⟩, 0, 0, 0, n, 0, 0, ⟨#[]⟩, 0, 0⟩
/-- The blocks of AlignFresh while it puts together what waited. -/
structure WtAt (w0 : World) (b3 : Nat) (C : Array Value) (v : Value) (nl : Nat) (ls : List Lt) (w : World) : Prop where
  l3 : Lies b3 C 25 w
  late : w.ownsRow (b3 + 1) 58 12 v nl (ltc ls)
  lo : w0.heap.size ≤ b3
  size : b3 + 1 ≤ w.heap.size
  below : Below w0.heap.size w0 w
theorem WtAt.next {w0 : World} {b3 : Nat} {C : Array Value} {v : Value} {nl : Nat} {ls : List Lt} {a b : World} (h : WtAt w0 b3 C v nl ls a) (hb : Below a.heap.size a b) : WtAt w0 b3 C v nl ls b :=
  ⟨h.l3.below hb, own_upA h.late hb, h.lo, Nat.le_trans h.size hb.size, below_next h.below hb⟩
theorem WtAt.push {w0 : World} {b3 : Nat} {C : Array Value} {v v' : Value} {nl : Nat} {ls : List Lt} {y : Lt} {a b : World} (h : WtAt w0 b3 C v nl ls a) (hg : a.grownBy b v.ownBlock) (ho : b.ownsRow (b3 + 1) 58 12 v' (nl + 1) (ltc (ls ++ [y]))) : WtAt w0 b3 C v' (nl + 1) (ls ++ [y]) b := by
  have hf : ∀ q, v.ownBlock = some q → b3 + 1 ≤ q := fun q hq => (h.late.lt q hq).1
  have h1 := h.lo
  have h2 := h.size
  exact ⟨lies_grownA h.l3 hg fun e => by have := hf _ e; omega, ho, h.lo, Nat.le_trans h.size hg.size, h.below.grown hg (by omega) fun q hq => by have := hf q hq; omega⟩
set_option maxRecDepth 100000 in
set_option maxHeartbeats 4000000 in
theorem walkFresh {w : World} {a : Al} {ng nh : Nat} {G : Option Addr} {cG : Nat} {H : Option Addr} {cH : Nat} {hs : List Hd} (h : RawAt w a ng nh G cG H cH hs) (hlen : nh ≤ 9223372036854775807) (input n : Int) :
    Calls Try.prog 8 #[alV a.n G ng cG H nh cH, .int .i64 input, .int .i64 n] w (TellsB true w) := by
  obtain ⟨r, hr⟩ : ∃ r, r = smallO ng nh hs := ⟨_, rfl⟩
  have HSM := Lib.hid (fun w' (hb : Below w.heap.size w w') => lawSmallA (h.below hb) hlen r hr)
  have HAL : Hid (r = true → AlAt w a ng nh G cG H cH) := Lib.hid (fun e => ⟨hs, h, small_iff.1 (hr.symm.trans e)⟩)
  have HSB : Hid (r = true → nh ≤ 20 ∧ ∀ x ∈ hs, x.2.2.length ≤ 100) := Lib.hid (fun e => ⟨(small_iff.1 (hr.symm.trans e)).h, (small_iff.1 (hr.symm.trans e)).each⟩)
  have W0 : Hid (WtAt w w.heap.size (alC a.n G ng cG H nh cH) (.slice none 0 0) 0 [] (w.alloc (.cells (alC a.n G ng cG H nh cH) 25))) := Lib.hid ⟨Lies.new w _ _, own_none, Nat.le_refl _, by simp, below_al (Below.refl _ _)⟩
  have HRAW := Lib.hid h
  clear h hr hlen
  go_enter Try.func8, Try.ntmps8
  go_upto_region 1 with fail
  obtain ⟨b3, hb3⟩ : ∃ b, b = w.heap.size := ⟨_, rfl⟩
  obtain ⟨W, hW⟩ : ∃ W, W = w.alloc (.cells (alC a.n G ng cG H nh cH) 25) := ⟨_, rfl⟩
  rw [← hW] at W0 ⊢
  rw [← hb3] at W0 ⊢
  clear hW hb3
  have x0 := W0.out.l3.cell (j := 0) rfl; have x1 := W0.out.l3.cell (j := 1) rfl; have x2 := W0.out.l3.cell (j := 2) rfl
  go_wp2_with fail
  refine (HSM.out _ W0.out.below).mono ?_
  rintro e w1 ⟨rfl, hb1⟩
  have W1 := Lib.hid (W0.out.next hb1)
  clear hb1 x0 x1 x2 W0 HSM
  cases r
  · go_wp2_with fail
    refine (lawAliveA _).mono ?_
    rintro e w2 ⟨rfl, hb2⟩
    have W2 := Lib.hid (W1.out.next hb2)
    clear hb2
    go_wp2_with fail
    go_ret
    exact ⟨rfl, W2.out.below⟩
  · have HA := Lib.hid (HAL.out (by trivial))
    have HS2 := Lib.hid (HSB.out (by trivial))
    obtain ⟨q, hq⟩ : ∃ q, q = rightA a := ⟨_, rfl⟩
    have HRT := Lib.hid (ckRight (HA.out.below W1.out.below))
    rw [← hq] at HRT
    have HQ := Lib.hid hq
    have x0 := W1.out.l3.cell (j := 0) rfl; have x1 := W1.out.l3.cell (j := 1) rfl; have x2 := W1.out.l3.cell (j := 2) rfl
    clear hq HAL HSB
    go_wp2_with fail
    refine HRT.out.mono ?_
    rintro e w2 ⟨rfl, hb2⟩
    have W2 := Lib.hid (W1.out.next hb2)
    clear hb2 x0 x1 x2 W1 HRT
    cases q
    · go_wp2_with fail
      refine (lawAliveA _).mono ?_
      rintro e w3 ⟨rfl, hb3⟩
      have W3 := Lib.hid (W2.out.next hb3)
      clear hb3
      go_wp2_with fail
      go_ret
      exact ⟨rfl, W3.out.below⟩
    · go_wp2_with fail
      refine (lawAliveA _).mono ?_
      rintro e w3 ⟨rfl, hb3⟩
      have W3 := Lib.hid (W2.out.next hb3)
      clear hb3 W2
      have x2 := W3.out.l3.cell (j := 2) rfl
      go_wp2_with fail
      clear x2
      have HLN : Hid (hs.length = nh) := Lib.hid (by rw [HRAW.out.lnh, ← HRAW.out.map, List.length_map])
      go_loopw [7, 35] (fun s7 s35 wr => ∃ (k nl : Nat) (v : Value) (ls : List Lt), s7 = v ∧ s35 = .int .i64 k ∧ k ≤ nh ∧ ls = lateOf 0 (a.held.take k) ∧ nl = ls.length ∧ nl ≤ 100 * k ∧ WtAt w b3 (alC a.n G ng cG H nh cH) v nl ls wr) (fun _ s35 _ => nh - (intOf s35).toNat)
      case atStart => exact ⟨0, 0, _, [], rfl, rfl, Nat.zero_le _, rfl, rfl, Nat.zero_le _, W3.out⟩
      case round =>
        clear W3
        obtain ⟨k, nl, v, ls, hv, rfl, hk, hls, hnl, hnk, hat⟩ := hrel
        have hv2 := hv.symm
        clear hv
        subst hv2
        have AT := Lib.hid hat
        have HLS := Lib.hid hls
        have HNL := Lib.hid hnl
        have HNK := Lib.hid hnk
        clear hat hls hnl hnk
        by_cases hlt : k < nh
        · obtain ⟨⟨A3, c3, l3⟩, hx⟩ : ∃ x, hs[k]? = some x := ⟨_, List.getElem?_eq_getElem (by rw [HLN.out]; exact hlt)⟩
          obtain ⟨qh, offh, hH1, d0⟩ := head_row (HRAW.out.hh.row.below AT.out.below) hx
          subst hH1
          have HLK3 : Hid (a.held[k]? = some l3) := Lib.hid (by rw [← HRAW.out.map, List.getElem?_map, hx]; rfl)
          have HROW := Lib.hid (HRAW.out.hh.each _ (List.mem_of_getElem? hx))
          have hki : (k : Int) < (nh : Int) := by omega
          have hw := wrapKA (k := k) (by have := HS2.out.1; omega)
          have HKM := Lib.hid hlt
          simp only at d0 HROW
          obtain ⟨m, hm⟩ : ∃ m, m = l3.length := ⟨_, rfl⟩
          rw [← hm] at d0
          have HML := Lib.hid hm
          have HM100 : Hid (m ≤ 100) := Lib.hid (by rw [hm]; exact HS2.out.2 _ (List.mem_of_getElem? hx))
          clear hx hlt hk hm
          obtain ⟨wo, hwo⟩ : ∃ wo, wo = wr := ⟨_, rfl⟩
          subst hwo
          go_wp2_with fail
          clear d0
          have A0 := Lib.hid AT.out
          clear AT
          go_loopw [7, 42] (fun s7 s42 wr => ∃ (t nl' : Nat) (v' : Value) (ls' : List Lt), s7 = v' ∧ s42 = .int .i64 t ∧ t ≤ m ∧ ls' = ls ++ (l3.take t).map (fun x => ((k : Int), x)) ∧ nl' = ls'.length ∧ nl' = nl + t ∧ WtAt w b3 (alC a.n G ng cG (some ⟨qh, offh, none⟩) nh cH) v' nl' ls' wr) (fun _ s42 _ => m - (intOf s42).toNat)
          case atStart => exact ⟨0, nl, v, ls, rfl, rfl, Nat.zero_le _, by simp, HNL.out, rfl, A0.out⟩
          case round =>
            clear A0
            obtain ⟨t, nl', v', ls', hv, rfl, ht, hls, hnl, hnt, hat⟩ := hrel
            have hv2 := hv.symm
            clear hv
            subst hv2
            have AT := Lib.hid hat
            have HLS2 := Lib.hid hls
            have HNL2 := Lib.hid hnl
            have HNT2 := Lib.hid hnt
            clear hat hls hnl hnt
            by_cases htm : t < m
            · obtain ⟨y, hy⟩ : ∃ y, l3[t]? = some y := ⟨_, List.getElem?_eq_getElem (by rw [← HML.out]; exact htm)⟩
              obtain ⟨q2, off2, hA2, e0⟩ := item_row (HROW.out.below AT.out.below) hy
              subst hA2
              have hti : (t : Int) < (m : Int) := by omega
              have hwt := wrapKA (k := t) (by have := HM100.out; omega)
              have HTM := Lib.hid htm
              have HNX : Hid (ls' ++ [((k : Int), y)] = ls ++ (l3.take (t + 1)).map (fun x => ((k : Int), x))) := Lib.hid (by rw [HLS2.out, List.take_add_one, hy, List.map_append, List.append_assoc]; rfl)
              have e00 := e0 0 _ rfl; have e01 := e0 1 _ rfl; have e02 := e0 2 _ rfl; have e03 := e0 3 _ rfl; have e04 := e0 4 _ rfl; have e05 := e0 5 _ rfl; have e06 := e0 6 _ rfl; have e07 := e0 7 _ rfl; have e08 := e0 8 _ rfl; have e09 := e0 9 _ rfl; have e10 := e0 10 _ rfl
              rw [Nat.add_zero] at e00
              clear hy e0 htm ht
              go_upto_region 10 with fail
              clear e00 e01 e02 e03 e04 e05 e06 e07 e08 e09 e10
              have hb6 := below_al (o := .cells (itC y) 42) (Below.refl wr.heap.size wr)
              have A6 := Lib.hid (AT.out.next hb6)
              have LY := Lib.hid (Lies.new wr (itC y) 42)
              obtain ⟨by6, hby6⟩ : ∃ b, b = wr.heap.size := ⟨_, rfl⟩
              obtain ⟨W6, hW6⟩ : ∃ W, W = wr.alloc (.cells (itC y) 42) := ⟨_, rfl⟩
              rw [← hW6] at A6 LY ⊢
              rw [← hby6] at LY ⊢
              clear hW6 hby6 hb6 AT
              have y00 := LY.out.cell (j := 0) rfl; have y01 := LY.out.cell (j := 1) rfl; have y02 := LY.out.cell (j := 2) rfl; have y03 := LY.out.cell (j := 3) rfl; have y04 := LY.out.cell (j := 4) rfl; have y05 := LY.out.cell (j := 5) rfl; have y06 := LY.out.cell (j := 6) rfl; have y07 := LY.out.cell (j := 7) rfl; have y08 := LY.out.cell (j := 8) rfl; have y09 := LY.out.cell (j := 9) rfl; have y10 := LY.out.cell (j := 10) rfl
              go_wp2_with (at_builtin; refine hold_mk ?_)
              refine hold_out ?_
              have hb7 := below_al (o := .cells (ltC ((k : Int), y)) 58) (Below.refl W6.heap.size W6)
              have A7 := Lib.hid (A6.out.next hb7)
              have hro := one_rowT W6 ((k : Int), y)
              refine wpPushT rfl _ _ rfl v' ls' rfl HNL2.out A7.out.late A7.out.size _ 1 ((k : Int), y) rfl hro (by have := HTM.out; have := HM100.out; have := HNT2.out; have := HNK.out; have := HKM.out; have := HS2.out.1; omega) ?_
              intro v9 w9 bt9 hg9
              have A9 := Lib.hid (A7.out.push hg9 bt9)
              clear bt9 hg9 hro hb7 A6 A7 LY y00 y01 y02 y03 y04 y05 y06 y07 y08 y09 y10
              go_wp2_with fail
              go_roundw
              case rel => exact ⟨t + 1, nl' + 1, v9, ls' ++ [((k : Int), y)], rfl, rfl, HTM.out, HNX.out, by rw [List.length_append, ← HNL2.out]; rfl, by have := HNT2.out; omega, A9.out⟩
              case measure => simp [intOf]; have := HTM.out; omega
            · have htm2 : ¬ (t : Int) < (m : Int) := by omega
              have htm3 : t = m := by omega
              subst htm3
              have HLF : Hid (ls' = lateOf 0 (a.held.take (k + 1))) := Lib.hid (by rw [HLS2.out, late_take HLK3.out, ← HLS.out, List.take_of_length_le (by rw [← HML.out]; exact Nat.le_refl _)])
              have HNF : Hid (nl' ≤ 100 * (k + 1)) := Lib.hid (by have := HNT2.out; have := HNK.out; have := HM100.out; omega)
              clear ht htm
              go_wp2_with fail
              go_roundw
              case rel => exact ⟨k + 1, nl', v', ls', rfl, rfl, HKM.out, HLF.out, HNL2.out, HNF.out, AT.out⟩
              case measure => simp [intOf]; have := HKM.out; omega
        · have hki : ¬ (k : Int) < (nh : Int) := by omega
          have hkn : k = nh := by omega
          subst hkn
          have HWANT : Hid (ls = lateOf 0 a.held) := Lib.hid (by rw [HLS.out, List.take_of_length_le (by rw [← HRAW.out.lnh]; exact Nat.le_refl _)])
          obtain ⟨AL, cL, rfl, hcL, _⟩ := own_form AT.out.late (by omega)
          have HT0 := Lib.hid (show LtAt wr ls nl AL cL from ⟨HNL.out, (own_rowT AT.out.late).1, hcL⟩)
          have HNB : Hid (ls.length ≤ 100000) := Lib.hid (by rw [← HNL.out]; have := HNK.out; have := HS2.out.1; omega)
          clear hlt hk hcL
          have x0 := AT.out.l3.cell (j := 0) rfl
          obtain ⟨N, hN⟩ : ∃ N, N = if 0 < a.n then a.n else n := ⟨_, rfl⟩
          have hway : (decide (0 < a.n) = true ∧ N = a.n) ∨ (decide (0 < a.n) = false ∧ n = N) := by
            by_cases h : 0 < a.n
            · left; exact ⟨decide_eq_true h, by rw [hN, if_pos h]⟩
            · right; exact ⟨decide_eq_false h, by rw [hN, if_neg h]⟩
          clear hN
          obtain ⟨o, ho⟩ : ∃ o, o = offerA a input (barIt N) 190 := ⟨_, rfl⟩
          have HOF := Lib.hid (ckOffer (HA.out.below AT.out.below) input (barIt N))
          rw [← ho] at HOF
          have HDO : Hid ((o.done = 0 ∧ o.late = []) ∨ (o.done ≠ 0 ∧ o = ⟨anew a.got.length, false, N, lateOf 0 a.held, 0⟩ ∧ OkA a)) := Lib.hid (by rw [ho]; exact done_or a input (barIt N) 190)
          clear ho
          have x1 := AT.out.l3.cell (j := 1) rfl; have x2 := AT.out.l3.cell (j := 2) rfl
          rcases hway with ⟨g1, hNa⟩ | ⟨g1, hNn⟩
          · subst hNa
            skip
            go_wp2_with fail
            refine HOF.out.mono ?_
            rintro e w4 ⟨n1, l1, G1, cG1, H1, cH1, L1, cL1, rfl, ha1, ht1, hb4⟩
            go_upto_region 16 with fail
            have hb5 := below_next hb4 (below_al (o := .cells (alC o.a.n G1 n1 cG1 H1 n1 cH1) 25) (Below.refl w4.heap.size w4))
            have hb9 := below_al (o := .cells (alC o.a.n G1 n1 cG1 H1 n1 cH1) 25) (Below.refl w4.heap.size w4)
            have B5 := Lib.hid (AT.out.next hb5)
            have L12 := Lib.hid (Lies.new w4 (alC o.a.n G1 n1 cG1 H1 n1 cH1) 25)
            have A12 := Lib.hid (ha1.below hb9)
            have T12 := Lib.hid (ht1.below hb9)
            have T0 := Lib.hid (HT0.out.below hb5)
            obtain ⟨b12, hb12⟩ : ∃ b, b = w4.heap.size := ⟨_, rfl⟩
            obtain ⟨W5, hW5⟩ : ∃ W, W = w4.alloc (.cells (alC o.a.n G1 n1 cG1 H1 n1 cH1) 25) := ⟨_, rfl⟩
            rw [← hW5] at B5 L12 A12 T12 T0 ⊢
            rw [← hb12] at L12 ⊢
            clear hW5 hb12 hb4 hb5 hb9 ha1 ht1 x0 x1 x2 AT HOF HT0
            obtain ⟨oa, op, od, ol, oe⟩ := o
            simp only at L12 A12 T12 HDO
            rcases HDO.out with ⟨hd, hl⟩ | ⟨hd, ho, hok⟩
            · subst hd hl
              have hl1 : l1 = 0 := T12.out.ln
              subst hl1
              by_cases he : oe = 0
              · have g2 : (oe != 0) = false := nb0 he
                clear he
                go_wp2_with fail
                go_ret
                exact ⟨by first | rfl | simp, B5.out.below⟩
              · have g2 : (oe != 0) = true := nb he
                clear he
                go_wp2_with fail
                go_ret
                exact ⟨by first | rfl | simp, B5.out.below⟩
            · cases ho
              have g2 : (a.n == 0) = false := ne_b hd
              have hng : ng = a.got.length := HRAW.out.lng
              have hNW : newO (ng : Int) = (anew a.got.length, 0) := by
                unfold newO
                rw [if_neg (by have := hok.len; omega)]
                rw [hng]; rfl
              have HNC := Lib.hid (fun w' => ckNew (ng : Int) w')
              rw [hNW] at HNC
              have hdd : (a.n == a.n) = true := eq_b rfl
              clear hd hok hng hNW HDO
              have x1 := B5.out.l3.cell (j := 1) rfl
              go_wp2_with fail
              refine (HNC.out _).mono ?_
              rintro e w6 ⟨n2, G2, cG2, H2, cH2, rfl, ha2, hb6⟩
              go_upto_region 19 with fail
              have hb7 := below_next hb6 (below_al (o := .cells (alC (anew a.got.length).n G2 n2 cG2 H2 n2 cH2) 25) (Below.refl w6.heap.size w6))
              have hb9 := below_al (o := .cells (alC (anew a.got.length).n G2 n2 cG2 H2 n2 cH2) 25) (Below.refl w6.heap.size w6)
              have B7 := Lib.hid (B5.out.next hb7)
              have L13 := Lib.hid (L12.out.below hb7)
              have A13 := Lib.hid (A12.out.below hb7)
              have T13 := Lib.hid (T12.out.below hb7)
              have T1 := Lib.hid (T0.out.below hb7)
              have L17 := Lib.hid (Lies.new w6 (alC (anew a.got.length).n G2 n2 cG2 H2 n2 cH2) 25)
              have A17 := Lib.hid (ha2.below hb9)
              obtain ⟨b17, hb17⟩ : ∃ b, b = w6.heap.size := ⟨_, rfl⟩
              obtain ⟨W7, hW7⟩ : ∃ W, W = w6.alloc (.cells (alC (anew a.got.length).n G2 n2 cG2 H2 n2 cH2) 25) := ⟨_, rfl⟩
              rw [← hW7] at B7 L13 A13 T13 T1 L17 A17 ⊢
              rw [← hb17] at L17 ⊢
              clear hW7 hb17 hb6 hb7 hb9 ha2 x1 B5 L12 A12 T12 T0 HNC
              rw [← HWANT.out] at T13
              have y0 := L13.out.cell (j := 0) rfl; have y1 := L13.out.cell (j := 1) rfl; have y2 := L13.out.cell (j := 2) rfl
              have z0 := L17.out.cell (j := 0) rfl; have z1 := L17.out.cell (j := 1) rfl; have z2 := L17.out.cell (j := 2) rfl
              go_wp2_with fail
              refine (rfLikeS A13.out A17.out).mono ?_
              rintro e w8 ⟨rfl, hb8⟩
              have HL8 := Lib.hid (rfLateS (T13.out.below hb8) (T1.out.below hb8) HNB.out)
              have B8 := Lib.hid (B7.out.next hb8)
              clear hb8
              go_wp2_with fail
              refine HL8.out.mono ?_
              rintro e w9 ⟨rfl, hb9⟩
              have B9 := Lib.hid (B8.out.next hb9)
              clear hb9
              go_wp2_with fail
              go_ret
              exact ⟨by first | rfl | simp, B9.out.below⟩
          · subst hNn
            skip
            go_wp2_with fail
            refine HOF.out.mono ?_
            rintro e w4 ⟨n1, l1, G1, cG1, H1, cH1, L1, cL1, rfl, ha1, ht1, hb4⟩
            go_upto_region 16 with fail
            have hb5 := below_next hb4 (below_al (o := .cells (alC o.a.n G1 n1 cG1 H1 n1 cH1) 25) (Below.refl w4.heap.size w4))
            have hb9 := below_al (o := .cells (alC o.a.n G1 n1 cG1 H1 n1 cH1) 25) (Below.refl w4.heap.size w4)
            have B5 := Lib.hid (AT.out.next hb5)
            have L12 := Lib.hid (Lies.new w4 (alC o.a.n G1 n1 cG1 H1 n1 cH1) 25)
            have A12 := Lib.hid (ha1.below hb9)
            have T12 := Lib.hid (ht1.below hb9)
            have T0 := Lib.hid (HT0.out.below hb5)
            obtain ⟨b12, hb12⟩ : ∃ b, b = w4.heap.size := ⟨_, rfl⟩
            obtain ⟨W5, hW5⟩ : ∃ W, W = w4.alloc (.cells (alC o.a.n G1 n1 cG1 H1 n1 cH1) 25) := ⟨_, rfl⟩
            rw [← hW5] at B5 L12 A12 T12 T0 ⊢
            rw [← hb12] at L12 ⊢
            clear hW5 hb12 hb4 hb5 hb9 ha1 ht1 x0 x1 x2 AT HOF HT0
            obtain ⟨oa, op, od, ol, oe⟩ := o
            simp only at L12 A12 T12 HDO
            rcases HDO.out with ⟨hd, hl⟩ | ⟨hd, ho, hok⟩
            · subst hd hl
              have hl1 : l1 = 0 := T12.out.ln
              subst hl1
              by_cases he : oe = 0
              · have g2 : (oe != 0) = false := nb0 he
                clear he
                go_wp2_with fail
                go_ret
                exact ⟨by first | rfl | simp, B5.out.below⟩
              · have g2 : (oe != 0) = true := nb he
                clear he
                go_wp2_with fail
                go_ret
                exact ⟨by first | rfl | simp, B5.out.below⟩
            · cases ho
              have g2 : (n == 0) = false := ne_b hd
              have hng : ng = a.got.length := HRAW.out.lng
              have hNW : newO (ng : Int) = (anew a.got.length, 0) := by
                unfold newO
                rw [if_neg (by have := hok.len; omega)]
                rw [hng]; rfl
              have HNC := Lib.hid (fun w' => ckNew (ng : Int) w')
              rw [hNW] at HNC
              have hdd : (n == n) = true := eq_b rfl
              clear hd hok hng hNW HDO
              have x1 := B5.out.l3.cell (j := 1) rfl
              go_wp2_with fail
              refine (HNC.out _).mono ?_
              rintro e w6 ⟨n2, G2, cG2, H2, cH2, rfl, ha2, hb6⟩
              go_upto_region 19 with fail
              have hb7 := below_next hb6 (below_al (o := .cells (alC (anew a.got.length).n G2 n2 cG2 H2 n2 cH2) 25) (Below.refl w6.heap.size w6))
              have hb9 := below_al (o := .cells (alC (anew a.got.length).n G2 n2 cG2 H2 n2 cH2) 25) (Below.refl w6.heap.size w6)
              have B7 := Lib.hid (B5.out.next hb7)
              have L13 := Lib.hid (L12.out.below hb7)
              have A13 := Lib.hid (A12.out.below hb7)
              have T13 := Lib.hid (T12.out.below hb7)
              have T1 := Lib.hid (T0.out.below hb7)
              have L17 := Lib.hid (Lies.new w6 (alC (anew a.got.length).n G2 n2 cG2 H2 n2 cH2) 25)
              have A17 := Lib.hid (ha2.below hb9)
              obtain ⟨b17, hb17⟩ : ∃ b, b = w6.heap.size := ⟨_, rfl⟩
              obtain ⟨W7, hW7⟩ : ∃ W, W = w6.alloc (.cells (alC (anew a.got.length).n G2 n2 cG2 H2 n2 cH2) 25) := ⟨_, rfl⟩
              rw [← hW7] at B7 L13 A13 T13 T1 L17 A17 ⊢
              rw [← hb17] at L17 ⊢
              clear hW7 hb17 hb6 hb7 hb9 ha2 x1 B5 L12 A12 T12 T0 HNC
              rw [← HWANT.out] at T13
              have y0 := L13.out.cell (j := 0) rfl; have y1 := L13.out.cell (j := 1) rfl; have y2 := L13.out.cell (j := 2) rfl
              have z0 := L17.out.cell (j := 0) rfl; have z1 := L17.out.cell (j := 1) rfl; have z2 := L17.out.cell (j := 2) rfl
              go_wp2_with fail
              refine (rfLikeS A13.out A17.out).mono ?_
              rintro e w8 ⟨rfl, hb8⟩
              have HL8 := Lib.hid (rfLateS (T13.out.below hb8) (T1.out.below hb8) HNB.out)
              have B8 := Lib.hid (B7.out.next hb8)
              clear hb8
              go_wp2_with fail
              refine HL8.out.mono ?_
              rintro e w9 ⟨rfl, hb9⟩
              have B9 := Lib.hid (B8.out.next hb9)
              clear hb9
              go_wp2_with fail
              go_ret
              exact ⟨by first | rfl | simp, B9.out.below⟩
end Aln
end Go.Proofs.Ytgbklmncfajcgaa
