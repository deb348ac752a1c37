/- The code's Right, Room. -/
import Derived.Test.YtgbklmncfajcgaaAlignCd
namespace Go.Proofs.Ytgbklmncfajcgaa
open Go.ChangeShapes Go.WideShapes Go.ChangeAt Go.RowKit
set_option linter.unusedVariables false
set_option maxRecDepth 8000
namespace Aln
open Gen (TellsB TellsI row_one flat_len flat_get)
open Itm
theorem aw_iff {a : Al} : ((0 ≤ a.n ∧ a.n ≤ 1073741824) ∧ endOk a.n (trues a.got) a.got.length = true) ↔ awO a.n a.got = true := by
  have h1 : a.got.contains true = true ↔ 0 < trues a.got := by
    rw [List.contains_iff_mem]; unfold trues; exact List.count_pos_iff.symm
  have h2 : a.got.contains false = true ↔ trues a.got < a.got.length := by
    rw [List.contains_iff_mem]
    constructor
    · intro h
      rcases Nat.lt_or_ge (trues a.got) a.got.length with h3 | h3
      · exact h3
      · have h4 : a.got.count true = a.got.length := Nat.le_antisymm List.count_le_length h3
        rw [List.count_eq_length] at h4
        exact absurd (h4 false h) (by decide)
    · intro h
      rcases Classical.em (false ∈ a.got) with h3 | h3
      · exact h3
      · exfalso
        have h4 : a.got.count true = a.got.length := List.count_eq_length.2 fun b hb => by
          cases b
          · exact absurd hb h3
          · rfl
        unfold trues at h
        omega
  rw [end_iff]
  unfold awO
  by_cases h0 : a.n = 0
  · rw [if_pos h0]
    cases hc : a.got.contains true
    · have : ¬ 0 < trues a.got := fun h => by rw [h1.2 h] at hc; cases hc
      simp only [Bool.not_false, iff_true]
      exact ⟨by omega, .inl ⟨h0, by omega⟩⟩
    · have := h1.1 hc
      simp only [Bool.not_true, Bool.false_eq_true, iff_false]
      rintro ⟨_, h | h⟩ <;> omega
  · rw [if_neg h0, Bool.and_eq_true, Bool.and_eq_true, Bool.and_eq_true, decide_eq_true_eq, decide_eq_true_eq, h1, h2]
    constructor
    · rintro ⟨h3, h4 | h4⟩
      · exact absurd h4.1 h0
      · exact ⟨by omega, h3.2, h4.2⟩
    · rintro ⟨h3, h4, h5⟩
      exact ⟨⟨by omega, h4⟩, .inr ⟨by omega, h5⟩⟩
theorem right_asC (a : Al) (ng nh : Nat) (hng : ng = a.got.length) (hnh : nh = a.held.length) : rightA a = (countO ng && (decide (nh = ng) && (awO a.n a.got && (List.zip a.got a.held).all (fun p => slotOk p.1 p.2)))) := by
  rw [Bool.eq_iff_iff, ok_iff]
  unfold countO
  simp only [Bool.and_eq_true, decide_eq_true_eq]
  constructor
  · intro h
    exact ⟨⟨by have := h.len.1; omega, by have := h.len.2; omega⟩, by rw [hng, hnh]; exact h.hl, aw_iff.1 ⟨h.num, h.fin⟩, (zip_all h.hl).2 h.slot⟩
  · rintro ⟨⟨h1, h2⟩, h3, h4, h5⟩
    have h6 := aw_iff.2 h4
    have h7 : a.held.length = a.got.length := by omega
    exact ⟨⟨by omega, by omega⟩, h7, h6.1, (zip_all h7).1 h5, h6.2⟩
theorem slot_as (g : Bool) (l : List It) : slotOk g l = ((g || l.isEmpty) && itemsO l) := rfl
set_option maxRecDepth 100000 in
set_option maxHeartbeats 2000000 in
theorem ckRightH (a : Al) (hs : List Hd) (hh : hs.map (fun x => x.2.2) = a.held) (ng nh : Nat) (hng : ng = a.got.length) (hnh : nh = a.held.length) (r : Bool) (hr : r = rightA a) (G : Option Addr) (cG : Nat) (H : Option Addr) (cH : Nat) (w : World) (hG : Row w G (gcs a.got)) (hH : HAt w H hs) :
    Calls Try.prog 15 #[alV a.n G ng cG H nh cH] w (TellsB r w) := by
  have HB := Lib.hid (below_al (o := .cells (alC a.n G ng cG H nh cH) 25) (Below.refl w.heap.size w))
  have L := Lib.hid (Lies.new w (alC a.n G ng cG H nh cH) 25)
  have HG := Lib.hid hG
  have HH := Lib.hid hH
  obtain ⟨c1, hc1⟩ : ∃ c, c = countO (ng : Int) := ⟨_, rfl⟩
  have HC := Lib.hid (fun w' => ckCountA (ng : Int) w')
  rw [← hc1] at HC
  obtain ⟨q, hq⟩ : ∃ q, q = awO a.n a.got := ⟨_, rfl⟩
  have HR : Hid (r = (c1 && (decide (nh = ng) && (q && (List.zip a.got a.held).all (fun p => slotOk p.1 p.2))))) := Lib.hid (by rw [hr, hc1, hq]; exact right_asC a ng nh hng hnh)
  have HC1 := Lib.hid hc1
  have HQ := Lib.hid hq
  have HNG := Lib.hid hng
  have HNH := Lib.hid hnh
  have HHS := Lib.hid hh
  clear hG hH hh hng hnh hr hc1 hq
  go_enter Try.func15, Try.ntmps15
  go_upto_region 1 with fail
  obtain ⟨tb, htb⟩ : ∃ b, b = w.heap.size := ⟨_, rfl⟩
  obtain ⟨W, hW⟩ : ∃ W, W = w.alloc (.cells (alC a.n G ng cG H nh cH) 25) := ⟨_, rfl⟩
  rw [← hW] at L HB ⊢
  rw [← htb] at L ⊢
  clear hW htb
  have x0 := L.out.cell (j := 0) rfl; have x1 := L.out.cell (j := 1) rfl; have x2 := L.out.cell (j := 2) rfl
  go_wp2_with fail
  refine (HC.out _).mono ?_
  rintro e w1 ⟨rfl, rfl⟩
  cases c1
  · have e : r = false := HR.out
    subst e
    go_wp2_with fail
    go_ret
    exact ⟨rfl, HB.out⟩
  · have H8 : Hid (1 ≤ ng ∧ ng ≤ 8) := Lib.hid (by
      have := HC1.out.symm
      unfold countO at this
      simp only [Bool.and_eq_true, decide_eq_true_eq] at this
      omega)
    by_cases h1 : nh = ng
    · have HR2 : Hid (r = (q && (List.zip a.got a.held).all (fun p => slotOk p.1 p.2))) := Lib.hid (by rw [HR.out, decide_eq_true h1, Bool.true_and, Bool.true_and])
      subst h1
      have g1 : ((nh : Int) != (nh : Int)) = false := by simp
      have HAW := Lib.hid (fun w' hb => ckAwaited a.n a.got q HQ.out nh G cG HNG.out w' (HG.out.below hb) (by have := H8.out; omega))
      clear HR
      go_wp2_with fail
      refine (HAW.out _ HB.out).mono ?_
      rintro e w1 ⟨rfl, rfl⟩
      cases q
      · have e : r = false := HR2.out
        subst e
        go_wp2_with fail
        go_ret
        exact ⟨rfl, HB.out⟩
      · have HALL : Hid (r = (List.zip a.got a.held).all (fun p => slotOk p.1 p.2)) := Lib.hid HR2.out
        have HLE : Hid (a.held.length = a.got.length) := Lib.hid (by rw [← HNH.out, ← HNG.out])
        clear HR2 HQ HAW
        go_wp2_with fail
        go_loopw [30] (fun s30 wr => ∃ k : Nat, s30 = .int .i64 k ∧ k ≤ nh ∧ (∀ (i : Nat) (g : Bool) (l : List It), i < k → a.got[i]? = some g → a.held[i]? = some l → slotOk g l = true) ∧ Below w1.heap.size w1 wr) (fun s30 _ => nh - (intOf s30).toNat)
        case atStart => exact ⟨0, rfl, Nat.zero_le _, fun i g l hi => absurd hi (Nat.not_lt_zero _), Below.refl _ _⟩
        case round =>
          obtain ⟨k, rfl, hk, hall, hb⟩ := hrel
          have HBR := Lib.hid hb
          have HAB := Lib.hid hall
          have HBW := Lib.hid (below_next HB.out hb)
          clear hb hall x0 x1 x2
          by_cases hlt : k < nh
          · obtain ⟨g, hg⟩ : ∃ g, a.got[k]? = some g := ⟨_, List.getElem?_eq_getElem (by rw [← HNG.out]; exact hlt)⟩
            obtain ⟨⟨A, c, ls⟩, hx⟩ : ∃ x, hs[k]? = some x := ⟨_, List.getElem?_eq_getElem (by have h1 := congrArg List.length HHS.out; rw [List.length_map, ← HNH.out] at h1; omega)⟩
            have HLS : Hid (a.held[k]? = some ls) := Lib.hid (by rw [← HHS.out, List.getElem?_map, hx]; rfl)
            obtain ⟨bg, og, hG1, d0⟩ := got_row (HG.out.below HBW.out) hg
            obtain ⟨q, off, hH1, c0⟩ := head_row (HH.out.row.below HBW.out) hx
            subst hG1 hH1
            have HIT := Lib.hid (HH.out.each _ (List.mem_of_getElem? hx))
            have HGK := Lib.hid hg
            have x1 := (L.out.below HBR.out).cell (j := 1) rfl
            have hki : (k : Int) < (nh : Int) := by omega
            have hw := wrapKA (k := k) (by have := H8.out; omega)
            have HK := Lib.hid hlt
            obtain ⟨m, hm⟩ : ∃ m, m = ls.length := ⟨_, rfl⟩
            simp only at c0
            rw [← hm] at c0
            have HML := Lib.hid hm
            obtain ⟨p, hp⟩ : ∃ p, p = itemsO ls := ⟨_, rfl⟩
            have HRI := Lib.hid (fun w' (hb : Below w.heap.size w w') => ckItems ls m A c p hm hp w' (HIT.out.below hb))
            have HP := Lib.hid hp
            clear hx hg hlt hk hm hp
            have HBAD : Hid (slotOk g ls = false → r = false) := Lib.hid fun e => by
              rw [HALL.out]
              cases e2 : (List.zip a.got a.held).all (fun p => slotOk p.1 p.2) with
              | false => rfl
              | true => have := (zip_all HLE.out).1 e2 k g ls HGK.out HLS.out; simp only [e] at this; cases this
            have HGOOD : Hid (slotOk g ls = true → ∀ (i : Nat) (g : Bool) (l : List It), i < k + 1 → a.got[i]? = some g → a.held[i]? = some l → slotOk g l = true) := Lib.hid fun e i g' l hi h1 h2 => by
              by_cases hik : i = k
              · rw [hik] at h1 h2
                rw [HGK.out] at h1; rw [HLS.out] at h2
                cases h1; cases h2
                exact e
              · exact HAB.out i g' l (by omega) h1 h2
            have hway : (g = false ∧ 0 < m) ∨ (g = true ∨ (g = false ∧ m = 0)) := by
              cases g
              · rcases Nat.eq_zero_or_pos m with h | h
                · exact .inr (.inr ⟨rfl, h⟩)
                · exact .inl ⟨rfl, h⟩
              · exact .inr (.inl rfl)
            rcases hway with ⟨rfl, h0⟩ | hway
            · have g2 : decide (0 < m) = true := decide_eq_true h0
              have g3 : decide ((0 : Int) < (m : Int)) = true := decide_eq_true (by omega)
              have e : r = false := HBAD.out (by
                rw [slot_as]
                have : ls.isEmpty = false := by
                  cases ls with
                  | nil => have := HML.out; simp at this; omega
                  | cons _ _ => rfl
                rw [this]; rfl)
              subst e
              clear h0
              go_wp2_with fail
              go_ret
              exact ⟨rfl, HBW.out⟩
            · have HS : Hid (slotOk g ls = p) := Lib.hid (by
                rw [slot_as, HP.out]
                rcases hway with rfl | ⟨rfl, h0⟩
                · rfl
                · have : ls.isEmpty = true := by
                    cases ls with
                    | nil => rfl
                    | cons _ _ => have := HML.out; simp at this; omega
                  rw [this]; rfl)
              have g2 : g = true ∨ (g = false ∧ (decide (0 < m) = false ∧ decide ((0 : Int) < (m : Int)) = false)) := hway.imp id fun ⟨h1, h2⟩ => ⟨h1, decide_eq_false (by omega), decide_eq_false (by omega)⟩
              clear hway
              have HRI2 := Lib.hid (HRI.out wr HBW.out)
              rcases g2 with rfl | ⟨rfl, g2, g3⟩
              all_goals
                go_wp2_with fail
                refine HRI2.out.mono ?_
                rintro e w5 ⟨rfl, hb5⟩
                have HB5 := Lib.hid (below_next HBR.out hb5)
                have HB6 := Lib.hid (below_next HBW.out hb5)
                clear hb5 HRI HRI2 c0 d0 x1
                cases p
                · have e : r = false := HBAD.out HS.out
                  subst e
                  go_wp2_with fail
                  go_ret
                  exact ⟨rfl, HB6.out⟩
                · go_wp2_with fail
                  go_roundw
                  case rel => exact ⟨k + 1, rfl, HK.out, HGOOD.out HS.out, HB5.out⟩
                  case measure => simp [intOf]; have := HK.out; omega
          · have hki : ¬ (k : Int) < (nh : Int) := by omega
            have e : r = true := by
              rw [HALL.out]
              exact (zip_all HLE.out).2 fun i g l h1 h2 => HAB.out i g l (by have := (List.getElem?_eq_some_iff.1 h1).1; have := HNG.out; omega) h1 h2
            subst e
            clear hlt hk
            go_wp2_with fail
            go_ret
            exact ⟨rfl, HBW.out⟩
    · have g1 : ((nh : Int) != (ng : Int)) = true := nb (by omega)
      have e : r = false := by rw [HR.out, decide_eq_false h1, Bool.false_and, Bool.and_false]
      subst e
      clear h1
      go_wp2_with fail
      go_ret
      exact ⟨rfl, HB.out⟩
theorem ckRight {w : World} {a : Al} {ng nh : Nat} {G : Option Addr} {cG : Nat} {H : Option Addr} {cH : Nat} (h : AlAt w a ng nh G cG H cH) : Calls Try.prog 15 #[alV a.n G ng cG H nh cH] w (TellsB (rightA a) w) := by
  obtain ⟨hs, h1, h2⟩ := h
  exact ckRightH a hs h1.map ng nh h1.lng h1.lnh _ rfl G cG H cH w h1.hg h1.hh
set_option maxHeartbeats 1000000 in
theorem ckRoom {w : World} {a : Al} {ng nh : Nat} {G : Option Addr} {cG : Nat} {H : Option Addr} {cH : Nat} (h : AlAt w a ng nh G cG H cH) (input : Int) : Calls Try.prog 16 #[alV a.n G ng cG H nh cH, .int .i64 input] w (TellsI (roomO a input) w) := by
  obtain ⟨hs, h1, h2⟩ := h
  obtain ⟨q, hq⟩ : ∃ q, q = rightA a := ⟨_, rfl⟩
  have HRA := Lib.hid (fun w' (hb : Below w.heap.size w w') => ckRightH a hs h1.map ng nh h1.lng h1.lnh q hq G cG H cH w' (h1.hg.below hb) (h1.hh.below hb))
  obtain ⟨p, hp⟩ : ∃ p, p = (decide (0 ≤ input) && decide (input < (ng : Int))) := ⟨_, rfl⟩
  have HHA := Lib.hid (fun w' => ckHas a.n input G ng cG H nh cH p hp w')
  have HB := Lib.hid (below_al (o := .cells (alC a.n G ng cG H nh cH) 25) (Below.refl w.heap.size w))
  have L := Lib.hid (Lies.new w (alC a.n G ng cG H nh cH) 25)
  have HP := Lib.hid hp
  have HQ := Lib.hid hq
  have H1 := Lib.hid h1
  have H2 := Lib.hid h2
  clear hq hp h1 h2
  go_enter Try.func16, Try.ntmps16
  go_upto_region 1 with fail
  obtain ⟨tb, htb⟩ : ∃ b, b = w.heap.size := ⟨_, rfl⟩
  obtain ⟨W, hW⟩ : ∃ W, W = w.alloc (.cells (alC a.n G ng cG H nh cH) 25) := ⟨_, rfl⟩
  rw [← hW] at L HB ⊢
  rw [← htb] at L ⊢
  clear hW htb
  have x0 := L.out.cell (j := 0) rfl; have x1 := L.out.cell (j := 1) rfl; have x2 := L.out.cell (j := 2) rfl
  go_wp2_with fail
  refine (HRA.out _ HB.out).mono ?_
  rintro e w1 ⟨rfl, hb1⟩
  have HB1 := Lib.hid (below_next HB.out hb1)
  have L1 := Lib.hid (L.out.below hb1)
  clear hb1 x0 x1 x2
  cases q
  · have HE : Hid (roomO a input = 0) := Lib.hid (room_bad (.inl HQ.out.symm))
    go_wp2_with fail
    go_ret
    exact ⟨by rw [HE.out]; rfl, HB1.out⟩
  · have x0 := L1.out.cell (j := 0) rfl; have x1 := L1.out.cell (j := 1) rfl; have x2 := L1.out.cell (j := 2) rfl
    go_wp2_with fail
    refine (HHA.out _).mono ?_
    rintro e w2 ⟨rfl, hb2⟩
    have HB2 := Lib.hid (below_next HB1.out hb2)
    have L2 := Lib.hid (L1.out.below hb2)
    clear hb2 x0 x1 x2
    have x2 := L2.out.cell (j := 2) rfl
    cases p
    · have HE : Hid (roomO a input = 0) := Lib.hid <| room_bad (by
        have h := HP.out
        have := H1.out.lng
        rcases Int.lt_or_le input 0 with h3 | h3
        · exact .inr (.inl h3)
        · rw [decide_eq_true h3, Bool.true_and] at h
          have := of_decide_eq_false h.symm
          exact .inr (.inr (by omega)))
      go_wp2_with fail
      go_ret
      exact ⟨by rw [HE.out]; rfl, HB2.out⟩
    · have hb := HP.out.symm
      rw [Bool.and_eq_true, decide_eq_true_eq, decide_eq_true_eq] at hb
      obtain ⟨j, rfl⟩ : ∃ j : Nat, input = (j : Int) := ⟨input.toNat, by omega⟩
      have hok := (ok_iff a).1 HQ.out.symm
      have hnh : nh = ng := by rw [H1.out.lnh, H1.out.lng]; exact hok.hl
      obtain ⟨⟨A, c, ls⟩, hx⟩ : ∃ x, hs[j]? = some x := ⟨_, List.getElem?_eq_getElem (by have h1 := congrArg List.length H1.out.map; rw [List.length_map, ← H1.out.lnh] at h1; omega)⟩
      have hls : a.held[j]? = some ls := by rw [← H1.out.map, List.getElem?_map, hx]; rfl
      have e : roomO a (j : Int) = 16 - (ls.length : Int) := room_is HQ.out.symm (by have := H1.out.lng; omega) hls
      have h16 := (slot_iff.1 (hok.slot j (a.got[j]'(by have := H1.out.lng; omega)) ls (List.getElem?_eq_getElem _) hls)).2.1
      obtain ⟨q, off, hH1, c0⟩ := head_row (H1.out.hh.row.below HB2.out) hx
      subst hH1
      have hji : (j : Int) < (nh : Int) := by omega
      obtain ⟨m, hm⟩ : ∃ m, m = ls.length := ⟨_, rfl⟩
      simp only at c0
      rw [← hm] at c0 h16 e
      have HE := Lib.hid e
      have hw : IntKind.i64.wrap (16 - (m : Int)) = 16 - (m : Int) := wrapA (by omega) (by omega)
      clear hx hls hok hb e hm hnh
      go_wp2_with fail
      go_ret
      exact ⟨by rw [HE.out]; rfl, HB2.out⟩
end Aln
end Go.Proofs.Ytgbklmncfajcgaa
