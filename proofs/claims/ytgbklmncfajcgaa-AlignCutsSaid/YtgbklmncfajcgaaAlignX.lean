/- AlignCuts: the walk of the law. -/
import Derived.Test.YtgbklmncfajcgaaAlignMd
namespace Go.Proofs.Ytgbklmncfajcgaa
open Go.ChangeShapes Go.WideShapes Go.ChangeAt Go.RowKit
set_option linter.unusedVariables false
set_option maxRecDepth 8000
namespace Aln
open Gen (TellsB TellsI row_one flat_len flat_get Mine)
open Itm
set_option maxRecDepth 100000 in
set_option maxHeartbeats 4000000 in
theorem walkCuts (hs0 : List Hd) (nI : Nat) (hnI : nI = hs0.length) (A : Option Addr) (c : Nat) (bar : Int) (zs : List Int) (nz : Nat) (hnz : nz = zs.length) (T : Option Addr) (ez : Nat) (w : World) (hA : HAt w A hs0) (hc : nI ≤ c) (hcap : ∀ x ∈ hs0, x.2.2.length ≤ x.2.1) (hz : nz ≤ 140737488355328) (hT : Row w T (zs.map (Value.int .i64))) (hc2 : c ≤ maxLen) :
    Calls Try.prog 5 #[.slice A nI c, .int .i64 bar, .slice T nz ez] w (TellsB true w) := by
  have HA := Lib.hid hA; have HT := Lib.hid hT; have HN := Lib.hid hnI; have HZ := Lib.hid hnz; have HZB := Lib.hid hz; have HCC := Lib.hid hc
  clear hA hT hnI hnz hz hcap
  obtain ⟨n, hn⟩ : ∃ n : Nat, n = min nI 8 := ⟨_, rfl⟩
  have hmin : min (nI : Int) 8 = (n : Int) := by rw [hn]; omega
  have HNI : Hid (n ≤ nI ∧ n ≤ 8) := Lib.hid (by rw [hn]; omega)
  obtain ⟨B, hB⟩ : ∃ B : Nat, (B : Int) = min (max bar 0) 2 := ⟨(min (max bar 0) 2).toNat, by omega⟩
  have hbar := hB.symm
  have HB2 : Hid (B ≤ 2) := Lib.hid (by omega)
  clear hn hB
  by_cases h0 : n = 0
  · subst h0
    have HC := Lib.hid (ckNew 1 w)
    rw [new_one] at HC
    have hmax : max ((0 : Nat) : Int) 1 = 1 := by omega
    clear hbar
    go_enter Try.func5, Try.ntmps5
    go_wp2_with fail
    refine HC.out.mono ?_
    rintro e w1 ⟨n1, G, cG, H, cH, rfl, ha, hb1⟩
    have HB1 := Lib.hid hb1
    clear ha hb1 HC
    go_upto_region 3 with fail
    have hb2 := below_al (o := .cells (alC (anew 1).n G n1 cG H n1 cH) 25) HB1.out
    have HB3 := Lib.hid hb2
    clear hb2 HB1
    go_wp2_with fail
    refine (lawAliveA _).mono ?_
    rintro e w3 ⟨rfl, hb3⟩
    have HB4 := Lib.hid (below_next HB3.out hb3)
    clear hb3 HB3
    go_wp2_with fail
    refine (lawAliveA _).mono ?_
    rintro e w4 ⟨rfl, hb4⟩
    have HB5 := Lib.hid (below_next HB4.out hb4)
    clear hb4
    go_wp2_with fail
    go_ret
    exact ⟨by first | rfl | simp, HB5.out⟩
  · have HN1 : Hid (1 ≤ n) := Lib.hid (by omega)
    have HC := Lib.hid (ckNew (n : Int) w)
    rw [new_is (by omega) HNI.out.2] at HC
    have hmax : max (n : Int) 1 = (n : Int) := by omega
    have g0 : ((n : Int) == 0) = false := ne_b (by omega)
    clear h0
    go_enter Try.func5, Try.ntmps5
    go_wp2_with fail
    refine HC.out.mono ?_
    rintro e w1 ⟨n1, G, cG, H, cH, rfl, ha, hb1⟩
    have hn1 : n = n1 := by rw [ha.len.1]; exact List.length_replicate.symm
    subst hn1
    go_upto_region 3 with fail
    have hb2 := below_al (o := .cells (alC (anew n).n G n cG H n cH) 25) (Below.refl w1.heap.size w1)
    have A3 := Lib.hid ha
    have BB3 := Lib.hid hb2
    have L3 := Lib.hid (Lies.new w1 (alC (anew n).n G n cG H n cH) 25)
    have B3 := Lib.hid (below_next hb1 hb2)
    have K3 := Lib.hid hb1.size
    obtain ⟨ba, hba⟩ : ∃ ba, ba = w1.heap.size := ⟨_, rfl⟩
    obtain ⟨W3, hW3⟩ : ∃ W, W = w1.alloc (.cells (alC (anew n).n G n cG H n cH) 25) := ⟨_, rfl⟩
    have HBA := Lib.hid hba
    rw [← hW3] at BB3 L3 B3 ⊢
    rw [← hba] at L3 K3 ⊢
    clear hW3 hba hb2 ha hb1 HC
    go_wp2_with fail
    refine (lawAliveA _).mono ?_
    rintro e w4 ⟨rfl, hb4⟩
    have BB4 := Lib.hid (below_next BB3.out hb4)
    have L4 := Lib.hid (L3.out.below hb4)
    have B4 := Lib.hid (below_next B3.out hb4)
    clear hb4 BB3 L3 B3
    go_upto_region 8 with fail
    have hb5 := below_al (o := .cells #[.slice none 0 0] 52) (below_al (o := .cells #[.slice none 0 0] 23) (Below.refl w4.heap.size w4))
    have LO : Hid (LoAt w ba w4.heap.size (w4.heap.size + 1) B n 0 (anew n) G cG H cH (fun k => k = w4.heap.size ∨ k = w4.heap.size + 1 ∨ k = ba) (.slice none 0 0) (.slice none 0 0) (.slice none 0 0) [] [] ((w4.alloc (.cells #[.slice none 0 0] 23)).alloc (.cells #[.slice none 0 0] 52))) := Lib.hid
      ⟨⟨own_none, own_none, own_none, fun x hx => (by cases hx), fun x hx => (by cases hx), fun k hk => (by cases hk), fun k hk => (by cases hk), fun k hk => (by cases hk), fun k hk => (by cases hk), fun k hk => (by have := lt_of_block L4.out; simp only [World.size_alloc]; omega)⟩,
        (Lies.new w4 _ _).al, Gen.lies_new1 w4 _ _ _, .inl rfl, .inr (.inl rfl), .inr (.inr rfl), L4.out.below hb5, (A3.out.mk_ _ fun k hk => (by have := BB4.out.size; have := HBA.out; omega)).below (below_next BB4.out hb5), fun k hk => (by have := B4.out.size; have := K3.out; omega), K3.out, fun x hx => (by cases hx), rfl, below_next B4.out hb5⟩
    obtain ⟨b1, hb1⟩ : ∃ b, b = w4.heap.size := ⟨_, rfl⟩
    obtain ⟨b2, hb2⟩ : ∃ b, b = w4.heap.size + 1 := ⟨_, rfl⟩
    obtain ⟨W5, hW5⟩ : ∃ W, W = (w4.alloc (.cells #[.slice none 0 0] 23)).alloc (.cells #[.slice none 0 0] 52) := ⟨_, rfl⟩
    have HB12 : Hid (b1 ≠ b2) := Lib.hid (by omega)
    rw [← hW5] at LO ⊢
    rw [← hb2] at LO ⊢
    rw [← hb1] at LO ⊢
    clear hW5 hb1 hb2 hb5 A3 BB4 HBA L4 B4 K3
    have hnc : (n : Int) ≤ (c : Int) := by have := HNI.out; have := HCC.out; omega
    have hn0 : (0 : Int) ≤ (n : Int) := by omega
    go_wp2_with fail
    go_loopw [10, 57] (fun s10 s57 wr => ∃ (j : Nat) (M : Nat → Prop) (v1 v2 v3 : Value) (rs : List Hd) (ws : List Wd), s10 = v1 ∧ s57 = .int .i64 j ∧ j ≤ n ∧ LoAt w ba b1 b2 B n j (anew n) G cG H cH M v1 v2 v3 rs ws wr ∧ v3.ownBlock ≠ some b1) (fun _ s57 _ => n - (intOf s57).toNat)
    case atStart => exact ⟨0, _, _, _, _, [], [], rfl, rfl, Nat.zero_le _, LO.out, fun e => by cases e⟩
    case round =>
      clear LO
      obtain ⟨j, M, v1, v2, v3, rs, ws, hv1, rfl, hj, hlo, hd3⟩ := hrel
      have HD3 := Lib.hid hd3
      have hv1' := hv1.symm
      clear hv1
      subst hv1'
      have LO := Lib.hid hlo
      clear hlo hd3
      by_cases hlt : j < n
      · obtain ⟨⟨Ax, cx, lx⟩, hx⟩ : ∃ x, hs0[j]? = some x := ⟨_, List.getElem?_eq_getElem (by rw [← HN.out]; exact Nat.lt_of_lt_of_le hlt HNI.out.1)⟩
        obtain ⟨qi, oi, hAi, d0⟩ := head_row (HA.out.row.below LO.out.below) hx
        have hrx := (HA.out.each _ (List.mem_of_getElem? hx)).below LO.out.below
        simp only at d0 hrx
        obtain ⟨xl, hxl⟩ : ∃ xl, xl = lx.length := ⟨_, rfl⟩
        rw [← hxl] at d0
        have HRW := Lib.hid (lawRow lx xl hxl Ax cx B HB2.out wr hrx)
        subst hAi
        have hji : (j : Int) < (n : Int) := by omega
        have hj0 : (0 : Int) ≤ (j : Int) := by omega
        have hw := wrapKA (k := j) (by have := HNI.out; omega)
        have HJN := Lib.hid hlt
        clear hx hrx hxl hlt hj
        go_wp2_with fail
        refine HRW.out.mono ?_
        rintro e w6 ⟨A6, m6, c6, out, rfl, how, hm6, hok, hm14, hb6⟩
        have LO6 := Lib.hid (LO.out.next hb6)
        have OW6 := Lib.hid how; have HM6 := Lib.hid hm6; have HOK6 := Lib.hid hok; have HM14 := Lib.hid hm14
        have HB6 := Lib.hid hb6
        clear how hm6 hok hm14 hb6 d0 HRW
        go_upto_region 12 with fail
        obtain ⟨A1, c1, rfl, _⟩ := own_form LO6.out.st.o1 (by omega)
        obtain ⟨A2, c2, rfl, _⟩ := own_form LO6.out.st.o2 (by omega)
        obtain ⟨A3, c3, rfl, _⟩ := own_form LO6.out.st.o3 (by omega)
        have hbd := below_drewOf (Below.refl w6.heap.size w6)
        have MD := Lib.hid ((LO6.out.mid HD3.out).next hbd)
        have OW := Lib.hid (own_upA OW6.out hbd)
        have HROK : Hid (RowOk B out ∧ out.length ≤ 14 ∧ out.length ≤ c6) := Lib.hid ⟨HOK6.out, by have := HM14.out; rw [HM6.out] at this; exact this, by have := (own_rowI OW6.out).2.1; rw [HM6.out] at this; exact this⟩
        have HMW : Hid (∀ k, M k → k < wr.heap.size) := Lib.hid LO.out.st.lt
        have HV1 : Hid (∀ k, (Value.slice A1 j c1).ownBlock = some k → k < w6.heap.size) := Lib.hid fun k hk => (LO6.out.st.o1.lt k hk).2
        obtain ⟨i0, hi0, hz00, hz01, hz02⟩ := Gen.info_of InfoH
        obtain ⟨i1, hi1, hz10, hz11, hz12⟩ := Gen.info_of InfoW
        have HI0 := Lib.hid hi0; have HY00 := Lib.hid hz00; have HY01 := Lib.hid hz01; have HY02 := Lib.hid hz02
        have HI1 := Lib.hid hi1; have HY10 := Lib.hid hz10; have HY11 := Lib.hid hz11; have HY12 := Lib.hid hz12
        have p1 := MD.out.l1.cell (j := 0) rfl; have p2 := MD.out.l2.cell (j := 0) rfl
        clear LO OW6 HOK6 HB6 hi0 hz00 hz01 hz02 hi1 hz10 hz11 hz12 hbd
        refine wp_region_noPanic ?_
        refine Gst.region (S := Gst.Two 13 14 (fun w9 => w9.cell? ⟨b1, 0, none⟩ = some (.slice A2 j c2)) (fun w9 => w9.cell? ⟨b2, 0, none⟩ = some (.slice A3 j c3))) (by kernel_rfl) ⟨fun _ => p1, fun _ => p2⟩ (fun hHeld => ?_)
        clear hHeld
        obtain ⟨W0, hW0⟩ : ∃ W, W = w6.drew := ⟨_, rfl⟩
        have hzle : W0.heap.size ≤ W0.heap.size := Nat.le_refl _
        have HZ : Hid (w6.heap.size ≤ W0.heap.size) := Lib.hid (by rw [hW0]; exact Nat.le_refl _)
        rw [← hW0] at MD OW p1 p2 ⊢
        clear hW0
        refine Gst.take (i := 0) (oi := { dst := some 64, op := Op.move (Operand.tmp 10), type := 23, pos := "law.go:96", after := #[], guard := none }) (v := (.slice A1 j c1)) rfl (by kernel_rfl) (by kernel_rfl) (by kernel_rfl) (by rfl) (fun _ _ _ h => h) (Or.inl ⟨by rfl, ?y1⟩) ⟨fun _ => p1, fun _ => p2⟩ ?_
        case y1 => (intro w9 hSw; go_simp)
        (try simp only [Act.put, List.setIfInBounds_toArray, List.set_cons_zero, List.set_cons_succ])
        refine Gst.take (i := 1) (oi := { dst := some 65, op := Op.move (Operand.tmp 15), type := 30, pos := "law.go:96", after := #[], guard := none }) (v := (.slice A6 m6 c6)) rfl (by kernel_rfl) (by kernel_rfl) (by kernel_rfl) (by rfl) (fun _ _ _ h => h) (Or.inl ⟨by rfl, ?y2⟩) ⟨fun _ => p1, fun _ => p2⟩ ?_
        case y2 => (intro w9 hSw; go_simp)
        (try simp only [Act.put, List.setIfInBounds_toArray, List.set_cons_zero, List.set_cons_succ])
        refine Gst.take1 (i := 4) (oi := { dst := some 68, op := Op.load 23 (Operand.tmp 11), type := 23, pos := "law.go:96", after := #[], guard := none }) (v := (.slice A2 j c2)) rfl (by kernel_rfl) (by kernel_rfl) (by kernel_rfl) (by rfl) (by kernel_rfl) (by kernel_rfl) (fun _ _ _ h => h) (Or.inl ⟨by rfl, ?y3⟩) ⟨fun _ => p1, fun _ => p2⟩ ?_
        case y3 => (intro w9 hSw; go_simp)
        (try simp only [Act.put, List.setIfInBounds_toArray, List.set_cons_zero, List.set_cons_succ])
        refine Gst.take2 (i := 7) (oi := { dst := some 71, op := Op.load 52 (Operand.tmp 12), type := 52, pos := "law.go:96", after := #[], guard := none }) (v := (.slice A3 j c3)) rfl (by kernel_rfl) (by kernel_rfl) (by kernel_rfl) (by rfl) (by kernel_rfl) (by kernel_rfl) (fun _ _ _ h => h) (Or.inl ⟨by rfl, ?y4⟩) ⟨fun _ => p1, fun _ => p2⟩ ?_
        case y4 => (intro w9 hSw; go_simp)
        (try simp only [Act.put, List.setIfInBounds_toArray, List.set_cons_zero, List.set_cons_succ])
        refine Gst.take (i := 8) (oi := { dst := some 72, op := Op.move (Operand.tmp 15), type := 30, pos := "law.go:96", after := #[], guard := none }) (v := (.slice A6 m6 c6)) rfl (by kernel_rfl) (by kernel_rfl) (by kernel_rfl) (by rfl) (fun _ _ _ h => h) (Or.inl ⟨by rfl, ?y5⟩) ⟨fun _ => p1, fun _ => p2⟩ ?_
        case y5 => (intro w9 hSw; go_simp)
        (try simp only [Act.put, List.setIfInBounds_toArray, List.set_cons_zero, List.set_cons_succ])
        refine Gst.ready (rs := [2, 5]) (by kernel_rfl) (by simp) ?_
        refine Gst.All.cons (o := { dst := some 66, op := Op.buildSlice 23 1 #[(0, Operand.tmp 65)], type := 23, pos := "law.go:96", after := #[{ on := 1, ground := Ground.data }], guard := none }) rfl (fun KK hK => ?_) ?_
        · skip
          go_simp
          have L2 := Lib.hid (Lies.new W0 #[.slice A6 m6 c6] 30)
          have hbk := below_al (o := .cells #[.slice A6 m6 c6] 30) (Below.refl W0.heap.size W0)
          have MD := Lib.hid (MD.out.next hbk)
          have OW := Lib.hid (own_upA OW.out hbk)
          have HZ2 : Hid (w6.heap.size ≤ W0.heap.size) := Lib.hid (Nat.le_trans HZ.out hzle)
          obtain ⟨s2, hs2⟩ : ∃ s, s = W0.heap.size := ⟨_, rfl⟩
          obtain ⟨W1, hWn⟩ : ∃ X, X = W0.alloc (.cells #[.slice A6 m6 c6] 30) := ⟨_, rfl⟩
          have hzle : W0.heap.size ≤ W1.heap.size := by rw [hWn]; simp
          have HZ : Hid (w6.heap.size ≤ W1.heap.size) := Lib.hid (Nat.le_trans HZ2.out hzle)
          rw [← hWn] at L2 MD OW   ⊢
          rw [← hs2] at L2 HZ2 ⊢
          clear hWn hs2 hbk hzle
          have hzle := Nat.le_refl W1.heap.size
          clear p1 p2
          have p1 := MD.out.l1.cell (j := 0) rfl; have p2 := MD.out.l2.cell (j := 0) rfl
          refine hK.out _ _ ⟨fun _ => p1, fun _ => p2⟩ (fun hHeld => ?_)
          clear hK KK hHeld
          (try simp only [Act.put, List.setIfInBounds_toArray, List.set_cons_zero, List.set_cons_succ])
          refine Gst.ready (rs := [3, 5]) (by kernel_rfl) (by simp) ?_
          refine Gst.All.cons (o := { dst := some 67, op := Op.call { callee := Callee.builtin Builtin.append, args := #[Operand.tmp 64, Operand.tmp 66], argTypes := #[23, 23] }, type := 23, pos := "law.go:96", after := #[{ on := 0, ground := Ground.data }, { on := 2, ground := Ground.data }], guard := none }) rfl (fun KK hK => ?_) ?_
          · skip
            refine Gen.step_append_own rfl (.tmp 64) (.tmp 66) 23 rfl w.heap.size 30 i0 _ 1 24 Try.underlying23 HI0.out HY00.out HY01.out HY02.out rfl (by omega) (.slice A1 j c1) j (hsc rs) (by simp [Act.eval]) MD.out.st.o1 ⟨s2, 0, none⟩ 1 1 [.slice A6 m6 c6] (by simp [Act.eval]) rfl (new_cells L2.out) (by intro u hu; rw [List.mem_singleton.1 hu]; rfl) (by unfold maxLen; have := HNI.out; have := HJN.out; omega) (by have := HNI.out; have := HJN.out; omega) MD.out.below.size ?_
            intro v' W2 hown' hgrow hloc
            obtain ⟨A1', c1', rfl, _⟩ := own_form hown' (by omega)
            have ho2 : W2.ownsRow w.heap.size 30 1 (.slice A1' (j + 1) c1') (j + 1) (hsc (rs ++ [(A6, c6, out)])) := by
              rw [appH, show hsc [(A6, c6, out)] = [.slice A6 m6 c6] from by simp [hsc, hsL, HM6.out]]
              exact hown'
            obtain ⟨M1, hmd⟩ := MD.out.push1 (y := (A6, c6, out)) hgrow ho2 hloc (row_ofA OW.out (by omega)) (OffR.own OW.out HMW.out)
            have OW := Lib.hid (own_grownA OW.out hgrow (own_kindA OW.out MD.out.st.o1 it_rows))
            have MD := Lib.hid hmd
            have HZ : Hid (w6.heap.size ≤ W2.heap.size) := Lib.hid (Nat.le_trans HZ.out hgrow.size)
            clear hmd hown' ho2 hgrow hloc hzle
            have hzle := Nat.le_refl W2.heap.size
            clear p1 p2
            have p1 := MD.out.l1.cell (j := 0) rfl; have p2 := MD.out.l2.cell (j := 0) rfl
            refine hK.out _ _ ⟨fun _ => p1, fun _ => p2⟩ (fun hHeld => ?_)
            clear hK KK hHeld
            (try simp only [Act.put, List.setIfInBounds_toArray, List.set_cons_zero, List.set_cons_succ])
            refine Gst.ready (rs := [5]) (by kernel_rfl) (by simp) ?_
            refine Gst.All.cons (o := { dst := some 69, op := Op.buildSlice 23 1 #[(0, Operand.const (Value.slice none 0 0))], type := 23, pos := "law.go:96", after := #[], guard := none }) rfl (fun KK hK => ?_) ?_
            · skip
              go_simp
              have L5 := Lib.hid (Lies.new W2 #[.slice none 0 0] 30)
              have hbk := below_al (o := .cells #[.slice none 0 0] 30) (Below.refl W2.heap.size W2)
              have MD := Lib.hid (MD.out.next hbk)
              have OW := Lib.hid (own_upA OW.out hbk)
              have HZ5 : Hid (w6.heap.size ≤ W2.heap.size) := Lib.hid (Nat.le_trans HZ.out hzle)
              obtain ⟨s5, hs5⟩ : ∃ s, s = W2.heap.size := ⟨_, rfl⟩
              obtain ⟨W3, hWn⟩ : ∃ X, X = W2.alloc (.cells #[.slice none 0 0] 30) := ⟨_, rfl⟩
              have hzle : W2.heap.size ≤ W3.heap.size := by rw [hWn]; simp
              have HZ : Hid (w6.heap.size ≤ W3.heap.size) := Lib.hid (Nat.le_trans HZ5.out hzle)
              rw [← hWn] at L5 MD OW   ⊢
              rw [← hs5] at L5 HZ5 ⊢
              clear hWn hs5 hbk hzle
              have hzle := Nat.le_refl W3.heap.size
              clear p1 p2
              have p1 := MD.out.l1.cell (j := 0) rfl; have p2 := MD.out.l2.cell (j := 0) rfl
              refine hK.out _ _ ⟨fun _ => p1, fun _ => p2⟩ (fun hHeld => ?_)
              clear hK KK hHeld
              (try simp only [Act.put, List.setIfInBounds_toArray, List.set_cons_zero, List.set_cons_succ])
              refine Gst.ready (rs := [6]) (by kernel_rfl) (by simp) ?_
              refine Gst.All.cons (o := { dst := some 70, op := Op.call { callee := Callee.builtin Builtin.append, args := #[Operand.tmp 68, Operand.tmp 69], argTypes := #[23, 23] }, type := 23, pos := "law.go:96", after := #[{ on := 4, ground := Ground.data }, { on := 5, ground := Ground.data }, { on := 3, ground := Ground.chain }], guard := none }) rfl (fun KK hK => ?_) ?_
              · skip
                refine Gen.step_append_own rfl (.tmp 68) (.tmp 69) 23 rfl w.heap.size 30 i0 _ 1 24 Try.underlying23 HI0.out HY00.out HY01.out HY02.out rfl (by omega) (.slice A2 j c2) j (hsc (List.replicate j noHd)) (by simp [Act.eval]) MD.out.st.o2 ⟨s5, 0, none⟩ 1 1 [.slice none 0 0] (by simp [Act.eval]) rfl (new_cells L5.out) (by intro u hu; rw [List.mem_singleton.1 hu]; rfl) (by unfold maxLen; have := HNI.out; have := HJN.out; omega) (by have := HNI.out; have := HJN.out; omega) MD.out.below.size ?_
                intro v' Xa6 hown' hgrow hloc
                obtain ⟨A2', c2', rfl, _⟩ := own_form hown' (by omega)
                have ho2 : Xa6.ownsRow w.heap.size 30 1 (.slice A2' (j + 1) c2') (j + 1) (hsc (List.replicate j noHd ++ [noHd])) := by
                  rw [appH]
                  exact hown'
                obtain ⟨M2, hmd⟩ := MD.out.push2 (y := noHd) hgrow ho2 hloc
                have OW := Lib.hid (own_grownA OW.out hgrow (own_kindA OW.out MD.out.st.o2 it_rows))
                have MD := Lib.hid hmd
                have HZ : Hid (w6.heap.size ≤ Xa6.heap.size) := Lib.hid (Nat.le_trans HZ.out hgrow.size)
                clear hmd hown' ho2 hgrow hloc hzle
                have hzle := Nat.le_refl Xa6.heap.size
                clear p1 p2
                have p1 := MD.out.l1.cell (j := 0) rfl; have p2 := MD.out.l2.cell (j := 0) rfl
                refine hK.out _ _ ⟨fun _ => p1, fun _ => p2⟩ (fun hHeld => ?_)
                clear hK KK hHeld
                (try simp only [Act.put, List.setIfInBounds_toArray, List.set_cons_zero, List.set_cons_succ])
                refine Gst.ready (rs := [9]) (by kernel_rfl) (by simp) ?_
                refine Gst.All.cons (o := { dst := some 73, op := Op.call { callee := Callee.value (Operand.func 21), args := #[Operand.tmp 72], argTypes := #[30] }, type := 23, pos := "law.go:96", after := #[{ on := 8, ground := Ground.data }, { on := 6, ground := Ground.chain }], guard := none }) rfl (fun KK hK => ?_) ?_
                · go_simp
                  refine (lawCuts out m6 HM6.out HM14.out A6 c6 Xa6 (row_ofA OW.out (by omega))).mono ?_
                  rintro e9 Xa9 ⟨Hc, mc, cHc, hsC, rfl, hne, hcu, hb9⟩
                  have HM9 := Lib.hid MD.out.st.lt
                  have NE := Lib.hid hne
                  have HCU := Lib.hid hcu
                  have MD := Lib.hid (MD.out.next hb9)
                  have OW := Lib.hid (own_upA OW.out hb9)
                  have HZ : Hid (w6.heap.size ≤ Xa9.heap.size) := Lib.hid (Nat.le_trans HZ.out hb9.size)
                  clear hne hcu hb9 hzle
                  have hzle := Nat.le_refl Xa9.heap.size
                  clear p1 p2
                  have p1 := MD.out.l1.cell (j := 0) rfl; have p2 := MD.out.l2.cell (j := 0) rfl
                  go_wp2_with fail
                  refine hK.out _ _ ⟨fun _ => p1, fun _ => p2⟩ (fun hHeld => ?_)
                  clear hK KK hHeld
                  (try simp only [Act.put, List.setIfInBounds_toArray, List.set_cons_zero, List.set_cons_succ])
                  refine Gst.ready (rs := [10]) (by kernel_rfl) (by simp) ?_
                  refine Gst.All.cons (o := { dst := some 74, op := Op.buildSlice 52 1 #[(0, Operand.tmp 73)], type := 52, pos := "law.go:96", after := #[{ on := 9, ground := Ground.data }], guard := none }) rfl (fun KK hK => ?_) ?_
                  · skip
                    go_simp
                    have L10 := Lib.hid (Lies.new Xa9 #[.slice Hc mc cHc] 23)
                    have hbk := below_al (o := .cells #[.slice Hc mc cHc] 23) (Below.refl Xa9.heap.size Xa9)
                    have MD := Lib.hid (MD.out.next hbk)
                    have OW := Lib.hid (own_upA OW.out hbk)
                    have NE := Lib.hid (NE.out.next hbk)
                    have HZ10 : Hid (w6.heap.size ≤ Xa9.heap.size) := Lib.hid (Nat.le_trans HZ.out hzle)
                    obtain ⟨s10, hs10⟩ : ∃ s, s = Xa9.heap.size := ⟨_, rfl⟩
                    obtain ⟨XaA, hWn⟩ : ∃ X, X = Xa9.alloc (.cells #[.slice Hc mc cHc] 23) := ⟨_, rfl⟩
                    have hzle : Xa9.heap.size ≤ XaA.heap.size := by rw [hWn]; simp
                    have HZ : Hid (w6.heap.size ≤ XaA.heap.size) := Lib.hid (Nat.le_trans HZ10.out hzle)
                    rw [← hWn] at L10 MD OW  NE ⊢
                    rw [← hs10] at L10 HZ10 ⊢
                    clear hWn hs10 hbk hzle
                    have hzle := Nat.le_refl XaA.heap.size
                    clear p1 p2
                    have p1 := MD.out.l1.cell (j := 0) rfl; have p2 := MD.out.l2.cell (j := 0) rfl
                    refine hK.out _ _ ⟨fun _ => p1, fun _ => p2⟩ (fun hHeld => ?_)
                    clear hK KK hHeld
                    (try simp only [Act.put, List.setIfInBounds_toArray, List.set_cons_zero, List.set_cons_succ])
                    refine Gst.ready (rs := [11]) (by kernel_rfl) (by simp) ?_
                    refine Gst.All.cons (o := { dst := some 75, op := Op.call { callee := Callee.builtin Builtin.append, args := #[Operand.tmp 71, Operand.tmp 74], argTypes := #[52, 52] }, type := 52, pos := "law.go:96", after := #[{ on := 7, ground := Ground.data }, { on := 10, ground := Ground.data }, { on := 9, ground := Ground.chain }], guard := none }) rfl (fun KK hK => ?_) ?_
                    · skip
                      refine Gen.step_append_own rfl (.tmp 71) (.tmp 74) 52 rfl w.heap.size 23 i1 _ 1 24 Try.underlying52 HI1.out HY10.out HY11.out HY12.out rfl (by omega) (.slice A3 j c3) j (wsc ws) (by simp [Act.eval]) MD.out.st.o3 ⟨s10, 0, none⟩ 1 1 [.slice Hc mc cHc] (by simp [Act.eval]) rfl (new_cells L10.out) (by intro u hu; rw [List.mem_singleton.1 hu]; rfl) (by unfold maxLen; have := HNI.out; have := HJN.out; omega) (by have := HNI.out; have := HJN.out; omega) MD.out.below.size ?_
                      intro v' XaB hown' hgrow hloc
                      obtain ⟨A3', c3', rfl, _⟩ := own_form hown' (by omega)
                      have ho2 : XaB.ownsRow w.heap.size 23 1 (.slice A3' (j + 1) c3') (j + 1) (wsc (ws ++ [(Hc, cHc, hsC)])) := by
                        rw [appW, show wsc [(Hc, cHc, hsC)] = [.slice Hc mc cHc] from by simp [wsc, wsL, NE.out.len]]
                        exact hown'
                      obtain ⟨M3, hmd⟩ := MD.out.push3 (y := (Hc, cHc, hsC)) hgrow ho2 hloc ⟨row_ofA NE.out.outer (by omega), fun x hx => row_ofA (NE.out.each x hx) (by omega)⟩ (OffR.own NE.out.outer HM9.out) (fun x hx => OffR.own (NE.out.each x hx) HM9.out)
                      have OW := Lib.hid (own_grownA OW.out hgrow (own_kindA OW.out MD.out.st.o3 (by decide)))
                      have MD := Lib.hid hmd
                      clear hmd hown' ho2 hgrow hloc hzle NE L10
                      clear p1 p2
                      have p1 := MD.out.l1.cell (j := 0) rfl; have p2 := MD.out.l2.cell (j := 0) rfl
                      refine hK.out _ _ ⟨fun _ => p1, fun _ => p2⟩ (fun hHeld => ?_)
                      clear hK KK hHeld
                      (try simp only [Act.put, List.setIfInBounds_toArray, List.set_cons_zero, List.set_cons_succ])
                      refine Gst.take (i := 12) (oi := { dst := some 10, op := Op.assign (Operand.tmp 67), type := 23, pos := "law.go:96", after := #[{ on := 3, ground := Ground.data }, { on := 11, ground := Ground.chain }, { on := 0, ground := Ground.phase }, { on := 1, ground := Ground.phase }, { on := 2, ground := Ground.phase }, { on := 3, ground := Ground.phase }, { on := 4, ground := Ground.textOnly Departure.lateStores }, { on := 5, ground := Ground.textOnly Departure.lateStores }, { on := 6, ground := Ground.textOnly Departure.lateStoresUnsure }, { on := 7, ground := Ground.textOnly Departure.inlinedCapture }, { on := 8, ground := Ground.textOnly Departure.lateStores }, { on := 9, ground := Ground.textOnly Departure.lateStoresUnsure }, { on := 10, ground := Ground.textOnly Departure.inlinedCapture }, { on := 11, ground := Ground.textOnly Departure.lateStoresUnsure }], guard := none }) (v := .slice A1' (j + 1) c1') rfl (by kernel_rfl) (by kernel_rfl) (by kernel_rfl) (by rfl) (fun _ _ _ h => h) (Or.inl ⟨by rfl, ?y6⟩) ⟨fun _ => p1, fun _ => p2⟩ ?_
                      case y6 => (intro w9 hSw; go_simp)
                      (try simp only [Act.put, List.setIfInBounds_toArray, List.set_cons_zero, List.set_cons_succ])
                      refine Gst.ready (rs := [13]) (by kernel_rfl) (by simp) ?_
                      refine Gst.All.cons (o := { dst := none, op := Op.store 23 (Operand.tmp 11) (Operand.tmp 70), type := 0, pos := "law.go:96", after := #[{ on := 6, ground := Ground.data }, { on := 12, ground := Ground.chain }, { on := 0, ground := Ground.phase }, { on := 1, ground := Ground.phase }, { on := 2, ground := Ground.phase }, { on := 3, ground := Ground.phase }, { on := 4, ground := Ground.phase }, { on := 5, ground := Ground.phase }, { on := 6, ground := Ground.phase }, { on := 7, ground := Ground.textOnly Departure.inlinedCapture }, { on := 8, ground := Ground.textOnly Departure.lateStores }, { on := 9, ground := Ground.textOnly Departure.lateStoresUnsure }, { on := 10, ground := Ground.textOnly Departure.inlinedCapture }, { on := 11, ground := Ground.textOnly Departure.lateStoresUnsure }, { on := 12, ground := Ground.phase }], guard := none }) rfl (fun KK hK => ?_) ?_
                      · skip
                        have f1 := MD.out.l1.free 0
                        go_simp
                        have MD := Lib.hid (MD.out.put1 (.slice A2' (j + 1) c2'))
                        obtain ⟨XaD, hWn⟩ : ∃ X, X = XaB.setCell ⟨b1, 0, none⟩ (.slice A2' (j + 1) c2') := ⟨_, rfl⟩
                        rw [← hWn] at MD ⊢
                        clear hWn f1 OW
                        clear p1 p2
                        have p1 := MD.out.l1.cell (j := 0) rfl; have p2 := MD.out.l2.cell (j := 0) rfl
                        refine hK.out _ _ ⟨fun e => Gst.gone (by kernel_rfl) e, fun _ => p2⟩ (fun hHeld => ?_)
                        clear hK KK hHeld
                        (try simp only [Act.put, List.setIfInBounds_toArray, List.set_cons_zero, List.set_cons_succ])
                        refine Gst.ready (rs := [14]) (by kernel_rfl) (by simp) ?_
                        refine Gst.All.cons (o := { dst := none, op := Op.store 52 (Operand.tmp 12) (Operand.tmp 75), type := 0, pos := "law.go:96", after := #[{ on := 11, ground := Ground.data }, { on := 13, ground := Ground.chain }, { on := 0, ground := Ground.phase }, { on := 1, ground := Ground.phase }, { on := 2, ground := Ground.phase }, { on := 3, ground := Ground.phase }, { on := 4, ground := Ground.phase }, { on := 5, ground := Ground.phase }, { on := 6, ground := Ground.phase }, { on := 7, ground := Ground.phase }, { on := 8, ground := Ground.phase }, { on := 9, ground := Ground.phase }, { on := 10, ground := Ground.phase }, { on := 11, ground := Ground.phase }, { on := 12, ground := Ground.phase }, { on := 13, ground := Ground.phase }], guard := none }) rfl (fun KK hK => ?_) ?_
                        · skip
                          have f2 := MD.out.l2.free 0
                          go_simp
                          have MD := Lib.hid (MD.out.put2 (.slice A3' (j + 1) c3'))
                          obtain ⟨XaE, hWn⟩ : ∃ X, X = XaD.setCell ⟨b2, 0, none⟩ (.slice A3' (j + 1) c3') := ⟨_, rfl⟩
                          rw [← hWn] at MD ⊢
                          clear hWn f2 p1 p2
                          refine hK.out _ _ ⟨fun e => Gst.gone (by kernel_rfl) e, fun e => Gst.gone (by kernel_rfl) e⟩ (fun hHeld => ?_)
                          clear hK KK hHeld
                          (try simp only [Act.put, List.setIfInBounds_toArray, List.set_cons_zero, List.set_cons_succ])
                          refine Gst.done (by kernel_rfl) ?_ _
                          refine NoPanic.normal ?_
                          (try simp only [Act.put, List.setIfInBounds_toArray, List.set_cons_zero, List.set_cons_succ])
                          have hmd := MD.out
                          rw [← List.replicate_succ'] at hmd
                          have HDN := Lib.hid hmd.d3
                          have LO7 := Lib.hid (hmd.lo (B := B) (fun x hx => (List.mem_append.1 hx).elim (LO6.out.rok x) (fun h => by rw [List.mem_singleton.1 h]; exact HROK.out)) (by rw [List.map_append, List.map_append, LO6.out.wok]; simp [HCU.out]) LO6.out.ka)
                          clear hmd MD LO6 HM9 HCU HV1 HMW HROK hzle
                          go_wp2_with fail
                          go_roundw
                          case rel => exact ⟨j + 1, _, _, _, _, _, _, rfl, rfl, HJN.out, LO7.out, HDN.out⟩
                          case measure => simp [intOf]; have := HJN.out; omega
                        exact Gst.All.nil
                      exact Gst.All.nil
                    exact Gst.All.nil
                  exact Gst.All.nil
                exact Gst.All.nil
              exact Gst.All.nil
            exact Gst.All.nil
          refine Gst.All.cons (o := { dst := some 69, op := Op.buildSlice 23 1 #[(0, Operand.const (Value.slice none 0 0))], type := 23, pos := "law.go:96", after := #[], guard := none }) rfl (fun KK hK => ?_) ?_
          · skip
            go_simp
            have L5 := Lib.hid (Lies.new W1 #[.slice none 0 0] 30)
            have hbk := below_al (o := .cells #[.slice none 0 0] 30) (Below.refl W1.heap.size W1)
            have MD := Lib.hid (MD.out.next hbk)
            have OW := Lib.hid (own_upA OW.out hbk)
            have L2 := Lib.hid (L2.out.below hbk)
            have HZ5 : Hid (w6.heap.size ≤ W1.heap.size) := Lib.hid (Nat.le_trans HZ.out hzle)
            obtain ⟨s5, hs5⟩ : ∃ s, s = W1.heap.size := ⟨_, rfl⟩
            obtain ⟨W2, hWn⟩ : ∃ X, X = W1.alloc (.cells #[.slice none 0 0] 30) := ⟨_, rfl⟩
            have hzle : W1.heap.size ≤ W2.heap.size := by rw [hWn]; simp
            have HZ : Hid (w6.heap.size ≤ W2.heap.size) := Lib.hid (Nat.le_trans HZ5.out hzle)
            rw [← hWn] at L5 MD OW L2  ⊢
            rw [← hs5] at L5 HZ5 ⊢
            clear hWn hs5 hbk hzle
            have hzle := Nat.le_refl W2.heap.size
            clear p1 p2
            have p1 := MD.out.l1.cell (j := 0) rfl; have p2 := MD.out.l2.cell (j := 0) rfl
            refine hK.out _ _ ⟨fun _ => p1, fun _ => p2⟩ (fun hHeld => ?_)
            clear hK KK hHeld
            (try simp only [Act.put, List.setIfInBounds_toArray, List.set_cons_zero, List.set_cons_succ])
            refine Gst.ready (rs := [3]) (by kernel_rfl) (by simp) ?_
            refine Gst.All.cons (o := { dst := some 67, op := Op.call { callee := Callee.builtin Builtin.append, args := #[Operand.tmp 64, Operand.tmp 66], argTypes := #[23, 23] }, type := 23, pos := "law.go:96", after := #[{ on := 0, ground := Ground.data }, { on := 2, ground := Ground.data }], guard := none }) rfl (fun KK hK => ?_) ?_
            · skip
              refine Gen.step_append_own rfl (.tmp 64) (.tmp 66) 23 rfl w.heap.size 30 i0 _ 1 24 Try.underlying23 HI0.out HY00.out HY01.out HY02.out rfl (by omega) (.slice A1 j c1) j (hsc rs) (by simp [Act.eval]) MD.out.st.o1 ⟨s2, 0, none⟩ 1 1 [.slice A6 m6 c6] (by simp [Act.eval]) rfl (new_cells L2.out) (by intro u hu; rw [List.mem_singleton.1 hu]; rfl) (by unfold maxLen; have := HNI.out; have := HJN.out; omega) (by have := HNI.out; have := HJN.out; omega) MD.out.below.size ?_
              intro v' W3 hown' hgrow hloc
              obtain ⟨A1', c1', rfl, _⟩ := own_form hown' (by omega)
              have ho2 : W3.ownsRow w.heap.size 30 1 (.slice A1' (j + 1) c1') (j + 1) (hsc (rs ++ [(A6, c6, out)])) := by
                rw [appH, show hsc [(A6, c6, out)] = [.slice A6 m6 c6] from by simp [hsc, hsL, HM6.out]]
                exact hown'
              obtain ⟨M1, hmd⟩ := MD.out.push1 (y := (A6, c6, out)) hgrow ho2 hloc (row_ofA OW.out (by omega)) (OffR.own OW.out HMW.out)
              have OW := Lib.hid (own_grownA OW.out hgrow (own_kindA OW.out MD.out.st.o1 it_rows))
              have L5 := Lib.hid (lies_grownA L5.out hgrow (fun e => by have := HV1.out _ e; have := HZ5.out; omega))
              have MD := Lib.hid hmd
              have HZ : Hid (w6.heap.size ≤ W3.heap.size) := Lib.hid (Nat.le_trans HZ.out hgrow.size)
              clear hmd hown' ho2 hgrow hloc hzle
              have hzle := Nat.le_refl W3.heap.size
              clear p1 p2
              have p1 := MD.out.l1.cell (j := 0) rfl; have p2 := MD.out.l2.cell (j := 0) rfl
              refine hK.out _ _ ⟨fun _ => p1, fun _ => p2⟩ (fun hHeld => ?_)
              clear hK KK hHeld
              (try simp only [Act.put, List.setIfInBounds_toArray, List.set_cons_zero, List.set_cons_succ])
              refine Gst.ready (rs := [6]) (by kernel_rfl) (by simp) ?_
              refine Gst.All.cons (o := { dst := some 70, op := Op.call { callee := Callee.builtin Builtin.append, args := #[Operand.tmp 68, Operand.tmp 69], argTypes := #[23, 23] }, type := 23, pos := "law.go:96", after := #[{ on := 4, ground := Ground.data }, { on := 5, ground := Ground.data }, { on := 3, ground := Ground.chain }], guard := none }) rfl (fun KK hK => ?_) ?_
              · skip
                refine Gen.step_append_own rfl (.tmp 68) (.tmp 69) 23 rfl w.heap.size 30 i0 _ 1 24 Try.underlying23 HI0.out HY00.out HY01.out HY02.out rfl (by omega) (.slice A2 j c2) j (hsc (List.replicate j noHd)) (by simp [Act.eval]) MD.out.st.o2 ⟨s5, 0, none⟩ 1 1 [.slice none 0 0] (by simp [Act.eval]) rfl (new_cells L5.out) (by intro u hu; rw [List.mem_singleton.1 hu]; rfl) (by unfold maxLen; have := HNI.out; have := HJN.out; omega) (by have := HNI.out; have := HJN.out; omega) MD.out.below.size ?_
                intro v' Xb6 hown' hgrow hloc
                obtain ⟨A2', c2', rfl, _⟩ := own_form hown' (by omega)
                have ho2 : Xb6.ownsRow w.heap.size 30 1 (.slice A2' (j + 1) c2') (j + 1) (hsc (List.replicate j noHd ++ [noHd])) := by
                  rw [appH]
                  exact hown'
                obtain ⟨M2, hmd⟩ := MD.out.push2 (y := noHd) hgrow ho2 hloc
                have OW := Lib.hid (own_grownA OW.out hgrow (own_kindA OW.out MD.out.st.o2 it_rows))
                have MD := Lib.hid hmd
                have HZ : Hid (w6.heap.size ≤ Xb6.heap.size) := Lib.hid (Nat.le_trans HZ.out hgrow.size)
                clear hmd hown' ho2 hgrow hloc hzle
                have hzle := Nat.le_refl Xb6.heap.size
                clear p1 p2
                have p1 := MD.out.l1.cell (j := 0) rfl; have p2 := MD.out.l2.cell (j := 0) rfl
                refine hK.out _ _ ⟨fun _ => p1, fun _ => p2⟩ (fun hHeld => ?_)
                clear hK KK hHeld
                (try simp only [Act.put, List.setIfInBounds_toArray, List.set_cons_zero, List.set_cons_succ])
                refine Gst.ready (rs := [9]) (by kernel_rfl) (by simp) ?_
                refine Gst.All.cons (o := { dst := some 73, op := Op.call { callee := Callee.value (Operand.func 21), args := #[Operand.tmp 72], argTypes := #[30] }, type := 23, pos := "law.go:96", after := #[{ on := 8, ground := Ground.data }, { on := 6, ground := Ground.chain }], guard := none }) rfl (fun KK hK => ?_) ?_
                · go_simp
                  refine (lawCuts out m6 HM6.out HM14.out A6 c6 Xb6 (row_ofA OW.out (by omega))).mono ?_
                  rintro e9 Xb9 ⟨Hc, mc, cHc, hsC, rfl, hne, hcu, hb9⟩
                  have HM9 := Lib.hid MD.out.st.lt
                  have NE := Lib.hid hne
                  have HCU := Lib.hid hcu
                  have MD := Lib.hid (MD.out.next hb9)
                  have OW := Lib.hid (own_upA OW.out hb9)
                  have HZ : Hid (w6.heap.size ≤ Xb9.heap.size) := Lib.hid (Nat.le_trans HZ.out hb9.size)
                  clear hne hcu hb9 hzle
                  have hzle := Nat.le_refl Xb9.heap.size
                  clear p1 p2
                  have p1 := MD.out.l1.cell (j := 0) rfl; have p2 := MD.out.l2.cell (j := 0) rfl
                  go_wp2_with fail
                  refine hK.out _ _ ⟨fun _ => p1, fun _ => p2⟩ (fun hHeld => ?_)
                  clear hK KK hHeld
                  (try simp only [Act.put, List.setIfInBounds_toArray, List.set_cons_zero, List.set_cons_succ])
                  refine Gst.ready (rs := [10]) (by kernel_rfl) (by simp) ?_
                  refine Gst.All.cons (o := { dst := some 74, op := Op.buildSlice 52 1 #[(0, Operand.tmp 73)], type := 52, pos := "law.go:96", after := #[{ on := 9, ground := Ground.data }], guard := none }) rfl (fun KK hK => ?_) ?_
                  · skip
                    go_simp
                    have L10 := Lib.hid (Lies.new Xb9 #[.slice Hc mc cHc] 23)
                    have hbk := below_al (o := .cells #[.slice Hc mc cHc] 23) (Below.refl Xb9.heap.size Xb9)
                    have MD := Lib.hid (MD.out.next hbk)
                    have OW := Lib.hid (own_upA OW.out hbk)
                    have NE := Lib.hid (NE.out.next hbk)
                    have HZ10 : Hid (w6.heap.size ≤ Xb9.heap.size) := Lib.hid (Nat.le_trans HZ.out hzle)
                    obtain ⟨s10, hs10⟩ : ∃ s, s = Xb9.heap.size := ⟨_, rfl⟩
                    obtain ⟨XbA, hWn⟩ : ∃ X, X = Xb9.alloc (.cells #[.slice Hc mc cHc] 23) := ⟨_, rfl⟩
                    have hzle : Xb9.heap.size ≤ XbA.heap.size := by rw [hWn]; simp
                    have HZ : Hid (w6.heap.size ≤ XbA.heap.size) := Lib.hid (Nat.le_trans HZ10.out hzle)
                    rw [← hWn] at L10 MD OW  NE ⊢
                    rw [← hs10] at L10 HZ10 ⊢
                    clear hWn hs10 hbk hzle
                    have hzle := Nat.le_refl XbA.heap.size
                    clear p1 p2
                    have p1 := MD.out.l1.cell (j := 0) rfl; have p2 := MD.out.l2.cell (j := 0) rfl
                    refine hK.out _ _ ⟨fun _ => p1, fun _ => p2⟩ (fun hHeld => ?_)
                    clear hK KK hHeld
                    (try simp only [Act.put, List.setIfInBounds_toArray, List.set_cons_zero, List.set_cons_succ])
                    refine Gst.ready (rs := [11]) (by kernel_rfl) (by simp) ?_
                    refine Gst.All.cons (o := { dst := some 75, op := Op.call { callee := Callee.builtin Builtin.append, args := #[Operand.tmp 71, Operand.tmp 74], argTypes := #[52, 52] }, type := 52, pos := "law.go:96", after := #[{ on := 7, ground := Ground.data }, { on := 10, ground := Ground.data }, { on := 9, ground := Ground.chain }], guard := none }) rfl (fun KK hK => ?_) ?_
                    · skip
                      refine Gen.step_append_own rfl (.tmp 71) (.tmp 74) 52 rfl w.heap.size 23 i1 _ 1 24 Try.underlying52 HI1.out HY10.out HY11.out HY12.out rfl (by omega) (.slice A3 j c3) j (wsc ws) (by simp [Act.eval]) MD.out.st.o3 ⟨s10, 0, none⟩ 1 1 [.slice Hc mc cHc] (by simp [Act.eval]) rfl (new_cells L10.out) (by intro u hu; rw [List.mem_singleton.1 hu]; rfl) (by unfold maxLen; have := HNI.out; have := HJN.out; omega) (by have := HNI.out; have := HJN.out; omega) MD.out.below.size ?_
                      intro v' XbB hown' hgrow hloc
                      obtain ⟨A3', c3', rfl, _⟩ := own_form hown' (by omega)
                      have ho2 : XbB.ownsRow w.heap.size 23 1 (.slice A3' (j + 1) c3') (j + 1) (wsc (ws ++ [(Hc, cHc, hsC)])) := by
                        rw [appW, show wsc [(Hc, cHc, hsC)] = [.slice Hc mc cHc] from by simp [wsc, wsL, NE.out.len]]
                        exact hown'
                      obtain ⟨M3, hmd⟩ := MD.out.push3 (y := (Hc, cHc, hsC)) hgrow ho2 hloc ⟨row_ofA NE.out.outer (by omega), fun x hx => row_ofA (NE.out.each x hx) (by omega)⟩ (OffR.own NE.out.outer HM9.out) (fun x hx => OffR.own (NE.out.each x hx) HM9.out)
                      have OW := Lib.hid (own_grownA OW.out hgrow (own_kindA OW.out MD.out.st.o3 (by decide)))
                      have MD := Lib.hid hmd
                      clear hmd hown' ho2 hgrow hloc hzle NE L10
                      clear p1 p2
                      have p1 := MD.out.l1.cell (j := 0) rfl; have p2 := MD.out.l2.cell (j := 0) rfl
                      refine hK.out _ _ ⟨fun _ => p1, fun _ => p2⟩ (fun hHeld => ?_)
                      clear hK KK hHeld
                      (try simp only [Act.put, List.setIfInBounds_toArray, List.set_cons_zero, List.set_cons_succ])
                      refine Gst.take (i := 12) (oi := { dst := some 10, op := Op.assign (Operand.tmp 67), type := 23, pos := "law.go:96", after := #[{ on := 3, ground := Ground.data }, { on := 11, ground := Ground.chain }, { on := 0, ground := Ground.phase }, { on := 1, ground := Ground.phase }, { on := 2, ground := Ground.phase }, { on := 3, ground := Ground.phase }, { on := 4, ground := Ground.textOnly Departure.lateStores }, { on := 5, ground := Ground.textOnly Departure.lateStores }, { on := 6, ground := Ground.textOnly Departure.lateStoresUnsure }, { on := 7, ground := Ground.textOnly Departure.inlinedCapture }, { on := 8, ground := Ground.textOnly Departure.lateStores }, { on := 9, ground := Ground.textOnly Departure.lateStoresUnsure }, { on := 10, ground := Ground.textOnly Departure.inlinedCapture }, { on := 11, ground := Ground.textOnly Departure.lateStoresUnsure }], guard := none }) (v := .slice A1' (j + 1) c1') rfl (by kernel_rfl) (by kernel_rfl) (by kernel_rfl) (by rfl) (fun _ _ _ h => h) (Or.inl ⟨by rfl, ?y7⟩) ⟨fun _ => p1, fun _ => p2⟩ ?_
                      case y7 => (intro w9 hSw; go_simp)
                      (try simp only [Act.put, List.setIfInBounds_toArray, List.set_cons_zero, List.set_cons_succ])
                      refine Gst.ready (rs := [13]) (by kernel_rfl) (by simp) ?_
                      refine Gst.All.cons (o := { dst := none, op := Op.store 23 (Operand.tmp 11) (Operand.tmp 70), type := 0, pos := "law.go:96", after := #[{ on := 6, ground := Ground.data }, { on := 12, ground := Ground.chain }, { on := 0, ground := Ground.phase }, { on := 1, ground := Ground.phase }, { on := 2, ground := Ground.phase }, { on := 3, ground := Ground.phase }, { on := 4, ground := Ground.phase }, { on := 5, ground := Ground.phase }, { on := 6, ground := Ground.phase }, { on := 7, ground := Ground.textOnly Departure.inlinedCapture }, { on := 8, ground := Ground.textOnly Departure.lateStores }, { on := 9, ground := Ground.textOnly Departure.lateStoresUnsure }, { on := 10, ground := Ground.textOnly Departure.inlinedCapture }, { on := 11, ground := Ground.textOnly Departure.lateStoresUnsure }, { on := 12, ground := Ground.phase }], guard := none }) rfl (fun KK hK => ?_) ?_
                      · skip
                        have f1 := MD.out.l1.free 0
                        go_simp
                        have MD := Lib.hid (MD.out.put1 (.slice A2' (j + 1) c2'))
                        obtain ⟨XbD, hWn⟩ : ∃ X, X = XbB.setCell ⟨b1, 0, none⟩ (.slice A2' (j + 1) c2') := ⟨_, rfl⟩
                        rw [← hWn] at MD ⊢
                        clear hWn f1 OW
                        clear p1 p2
                        have p1 := MD.out.l1.cell (j := 0) rfl; have p2 := MD.out.l2.cell (j := 0) rfl
                        refine hK.out _ _ ⟨fun e => Gst.gone (by kernel_rfl) e, fun _ => p2⟩ (fun hHeld => ?_)
                        clear hK KK hHeld
                        (try simp only [Act.put, List.setIfInBounds_toArray, List.set_cons_zero, List.set_cons_succ])
                        refine Gst.ready (rs := [14]) (by kernel_rfl) (by simp) ?_
                        refine Gst.All.cons (o := { dst := none, op := Op.store 52 (Operand.tmp 12) (Operand.tmp 75), type := 0, pos := "law.go:96", after := #[{ on := 11, ground := Ground.data }, { on := 13, ground := Ground.chain }, { on := 0, ground := Ground.phase }, { on := 1, ground := Ground.phase }, { on := 2, ground := Ground.phase }, { on := 3, ground := Ground.phase }, { on := 4, ground := Ground.phase }, { on := 5, ground := Ground.phase }, { on := 6, ground := Ground.phase }, { on := 7, ground := Ground.phase }, { on := 8, ground := Ground.phase }, { on := 9, ground := Ground.phase }, { on := 10, ground := Ground.phase }, { on := 11, ground := Ground.phase }, { on := 12, ground := Ground.phase }, { on := 13, ground := Ground.phase }], guard := none }) rfl (fun KK hK => ?_) ?_
                        · skip
                          have f2 := MD.out.l2.free 0
                          go_simp
                          have MD := Lib.hid (MD.out.put2 (.slice A3' (j + 1) c3'))
                          obtain ⟨XbE, hWn⟩ : ∃ X, X = XbD.setCell ⟨b2, 0, none⟩ (.slice A3' (j + 1) c3') := ⟨_, rfl⟩
                          rw [← hWn] at MD ⊢
                          clear hWn f2 p1 p2
                          refine hK.out _ _ ⟨fun e => Gst.gone (by kernel_rfl) e, fun e => Gst.gone (by kernel_rfl) e⟩ (fun hHeld => ?_)
                          clear hK KK hHeld
                          (try simp only [Act.put, List.setIfInBounds_toArray, List.set_cons_zero, List.set_cons_succ])
                          refine Gst.done (by kernel_rfl) ?_ _
                          refine NoPanic.normal ?_
                          (try simp only [Act.put, List.setIfInBounds_toArray, List.set_cons_zero, List.set_cons_succ])
                          have hmd := MD.out
                          rw [← List.replicate_succ'] at hmd
                          have HDN := Lib.hid hmd.d3
                          have LO7 := Lib.hid (hmd.lo (B := B) (fun x hx => (List.mem_append.1 hx).elim (LO6.out.rok x) (fun h => by rw [List.mem_singleton.1 h]; exact HROK.out)) (by rw [List.map_append, List.map_append, LO6.out.wok]; simp [HCU.out]) LO6.out.ka)
                          clear hmd MD LO6 HM9 HCU HV1 HMW HROK hzle
                          go_wp2_with fail
                          go_roundw
                          case rel => exact ⟨j + 1, _, _, _, _, _, _, rfl, rfl, HJN.out, LO7.out, HDN.out⟩
                          case measure => simp [intOf]; have := HJN.out; omega
                        exact Gst.All.nil
                      exact Gst.All.nil
                    exact Gst.All.nil
                  exact Gst.All.nil
                exact Gst.All.nil
              exact Gst.All.nil
            exact Gst.All.nil
          exact Gst.All.nil
        refine Gst.All.cons (o := { dst := some 69, op := Op.buildSlice 23 1 #[(0, Operand.const (Value.slice none 0 0))], type := 23, pos := "law.go:96", after := #[], guard := none }) rfl (fun KK hK => ?_) ?_
        · skip
          go_simp
          have L5 := Lib.hid (Lies.new W0 #[.slice none 0 0] 30)
          have hbk := below_al (o := .cells #[.slice none 0 0] 30) (Below.refl W0.heap.size W0)
          have MD := Lib.hid (MD.out.next hbk)
          have OW := Lib.hid (own_upA OW.out hbk)
          have HZ5 : Hid (w6.heap.size ≤ W0.heap.size) := Lib.hid (Nat.le_trans HZ.out hzle)
          obtain ⟨s5, hs5⟩ : ∃ s, s = W0.heap.size := ⟨_, rfl⟩
          obtain ⟨W1, hWn⟩ : ∃ X, X = W0.alloc (.cells #[.slice none 0 0] 30) := ⟨_, rfl⟩
          have hzle : W0.heap.size ≤ W1.heap.size := by rw [hWn]; simp
          have HZ : Hid (w6.heap.size ≤ W1.heap.size) := Lib.hid (Nat.le_trans HZ5.out hzle)
          rw [← hWn] at L5 MD OW   ⊢
          rw [← hs5] at L5 HZ5 ⊢
          clear hWn hs5 hbk hzle
          have hzle := Nat.le_refl W1.heap.size
          clear p1 p2
          have p1 := MD.out.l1.cell (j := 0) rfl; have p2 := MD.out.l2.cell (j := 0) rfl
          refine hK.out _ _ ⟨fun _ => p1, fun _ => p2⟩ (fun hHeld => ?_)
          clear hK KK hHeld
          (try simp only [Act.put, List.setIfInBounds_toArray, List.set_cons_zero, List.set_cons_succ])
          refine Gst.ready (rs := [2]) (by kernel_rfl) (by simp) ?_
          refine Gst.All.cons (o := { dst := some 66, op := Op.buildSlice 23 1 #[(0, Operand.tmp 65)], type := 23, pos := "law.go:96", after := #[{ on := 1, ground := Ground.data }], guard := none }) rfl (fun KK hK => ?_) ?_
          · skip
            go_simp
            have L2 := Lib.hid (Lies.new W1 #[.slice A6 m6 c6] 30)
            have hbk := below_al (o := .cells #[.slice A6 m6 c6] 30) (Below.refl W1.heap.size W1)
            have MD := Lib.hid (MD.out.next hbk)
            have OW := Lib.hid (own_upA OW.out hbk)
            have L5 := Lib.hid (L5.out.below hbk)
            have HZ2 : Hid (w6.heap.size ≤ W1.heap.size) := Lib.hid (Nat.le_trans HZ.out hzle)
            obtain ⟨s2, hs2⟩ : ∃ s, s = W1.heap.size := ⟨_, rfl⟩
            obtain ⟨W2, hWn⟩ : ∃ X, X = W1.alloc (.cells #[.slice A6 m6 c6] 30) := ⟨_, rfl⟩
            have hzle : W1.heap.size ≤ W2.heap.size := by rw [hWn]; simp
            have HZ : Hid (w6.heap.size ≤ W2.heap.size) := Lib.hid (Nat.le_trans HZ2.out hzle)
            rw [← hWn] at L2 MD OW L5  ⊢
            rw [← hs2] at L2 HZ2 ⊢
            clear hWn hs2 hbk hzle
            have hzle := Nat.le_refl W2.heap.size
            clear p1 p2
            have p1 := MD.out.l1.cell (j := 0) rfl; have p2 := MD.out.l2.cell (j := 0) rfl
            refine hK.out _ _ ⟨fun _ => p1, fun _ => p2⟩ (fun hHeld => ?_)
            clear hK KK hHeld
            (try simp only [Act.put, List.setIfInBounds_toArray, List.set_cons_zero, List.set_cons_succ])
            refine Gst.ready (rs := [3]) (by kernel_rfl) (by simp) ?_
            refine Gst.All.cons (o := { dst := some 67, op := Op.call { callee := Callee.builtin Builtin.append, args := #[Operand.tmp 64, Operand.tmp 66], argTypes := #[23, 23] }, type := 23, pos := "law.go:96", after := #[{ on := 0, ground := Ground.data }, { on := 2, ground := Ground.data }], guard := none }) rfl (fun KK hK => ?_) ?_
            · skip
              refine Gen.step_append_own rfl (.tmp 64) (.tmp 66) 23 rfl w.heap.size 30 i0 _ 1 24 Try.underlying23 HI0.out HY00.out HY01.out HY02.out rfl (by omega) (.slice A1 j c1) j (hsc rs) (by simp [Act.eval]) MD.out.st.o1 ⟨s2, 0, none⟩ 1 1 [.slice A6 m6 c6] (by simp [Act.eval]) rfl (new_cells L2.out) (by intro u hu; rw [List.mem_singleton.1 hu]; rfl) (by unfold maxLen; have := HNI.out; have := HJN.out; omega) (by have := HNI.out; have := HJN.out; omega) MD.out.below.size ?_
              intro v' W3 hown' hgrow hloc
              obtain ⟨A1', c1', rfl, _⟩ := own_form hown' (by omega)
              have ho2 : W3.ownsRow w.heap.size 30 1 (.slice A1' (j + 1) c1') (j + 1) (hsc (rs ++ [(A6, c6, out)])) := by
                rw [appH, show hsc [(A6, c6, out)] = [.slice A6 m6 c6] from by simp [hsc, hsL, HM6.out]]
                exact hown'
              obtain ⟨M1, hmd⟩ := MD.out.push1 (y := (A6, c6, out)) hgrow ho2 hloc (row_ofA OW.out (by omega)) (OffR.own OW.out HMW.out)
              have OW := Lib.hid (own_grownA OW.out hgrow (own_kindA OW.out MD.out.st.o1 it_rows))
              have L5 := Lib.hid (lies_grownA L5.out hgrow (fun e => by have := HV1.out _ e; have := HZ5.out; omega))
              have MD := Lib.hid hmd
              have HZ : Hid (w6.heap.size ≤ W3.heap.size) := Lib.hid (Nat.le_trans HZ.out hgrow.size)
              clear hmd hown' ho2 hgrow hloc hzle
              have hzle := Nat.le_refl W3.heap.size
              clear p1 p2
              have p1 := MD.out.l1.cell (j := 0) rfl; have p2 := MD.out.l2.cell (j := 0) rfl
              refine hK.out _ _ ⟨fun _ => p1, fun _ => p2⟩ (fun hHeld => ?_)
              clear hK KK hHeld
              (try simp only [Act.put, List.setIfInBounds_toArray, List.set_cons_zero, List.set_cons_succ])
              refine Gst.ready (rs := [6]) (by kernel_rfl) (by simp) ?_
              refine Gst.All.cons (o := { dst := some 70, op := Op.call { callee := Callee.builtin Builtin.append, args := #[Operand.tmp 68, Operand.tmp 69], argTypes := #[23, 23] }, type := 23, pos := "law.go:96", after := #[{ on := 4, ground := Ground.data }, { on := 5, ground := Ground.data }, { on := 3, ground := Ground.chain }], guard := none }) rfl (fun KK hK => ?_) ?_
              · skip
                refine Gen.step_append_own rfl (.tmp 68) (.tmp 69) 23 rfl w.heap.size 30 i0 _ 1 24 Try.underlying23 HI0.out HY00.out HY01.out HY02.out rfl (by omega) (.slice A2 j c2) j (hsc (List.replicate j noHd)) (by simp [Act.eval]) MD.out.st.o2 ⟨s5, 0, none⟩ 1 1 [.slice none 0 0] (by simp [Act.eval]) rfl (new_cells L5.out) (by intro u hu; rw [List.mem_singleton.1 hu]; rfl) (by unfold maxLen; have := HNI.out; have := HJN.out; omega) (by have := HNI.out; have := HJN.out; omega) MD.out.below.size ?_
                intro v' Xc6 hown' hgrow hloc
                obtain ⟨A2', c2', rfl, _⟩ := own_form hown' (by omega)
                have ho2 : Xc6.ownsRow w.heap.size 30 1 (.slice A2' (j + 1) c2') (j + 1) (hsc (List.replicate j noHd ++ [noHd])) := by
                  rw [appH]
                  exact hown'
                obtain ⟨M2, hmd⟩ := MD.out.push2 (y := noHd) hgrow ho2 hloc
                have OW := Lib.hid (own_grownA OW.out hgrow (own_kindA OW.out MD.out.st.o2 it_rows))
                have MD := Lib.hid hmd
                have HZ : Hid (w6.heap.size ≤ Xc6.heap.size) := Lib.hid (Nat.le_trans HZ.out hgrow.size)
                clear hmd hown' ho2 hgrow hloc hzle
                have hzle := Nat.le_refl Xc6.heap.size
                clear p1 p2
                have p1 := MD.out.l1.cell (j := 0) rfl; have p2 := MD.out.l2.cell (j := 0) rfl
                refine hK.out _ _ ⟨fun _ => p1, fun _ => p2⟩ (fun hHeld => ?_)
                clear hK KK hHeld
                (try simp only [Act.put, List.setIfInBounds_toArray, List.set_cons_zero, List.set_cons_succ])
                refine Gst.ready (rs := [9]) (by kernel_rfl) (by simp) ?_
                refine Gst.All.cons (o := { dst := some 73, op := Op.call { callee := Callee.value (Operand.func 21), args := #[Operand.tmp 72], argTypes := #[30] }, type := 23, pos := "law.go:96", after := #[{ on := 8, ground := Ground.data }, { on := 6, ground := Ground.chain }], guard := none }) rfl (fun KK hK => ?_) ?_
                · go_simp
                  refine (lawCuts out m6 HM6.out HM14.out A6 c6 Xc6 (row_ofA OW.out (by omega))).mono ?_
                  rintro e9 Xc9 ⟨Hc, mc, cHc, hsC, rfl, hne, hcu, hb9⟩
                  have HM9 := Lib.hid MD.out.st.lt
                  have NE := Lib.hid hne
                  have HCU := Lib.hid hcu
                  have MD := Lib.hid (MD.out.next hb9)
                  have OW := Lib.hid (own_upA OW.out hb9)
                  have HZ : Hid (w6.heap.size ≤ Xc9.heap.size) := Lib.hid (Nat.le_trans HZ.out hb9.size)
                  clear hne hcu hb9 hzle
                  have hzle := Nat.le_refl Xc9.heap.size
                  clear p1 p2
                  have p1 := MD.out.l1.cell (j := 0) rfl; have p2 := MD.out.l2.cell (j := 0) rfl
                  go_wp2_with fail
                  refine hK.out _ _ ⟨fun _ => p1, fun _ => p2⟩ (fun hHeld => ?_)
                  clear hK KK hHeld
                  (try simp only [Act.put, List.setIfInBounds_toArray, List.set_cons_zero, List.set_cons_succ])
                  refine Gst.ready (rs := [10]) (by kernel_rfl) (by simp) ?_
                  refine Gst.All.cons (o := { dst := some 74, op := Op.buildSlice 52 1 #[(0, Operand.tmp 73)], type := 52, pos := "law.go:96", after := #[{ on := 9, ground := Ground.data }], guard := none }) rfl (fun KK hK => ?_) ?_
                  · skip
                    go_simp
                    have L10 := Lib.hid (Lies.new Xc9 #[.slice Hc mc cHc] 23)
                    have hbk := below_al (o := .cells #[.slice Hc mc cHc] 23) (Below.refl Xc9.heap.size Xc9)
                    have MD := Lib.hid (MD.out.next hbk)
                    have OW := Lib.hid (own_upA OW.out hbk)
                    have NE := Lib.hid (NE.out.next hbk)
                    have HZ10 : Hid (w6.heap.size ≤ Xc9.heap.size) := Lib.hid (Nat.le_trans HZ.out hzle)
                    obtain ⟨s10, hs10⟩ : ∃ s, s = Xc9.heap.size := ⟨_, rfl⟩
                    obtain ⟨XcA, hWn⟩ : ∃ X, X = Xc9.alloc (.cells #[.slice Hc mc cHc] 23) := ⟨_, rfl⟩
                    have hzle : Xc9.heap.size ≤ XcA.heap.size := by rw [hWn]; simp
                    have HZ : Hid (w6.heap.size ≤ XcA.heap.size) := Lib.hid (Nat.le_trans HZ10.out hzle)
                    rw [← hWn] at L10 MD OW  NE ⊢
                    rw [← hs10] at L10 HZ10 ⊢
                    clear hWn hs10 hbk hzle
                    have hzle := Nat.le_refl XcA.heap.size
                    clear p1 p2
                    have p1 := MD.out.l1.cell (j := 0) rfl; have p2 := MD.out.l2.cell (j := 0) rfl
                    refine hK.out _ _ ⟨fun _ => p1, fun _ => p2⟩ (fun hHeld => ?_)
                    clear hK KK hHeld
                    (try simp only [Act.put, List.setIfInBounds_toArray, List.set_cons_zero, List.set_cons_succ])
                    refine Gst.ready (rs := [11]) (by kernel_rfl) (by simp) ?_
                    refine Gst.All.cons (o := { dst := some 75, op := Op.call { callee := Callee.builtin Builtin.append, args := #[Operand.tmp 71, Operand.tmp 74], argTypes := #[52, 52] }, type := 52, pos := "law.go:96", after := #[{ on := 7, ground := Ground.data }, { on := 10, ground := Ground.data }, { on := 9, ground := Ground.chain }], guard := none }) rfl (fun KK hK => ?_) ?_
                    · skip
                      refine Gen.step_append_own rfl (.tmp 71) (.tmp 74) 52 rfl w.heap.size 23 i1 _ 1 24 Try.underlying52 HI1.out HY10.out HY11.out HY12.out rfl (by omega) (.slice A3 j c3) j (wsc ws) (by simp [Act.eval]) MD.out.st.o3 ⟨s10, 0, none⟩ 1 1 [.slice Hc mc cHc] (by simp [Act.eval]) rfl (new_cells L10.out) (by intro u hu; rw [List.mem_singleton.1 hu]; rfl) (by unfold maxLen; have := HNI.out; have := HJN.out; omega) (by have := HNI.out; have := HJN.out; omega) MD.out.below.size ?_
                      intro v' XcB hown' hgrow hloc
                      obtain ⟨A3', c3', rfl, _⟩ := own_form hown' (by omega)
                      have ho2 : XcB.ownsRow w.heap.size 23 1 (.slice A3' (j + 1) c3') (j + 1) (wsc (ws ++ [(Hc, cHc, hsC)])) := by
                        rw [appW, show wsc [(Hc, cHc, hsC)] = [.slice Hc mc cHc] from by simp [wsc, wsL, NE.out.len]]
                        exact hown'
                      obtain ⟨M3, hmd⟩ := MD.out.push3 (y := (Hc, cHc, hsC)) hgrow ho2 hloc ⟨row_ofA NE.out.outer (by omega), fun x hx => row_ofA (NE.out.each x hx) (by omega)⟩ (OffR.own NE.out.outer HM9.out) (fun x hx => OffR.own (NE.out.each x hx) HM9.out)
                      have OW := Lib.hid (own_grownA OW.out hgrow (own_kindA OW.out MD.out.st.o3 (by decide)))
                      have MD := Lib.hid hmd
                      clear hmd hown' ho2 hgrow hloc hzle NE L10
                      clear p1 p2
                      have p1 := MD.out.l1.cell (j := 0) rfl; have p2 := MD.out.l2.cell (j := 0) rfl
                      refine hK.out _ _ ⟨fun _ => p1, fun _ => p2⟩ (fun hHeld => ?_)
                      clear hK KK hHeld
                      (try simp only [Act.put, List.setIfInBounds_toArray, List.set_cons_zero, List.set_cons_succ])
                      refine Gst.take (i := 12) (oi := { dst := some 10, op := Op.assign (Operand.tmp 67), type := 23, pos := "law.go:96", after := #[{ on := 3, ground := Ground.data }, { on := 11, ground := Ground.chain }, { on := 0, ground := Ground.phase }, { on := 1, ground := Ground.phase }, { on := 2, ground := Ground.phase }, { on := 3, ground := Ground.phase }, { on := 4, ground := Ground.textOnly Departure.lateStores }, { on := 5, ground := Ground.textOnly Departure.lateStores }, { on := 6, ground := Ground.textOnly Departure.lateStoresUnsure }, { on := 7, ground := Ground.textOnly Departure.inlinedCapture }, { on := 8, ground := Ground.textOnly Departure.lateStores }, { on := 9, ground := Ground.textOnly Departure.lateStoresUnsure }, { on := 10, ground := Ground.textOnly Departure.inlinedCapture }, { on := 11, ground := Ground.textOnly Departure.lateStoresUnsure }], guard := none }) (v := .slice A1' (j + 1) c1') rfl (by kernel_rfl) (by kernel_rfl) (by kernel_rfl) (by rfl) (fun _ _ _ h => h) (Or.inl ⟨by rfl, ?y8⟩) ⟨fun _ => p1, fun _ => p2⟩ ?_
                      case y8 => (intro w9 hSw; go_simp)
                      (try simp only [Act.put, List.setIfInBounds_toArray, List.set_cons_zero, List.set_cons_succ])
                      refine Gst.ready (rs := [13]) (by kernel_rfl) (by simp) ?_
                      refine Gst.All.cons (o := { dst := none, op := Op.store 23 (Operand.tmp 11) (Operand.tmp 70), type := 0, pos := "law.go:96", after := #[{ on := 6, ground := Ground.data }, { on := 12, ground := Ground.chain }, { on := 0, ground := Ground.phase }, { on := 1, ground := Ground.phase }, { on := 2, ground := Ground.phase }, { on := 3, ground := Ground.phase }, { on := 4, ground := Ground.phase }, { on := 5, ground := Ground.phase }, { on := 6, ground := Ground.phase }, { on := 7, ground := Ground.textOnly Departure.inlinedCapture }, { on := 8, ground := Ground.textOnly Departure.lateStores }, { on := 9, ground := Ground.textOnly Departure.lateStoresUnsure }, { on := 10, ground := Ground.textOnly Departure.inlinedCapture }, { on := 11, ground := Ground.textOnly Departure.lateStoresUnsure }, { on := 12, ground := Ground.phase }], guard := none }) rfl (fun KK hK => ?_) ?_
                      · skip
                        have f1 := MD.out.l1.free 0
                        go_simp
                        have MD := Lib.hid (MD.out.put1 (.slice A2' (j + 1) c2'))
                        obtain ⟨XcD, hWn⟩ : ∃ X, X = XcB.setCell ⟨b1, 0, none⟩ (.slice A2' (j + 1) c2') := ⟨_, rfl⟩
                        rw [← hWn] at MD ⊢
                        clear hWn f1 OW
                        clear p1 p2
                        have p1 := MD.out.l1.cell (j := 0) rfl; have p2 := MD.out.l2.cell (j := 0) rfl
                        refine hK.out _ _ ⟨fun e => Gst.gone (by kernel_rfl) e, fun _ => p2⟩ (fun hHeld => ?_)
                        clear hK KK hHeld
                        (try simp only [Act.put, List.setIfInBounds_toArray, List.set_cons_zero, List.set_cons_succ])
                        refine Gst.ready (rs := [14]) (by kernel_rfl) (by simp) ?_
                        refine Gst.All.cons (o := { dst := none, op := Op.store 52 (Operand.tmp 12) (Operand.tmp 75), type := 0, pos := "law.go:96", after := #[{ on := 11, ground := Ground.data }, { on := 13, ground := Ground.chain }, { on := 0, ground := Ground.phase }, { on := 1, ground := Ground.phase }, { on := 2, ground := Ground.phase }, { on := 3, ground := Ground.phase }, { on := 4, ground := Ground.phase }, { on := 5, ground := Ground.phase }, { on := 6, ground := Ground.phase }, { on := 7, ground := Ground.phase }, { on := 8, ground := Ground.phase }, { on := 9, ground := Ground.phase }, { on := 10, ground := Ground.phase }, { on := 11, ground := Ground.phase }, { on := 12, ground := Ground.phase }, { on := 13, ground := Ground.phase }], guard := none }) rfl (fun KK hK => ?_) ?_
                        · skip
                          have f2 := MD.out.l2.free 0
                          go_simp
                          have MD := Lib.hid (MD.out.put2 (.slice A3' (j + 1) c3'))
                          obtain ⟨XcE, hWn⟩ : ∃ X, X = XcD.setCell ⟨b2, 0, none⟩ (.slice A3' (j + 1) c3') := ⟨_, rfl⟩
                          rw [← hWn] at MD ⊢
                          clear hWn f2 p1 p2
                          refine hK.out _ _ ⟨fun e => Gst.gone (by kernel_rfl) e, fun e => Gst.gone (by kernel_rfl) e⟩ (fun hHeld => ?_)
                          clear hK KK hHeld
                          (try simp only [Act.put, List.setIfInBounds_toArray, List.set_cons_zero, List.set_cons_succ])
                          refine Gst.done (by kernel_rfl) ?_ _
                          refine NoPanic.normal ?_
                          (try simp only [Act.put, List.setIfInBounds_toArray, List.set_cons_zero, List.set_cons_succ])
                          have hmd := MD.out
                          rw [← List.replicate_succ'] at hmd
                          have HDN := Lib.hid hmd.d3
                          have LO7 := Lib.hid (hmd.lo (B := B) (fun x hx => (List.mem_append.1 hx).elim (LO6.out.rok x) (fun h => by rw [List.mem_singleton.1 h]; exact HROK.out)) (by rw [List.map_append, List.map_append, LO6.out.wok]; simp [HCU.out]) LO6.out.ka)
                          clear hmd MD LO6 HM9 HCU HV1 HMW HROK hzle
                          go_wp2_with fail
                          go_roundw
                          case rel => exact ⟨j + 1, _, _, _, _, _, _, rfl, rfl, HJN.out, LO7.out, HDN.out⟩
                          case measure => simp [intOf]; have := HJN.out; omega
                        exact Gst.All.nil
                      exact Gst.All.nil
                    exact Gst.All.nil
                  exact Gst.All.nil
                exact Gst.All.nil
              exact Gst.All.nil
            exact Gst.All.nil
          exact Gst.All.nil
        exact Gst.All.nil
      · have hji : ¬ (j : Int) < (n : Int) := by omega
        have hje : j = n := by omega
        clear hlt hj
        go_upto_region 17 with fail
        have hb7 := below_al (o := .cells #[.nilFunc] 55) (below_al (o := .cells #[.bool true] 4) (below_al (o := .cells #[.int .i64 0] 3) (Below.refl wr.heap.size wr)))
        have L16 := Lib.hid ((Lies.new wr #[.int .i64 0] 3).al (o := .cells #[.bool true] 4) |>.al (o := .cells #[.nilFunc] 55))
        have L17 := Lib.hid ((Gen.lies_new1 wr (.cells #[.int .i64 0] 3) #[.bool true] 4).al (o := .cells #[.nilFunc] 55))
        have L18 := Lib.hid (Gen.lies_new2 wr (.cells #[.int .i64 0] 3) (.cells #[.bool true] 4) #[.nilFunc] 55)
        have BW := Lib.hid hb7
        obtain ⟨b16, hb16⟩ : ∃ b, b = wr.heap.size := ⟨_, rfl⟩
        obtain ⟨b17, hb17⟩ : ∃ b, b = wr.heap.size + 1 := ⟨_, rfl⟩
        obtain ⟨b18, hb18⟩ : ∃ b, b = wr.heap.size + 1 + 1 := ⟨_, rfl⟩
        have H16 := Lib.hid hb16; have H17 := Lib.hid hb17; have H18 := Lib.hid hb18
        obtain ⟨W7, hW7⟩ : ∃ W, W = ((wr.alloc (.cells #[.int .i64 0] 3)).alloc (.cells #[.bool true] 4)).alloc (.cells #[.nilFunc] 55) := ⟨_, rfl⟩
        rw [← hW7] at BW L16 L17 L18 ⊢
        rw [← hb18] at L18 ⊢
        rw [← hb17] at L17 ⊢
        rw [← hb16] at L16 ⊢
        clear hW7 hb16 hb17 hb18 hb7
        have f0 := L18.out.cell (j := 0) rfl
        have fz := L18.out.free 0
        go_upto_region 18 with fail
        have hje2 : j = n := hje
        clear hje
        subst hje2
        obtain ⟨A2, c2, rfl, _⟩ := own_form LO.out.st.o2 (by omega)
        obtain ⟨A3, c3, rfl, _⟩ := own_form LO.out.st.o3 (by omega)
        obtain ⟨A1, c1, hv1, _⟩ := own_form LO.out.st.o1 (by omega)
        subst hv1
        have hgx : ∃ g, A2 = some ⟨g, 0, none⟩ := by
          obtain ⟨_, ⟨e, e0⟩ | ⟨g, cap, cur, e, _⟩⟩ := LO.out.st.o2
          · cases e; have := HN1.out; omega
          · cases e; exact ⟨g, rfl⟩
        obtain ⟨g, rfl⟩ := hgx
        have B8 : Hid (Below wr.heap.size wr (W7.setCell ⟨b18, 0, none⟩ (offV ⟨ba, b17, b1, b16, b2, b18⟩))) := Lib.hid (BW.out.setCell (p := ⟨b18, 0, none⟩) (show wr.heap.size ≤ b18 by have := H18.out; omega) _)
        have CU := Lib.hid (LO.out.close H16.out H17.out H18.out B8.out (L16.out.other (by have := H16.out; have := H18.out; omega) 0 _) (L17.out.other (by have := H17.out; have := H18.out; omega) 0 _) (L18.out.set 0 _))
        obtain ⟨W8, hW8⟩ : ∃ W, W = W7.setCell ⟨b18, 0, none⟩ (offV ⟨ba, b17, b1, b16, b2, b18⟩) := ⟨_, rfl⟩
        rw [← hW8] at B8 CU ⊢
        clear hW8 f0 fz L16 L17 L18 BW
        have O1 := Lib.hid (own_upA LO.out.st.o1 B8.out)
        obtain ⟨g1, rfl⟩ := outer_block LO.out.st.o1 (by have := HN1.out; omega)
        have ROK := Lib.hid LO.out.rok
        have WOK := Lib.hid LO.out.wok
        have LRS : Hid (j = rs.length) := Lib.hid (by have := LO.out.st.o1.1; rw [lenH] at this; omega)
        have TU0 : Hid (TuAt w ⟨ba, b17, b1, b16, b2, b18⟩ j g c2 A3 c3 ws g1 c1 (fun k => k = ba ∨ k = b16 ∨ k = b17 ∨ k = g) (fun k => (k = ba ∨ k = b16 ∨ k = b17 ∨ k = g) ∨ (Value.slice (some ⟨g1, 0, none⟩) j c1).ownBlock = some k) (anew j) G cG H cH 0 (List.replicate j noHd) rs W8) := Lib.hid (by
          have hg1 := LO.out.st.o1.lt g1 rfl
          have hw8 := LO.out.below.size
          have e16 := H16.out
          have e17 := H17.out
          have hN0 : ∀ k, ((k = ba ∨ k = b16 ∨ k = b17 ∨ k = g) ∨ (Value.slice (some ⟨g1, 0, none⟩) j c1).ownBlock = some k) → M k ∨ wr.heap.size ≤ k := by
            rintro k ((e | e | e | e) | e)
            · rw [e]; exact .inl LO.out.mb
            · exact .inr (by omega)
            · exact .inr (by omega)
            · rw [e]; exact .inl (LO.out.st.m2 _ rfl)
            · exact .inl (LO.out.st.m1 k e)
          refine ⟨CU.out, O1.out, fun x hx => ⟨(LO.out.st.r1 x hx).1.below B8.out, (LO.out.st.r1 x hx).2.more (LO.out.st.r1 x hx).1 hN0⟩, fun x hx => (LO.out.rok x hx).2.2, ?_, .inr rfl, ?_, below_next LO.out.below B8.out⟩
          · rintro (e | e | e | e)
            · exact Gen.own_apart LO.out.st.o1 LO.out.la (by decide) (by rw [← e]; rfl)
            · omega
            · omega
            · exact LO.out.st.d12 g1 rfl (by rw [e]; rfl)
          · rintro k (e | e | e | e)
            · rw [e]; exact LO.out.ka
            · omega
            · omega
            · rw [e]; exact (LO.out.st.o2.lt g rfl).1)
        clear LO B8 H16 H17 H18 CU
        obtain ⟨wo, hwo⟩ : ∃ wo, wo = W8 := ⟨_, rfl⟩
        go_wp2_with fail
        go_loopw [19, 80] (fun s19 s80 wr => ∃ (t m : Nat), s19 = .int .i64 m ∧ s80 = .int .i64 t ∧ t ≤ j ∧ m = leftL (rs.take t) ∧ wr = W8) (fun _ s80 _ => j - (intOf s80).toNat)
        case atStart => exact ⟨0, 0, rfl, rfl, Nat.zero_le _, rfl, rfl⟩
        case round =>
          obtain ⟨t, m, rfl, rfl, ht, hm, rfl⟩ := hrel
          have HM := Lib.hid hm
          have HM112 : Hid (m ≤ 112) := Lib.hid (by
            have h1 := leftL_le (c := 14) (rs.take t) fun x hx => (ROK.out x (List.mem_of_mem_take hx)).2.1
            have h2 : (rs.take t).length ≤ t := by rw [List.length_take]; omega
            have := HNI.out
            rw [hm]
            have h3 : (rs.take t).length * 14 ≤ 8 * 14 := Nat.mul_le_mul_right _ (by omega)
            omega)
          clear hm
          by_cases hlt2 : t < j
          · obtain ⟨⟨Ax, cx, lx⟩, hx⟩ : ∃ x, rs[t]? = some x := ⟨_, List.getElem?_eq_getElem (by rw [← LRS.out]; exact hlt2)⟩
            obtain ⟨d0, _⟩ := outer_cell O1.out hx
            simp only [hv] at d0
            obtain ⟨xl, hxl⟩ : ∃ xl, xl = lx.length := ⟨_, rfl⟩
            rw [← hxl] at d0
            have HX14 : Hid (xl ≤ 14) := Lib.hid (by rw [hxl]; exact (ROK.out _ (List.mem_of_getElem? hx)).2.1)
            have HST : Hid (m + xl = leftL (rs.take (t + 1))) := Lib.hid (by rw [leftL_step hx, HM.out, hxl])
            have hti : (t : Int) < (j : Int) := by omega
            have ht0 : (0 : Int) ≤ (t : Int) := by omega
            have hw := wrapKA (k := t) (by have := HNI.out; omega)
            have hws : IntKind.i64.wrap ((m : Int) + (xl : Int)) = ((m + xl : Nat) : Int) := by rw [wrapA (by omega) (by have := HM112.out; have := HX14.out; omega)]; omega
            have HJT := Lib.hid hlt2
            clear hx hxl hlt2 ht
            go_wp2_with fail
            go_roundw
            case rel => exact ⟨t + 1, m + xl, rfl, rfl, HJT.out, HST.out, by first | rfl | trivial⟩
            case measure => simp [intOf]; have := HJT.out; omega
          · have hti : ¬ (t : Int) < (j : Int) := by omega
            have HLEFT : Hid (m = leftL rs) := Lib.hid (by rw [HM.out, List.take_of_length_le (by rw [← LRS.out]; omega)])
            clear hlt2 ht HM
            go_upto_region 25 with fail
            obtain ⟨rows, hrows⟩ : ∃ rows, rows = rs.map (fun x => x.2.2) := ⟨_, rfl⟩
            have INV0 : Hid (Inv B j rows (anew j) ((List.replicate j noHd).map (fun x => x.2.2)) 0 (rs.map (fun x => x.2.2))) := Lib.hid (by
              rw [hrows, show (List.replicate j noHd).map (fun x => x.2.2) = List.replicate j [] by simp]
              refine inv_start HN1.out HNI.out.2 (by rw [List.length_map]; exact LRS.out.symm) fun r hr => ?_
              obtain ⟨y, hy, rfl⟩ := List.mem_map.1 hr
              exact ⟨(ROK.out y hy).1, (ROK.out y hy).2.1⟩)
            have WOK2 : Hid (ws.map (fun y => y.2.2.map (fun x => x.2.2)) = rows.map cutsR) := Lib.hid (by rw [WOK.out, hrows, List.map_map]; rfl)
            have HFEW0 : Hid (Few j nz 0 rs) := Lib.hid (fun k x hx => ⟨(ROK.out x (List.mem_of_getElem? hx)).2.1, fun h => by
              have e : nz = 0 := by omega
              rw [e]
              have := (ROK.out x (List.mem_of_getElem? hx)).2.1
              omega⟩)
            have HROWS := Lib.hid hrows
            clear hrows O1 hti
            go_loopw [19, 22] (fun s19 s22 wr => ∃ (m i : Nat) (M1 N1 : Nat → Prop) (a1 : Al) (G1 : Option Addr) (cG1 : Nat) (H1 : Option Addr) (cH1 : Nat) (cut1 : Nat) (hs1 rs1 : List Hd), s19 = .int .i64 m ∧ s22 = .int .i64 i ∧ TuAt w ⟨ba, b17, b1, b16, b2, b18⟩ j g c2 A3 c3 ws g1 c1 M1 N1 a1 G1 cG1 H1 cH1 cut1 hs1 rs1 wr ∧ Inv B j rows a1 (hs1.map (fun x => x.2.2)) cut1 (rs1.map (fun x => x.2.2)) ∧ m = leftL rs1 ∧ Few j nz i rs1) (fun _ s22 _ => nz + 128 - (intOf s22).toNat)
            case atStart => exact ⟨m, 0, _, _, _, _, _, _, _, _, _, rs, rfl, rfl, TU0.out, INV0.out, HLEFT.out, HFEW0.out⟩
            case round =>
              clear TU0 INV0 HLEFT HFEW0 HM112
              obtain ⟨m, i, M1, N1, a1, G1, cG1, H1, cH1, cut1, hs1, rs1, rfl, rfl, htu, hinv, hm, hfew⟩ := hrel
              have TU := Lib.hid htu; have INV := Lib.hid hinv; have HM := Lib.hid hm; have HFEW := Lib.hid hfew
              have o0 := htu.cu.lo.cell (j := 0) rfl
              have HM112 : Hid (m ≤ 112) := Lib.hid (by
                have h1 := leftL_le (c := 14) rs1 fun x hx => by obtain ⟨t, ht⟩ := List.getElem?_of_mem hx; exact (hfew t x ht).1
                have h2 := htu.len
                have := HNI.out
                rw [hm]
                have h3 : rs1.length * 14 ≤ 8 * 14 := Nat.mul_le_mul_right _ (by omega)
                omega)
              clear htu hinv hm hfew
              by_cases h0 : m = 0
              · have e0 : decide (0 < m) = false := decide_eq_false (by omega)
                have e0i : decide ((0 : Int) < (m : Int)) = false := decide_eq_false (by omega)
                have HEND := Lib.hid (inv_end INV.out (fun q hq => by
                  obtain ⟨y, hy, rfl⟩ := List.mem_map.1 hq
                  exact leftL_zero (by rw [← HM.out]; exact h0) y hy))
                have C0 := Lib.hid TU.out.cu
                have B0 := Lib.hid TU.out.below
                have ML := Lib.hid TU.out.mlo
                have INV2 := Lib.hid INV.out
                clear h0 TU HM HFEW HM112 INV
                go_upto_region 39 with fail
                obtain ⟨Wb, hWb⟩ : ∃ W, W = wr := ⟨_, rfl⟩
                have p0 := C0.out.fx.lp.cell (j := 0) rfl
                go_wp2_with fail
                clear p0
                go_loopw [153] (fun s153 wr => ∃ t : Nat, s153 = .int .i64 t ∧ t ≤ j ∧ CuAt M1 N1 ⟨ba, b17, b1, b16, b2, b18⟩ w.heap.size j g c2 A3 c3 ws a1 G1 cG1 H1 cH1 cut1 hs1 wr ∧ Below w.heap.size w wr) (fun s153 _ => j - (intOf s153).toNat)
                case atStart => exact ⟨0, rfl, Nat.zero_le _, C0.out, B0.out⟩
                case round =>
                  clear C0 B0
                  obtain ⟨t, rfl, ht, hcu, hbw⟩ := hrel
                  have C7 := Lib.hid hcu; have BW := Lib.hid hbw
                  clear hcu hbw
                  by_cases hlt : t < j
                  · obtain ⟨ga, pj, la, qa, r, b3, hp, b5, b6, hr, O⟩ := INV2.out.at_ hlt
                    obtain ⟨Aj, cj, hx⟩ := hd_at hp
                    have HP14 := Lib.hid (INV2.out.short hp)
                    obtain ⟨⟨Ay, cy, ly⟩, hy, hym⟩ := want_at WOK2.out hr
                    simp only at hym
                    have hz := HEND.out.2 t pj r hp hr
                    rw [← hym] at hz
                    obtain ⟨Az, cz, hz⟩ := hd_at hz
                    have hyl2 : ly.length = B + 1 := by rw [← O.len, ← hym, List.length_map]
                    obtain ⟨qw, ow, hW1, w1⟩ := wd_row C7.out.fx.wt.row hy
                    have hye := C7.out.fx.wt.each _ (List.mem_of_getElem? hy)
                    obtain ⟨qy, oy, hA1, w2⟩ := head_row hye.1.row hz
                    have hrz := hye.1.each _ (List.mem_of_getElem? hz)
                    simp only at w1 w2 hA1 hrz
                    subst hW1 hA1
                    obtain ⟨m5, hm5⟩ : ∃ m, m = pj.length := ⟨_, rfl⟩
                    have hg := outer_cell C7.out.ne.outer hx
                    have hr1 := (own_rowI (C7.out.ne.each _ (List.mem_of_getElem? hx))).1
                    simp only [hv] at hg hr1
                    rw [← hm5] at w2 hg
                    obtain ⟨yl, hyl⟩ : ∃ yl, yl = B + 1 := ⟨_, rfl⟩
                    rw [hyl2, ← hyl] at w1
                    have HYL := Lib.hid hyl
                    have HLK := Lib.hid (fun (w5 : World) (h1 : Row w5 Aj (itc pj)) (h2 : Row w5 Az (itc pj)) => rfLikeItems pj m5 hm5 (by rw [hm5]; have := HP14.out; omega) Aj Az cj cz w5 h1 h2)
                    have WQ : WqAt ⟨ba, b17, b1, b16, b2, b18⟩ (.slice (some ⟨g, 0, none⟩) j c2) (.slice (some ⟨qw, ow, none⟩) j c3) cut1 g t ⟨qw, ow + t, none⟩ (.slice (some ⟨qy, oy, none⟩) yl cy) ⟨qy, oy + B, none⟩ Aj Az m5 cj cz pj wr :=
                      ⟨C7.out.lo.cell (j := 0) rfl, C7.out.lc.cell (j := 0) rfl, C7.out.fx.lp.cell (j := 0) rfl, C7.out.fx.lw.cell (j := 0) rfl, w1, w2, hg.1, hr1, hrz⟩
                    have hji : (t : Int) < (j : Int) := by omega
                    have hj0 : (0 : Int) ≤ (t : Int) := by omega
                    have hcy : (B : Int) < (yl : Int) := by omega
                    have hc0 : (0 : Int) ≤ (B : Int) := by omega
                    have hwm : IntKind.i64.wrap ((yl : Int) - 1) = (B : Int) := by rw [wrapA (by omega) (by have := HB2.out; omega)]; omega
                    have hwj := wrapKA (k := t) (by have := HNI.out; omega)
                    have HTJ := Lib.hid hlt
                    clear hyl hr hx hp hy hym hz w1 w2 hye hrz hm5 hg hr1 hlt ht b3 b5 b6 O hyl2
                    go_upto_region 42 with fail
                    refine wide_tail 20 (fun w5 => WqAt ⟨ba, b17, b1, b16, b2, b18⟩ (.slice (some ⟨g, 0, none⟩) j c2) (.slice (some ⟨qw, ow, none⟩) j c3) cut1 g t ⟨qw, ow + t, none⟩ (.slice (some ⟨qy, oy, none⟩) yl cy) ⟨qy, oy + B, none⟩ Aj Az m5 cj cz pj w5 ∧ Below wr.heap.size wr w5) (by kernel_rfl) (by kernel_rfl) ⟨WQ.next (below_drewOf (Below.refl _ _)), below_drewOf (Below.refl _ _)⟩ ?_
                    simp only [List.take_succ_cons, List.take_zero, List.drop_succ_cons, List.drop_zero]
                    clear WQ
                    repeat (first
                    | go_big_quiet_skip
                    | (go_big_quiet_want
                       apply wide_op
                       · (intro w5 h5; have x1 := h5.1.o; have x2 := h5.1.c; have x3 := h5.1.p; have x4 := h5.1.wv; have x5 := h5.1.y; have x6 := h5.1.z; have x7 := h5.1.g; go_simp; first | done | with_reducible rfl | (refine (HLK.out _ h5.1.r1 h5.1.r2).mono ?_; rintro e w6 ⟨rfl, hb6⟩; exact ⟨rfl, h5.1.next hb6, below_next h5.2 hb6⟩))
                       (try simp only [Act.put, List.setIfInBounds_toArray, List.set_cons_zero, List.set_cons_succ])
                       go_big_quiet_on))
                    refine wpQuiet_nil ?_
                    rintro w6 ⟨_, hb6⟩
                    have C8 := Lib.hid (C7.out.next hb6)
                    have BW8 := Lib.hid (below_next BW.out hb6)
                    clear C7 BW hb6
                    have o0 := C8.out.lo.cell (j := 0) rfl
                    have oz := C8.out.lo.free 0
                    go_upto_region 43 with fail
                    have C9 := Lib.hid (C8.out.setO).1
                    have BW9 := Lib.hid (BW8.out.setCell (p := ⟨b17, 0, none⟩) (ML.out _ C8.out.fx.no) (.bool true))
                    obtain ⟨W9, hW9⟩ : ∃ W, W = w6.setCell ⟨b17, 0, none⟩ (.bool true) := ⟨_, rfl⟩
                    simp only at C9
                    rw [← hW9] at C9 BW9 ⊢
                    clear hW9 C8 BW8 o0 oz
                    go_wp2_with fail
                    go_roundw
                    case rel => exact ⟨t + 1, rfl, HTJ.out, C9.out, BW9.out⟩
                    case measure => simp [intOf]; have := HTJ.out; omega
                  · have hji : ¬ (t : Int) < (j : Int) := by omega
                    have hcb : cut1 = B := HEND.out.1
                    subst hcb
                    have o0 := C7.out.lo.cell (j := 0) rfl
                    have c0 := C7.out.lc.cell (j := 0) rfl
                    clear hlt ht
                    go_wp2_with fail
                    refine (lawAliveA _).mono ?_
                    rintro e w9 ⟨rfl, hb9⟩
                    have B9 := Lib.hid (below_next BW.out hb9)
                    clear hb9
                    go_wp2_with fail
                    go_ret
                    exact ⟨rfl, B9.out⟩
              · have e0 : decide (0 < m) = true := decide_eq_true (by omega)
                have e0i : decide ((0 : Int) < (m : Int)) = true := decide_eq_true (by omega)
                have him := HFEW.out.lt HN1.out HNI.out.2 TU.out.len (by rw [← HM.out]; omega)
                have hwi := wrapKA (k := i) (by have := HZB.out; omega)
                have hjne : ¬ (j : Int) = 0 := by have := HN1.out; omega
                have hj1 : (0 : Int) < (j : Int) := by have := HN1.out; omega
                have HM1 : Hid (1 ≤ m) := Lib.hid (by omega)
                clear h0
                by_cases hi : i < nz
                · obtain ⟨z, bz, oz, hT1, hzx, hzc⟩ := (HT.out.below TU.out.below).ints (j := i) (by rw [← HZ.out]; exact hi)
                  subst hT1
                  clear hzx
                  obtain ⟨k, hk, hr, q1, q2⟩ := turn_in HN1.out z
                  obtain ⟨q, hq⟩ : ∃ q, z.tmod (j : Int) = q := ⟨_, rfl⟩
                  rw [hq] at hr q1 q2
                  have hr3 : (q + (j : Int)) % (j : Int) = (k : Int) := by rw [← Int.tmod_eq_emod_of_nonneg (by omega)]; exact hr
                  have hw1 : IntKind.i64.wrap q = q := wrapA (by have := HNI.out; omega) (by have := HNI.out; omega)
                  have hw2 : IntKind.i64.wrap (q + (j : Int)) = q + (j : Int) := wrapA (by have := HNI.out; omega) (by have := HNI.out; omega)
                  have hw3 : IntKind.i64.wrap (k : Int) = (k : Int) := wrapA (by have := HNI.out; omega) (by have := HNI.out; omega)
                  have t1 : decide ((i : Int) < (nz : Int)) = true := decide_eq_true (by omega)
                  have t2 : (i : Int) < (nz : Int) := by omega
                  have t3 : (0 : Int) ≤ (i : Int) := by omega
                  obtain ⟨⟨Ax, cx, lx⟩, hx⟩ : ∃ x, rs1[k]? = some x := ⟨_, List.getElem?_eq_getElem (by rw [TU.out.len]; exact hk)⟩
                  obtain ⟨d0, _⟩ := outer_cell TU.out.o1 hx
                  simp only [hv] at d0
                  obtain ⟨xl, hxl⟩ : ∃ xl, xl = lx.length := ⟨_, rfl⟩
                  rw [← hxl] at d0
                  have HXL := Lib.hid hxl
                  have HI := Lib.hid hi
                  clear hxl q1 q2
                  by_cases hl0 : xl = 0
                  · have l0 : ((xl : Int) == 0) = true := eq_b (by omega)
                    have HSK := Lib.hid (HFEW.out.skip HN1.out HNI.out.2 TU.out.len (fun h => absurd hi (by omega)))
                    have HIM := Lib.hid him
                    have hk0 : (0 : Int) ≤ (k : Int) := by omega
                    have hki : (k : Int) < (j : Int) := by omega
                    clear hl0 hx hi him hk
                    go_wp2_with fail
                    go_roundw
                    case rel => exact ⟨m, i + 1, M1, N1, a1, G1, cG1, H1, cH1, cut1, hs1, rs1, rfl, rfl, TU.out, INV.out, HM.out, HSK.out⟩
                    case measure => simp [intOf]; have := HIM.out; omega
                  · have l0 : ((xl : Int) == 0) = false := ne_b (by omega)
                    clear hi
                    obtain ⟨x, q1, rfl⟩ : ∃ x q1, lx = x :: q1 := by
                      cases lx with
                      | nil => have := HXL.out; simp at this; omega
                      | cons a b => exact ⟨a, b, rfl⟩
                    have HXR := Lib.hid hx
                    have hrow := (TU.out.r1 _ (List.mem_of_getElem? hx)).1
                    obtain ⟨bx, ox, hAx, hci⟩ := item_row (k := 0) (x := x) hrow rfl
                    simp only at hAx
                    subst hAx
                    have i00 := hci 0 _ rfl; have i01 := hci 1 _ rfl; have i02 := hci 2 _ rfl; have i03 := hci 3 _ rfl; have i04 := hci 4 _ rfl; have i05 := hci 5 _ rfl; have i06 := hci 6 _ rfl; have i07 := hci 7 _ rfl; have i08 := hci 8 _ rfl; have i09 := hci 9 _ rfl; have i10 := hci 10 _ rfl
                    simp only [Nat.zero_mul, Nat.add_zero] at i00 i01 i02 i03 i04 i05 i06 i07 i08 i09 i10
                    have hcx := TU.out.cap _ (List.mem_of_getElem? hx)
                    simp only [List.length_cons] at hcx
                    have HQ1 : Hid (xl = q1.length + 1) := Lib.hid (by rw [HXL.out]; rfl)
                    have HKJ : Hid (k < j) := Lib.hid hk
                    have HFT : Hid (Few j nz (i + 1) (rs1.set k ((if cx = 1 then some ⟨bx, ox, none⟩ else some ⟨bx, ox + 11, none⟩), cx - 1, q1))) := Lib.hid (HFEW.out.take HN1.out HNI.out.2 TU.out.len hx (by simp) (fun h => absurd HI.out (by omega)))
                    have HLT : Hid (m - 1 = leftL (rs1.set k ((if cx = 1 then some ⟨bx, ox, none⟩ else some ⟨bx, ox + 11, none⟩), cx - 1, q1))) := Lib.hid (by
                      have h1 := leftL_set (rs := rs1) (k := k) (y := ((if cx = 1 then some ⟨bx, ox, none⟩ else some ⟨bx, ox + 11, none⟩), cx - 1, q1)) hx (by simp)
                      have := HM.out
                      omega)
                    have HPN : Hid ((rs1.map (fun x => x.2.2))[k]? = some (x :: q1)) := Lib.hid (by rw [List.getElem?_map, hx]; rfl)
                    obtain ⟨Ay, hAy⟩ : ∃ Ay : Option Addr, Ay = (if cx = 1 then some ⟨bx, ox, none⟩ else some ⟨bx, ox + 11, none⟩) := ⟨_, rfl⟩
                    have HAY := Lib.hid hAy
                    have hslice : ∀ W : World, (Instr.slice 30 (.slice (some ⟨bx, ox, none⟩) xl cx) (some (.int .i64 1)) none none).run Try.prog W = .ok (.slice Ay (xl - 1) (cx - 1)) W := fun W => by
                      obtain ⟨it0, hit0, hit1⟩ := Option.map_eq_some_iff.1 size_it
                      have hsz : (sizeOf 42).run Try.prog W = .ok 11 W := by simp [sizeOf, typeInfo, hit0, hit1]
                      have he : Try.prog.elem 30 = 42 := by kernel_rfl
                      have h := run_slice_l (P := Try.prog) (w := W) 30 (some ⟨bx, ox, none⟩) xl cx Try.underlying30 .i64 1 (by omega) (by have := HQ1.out; omega)
                      rw [h, he, hsz, hAy]
                      by_cases e : cx = 1
                      · simp [sliced, e, Result.andThen]
                      · simp [sliced, e, Result.andThen, Addr.add]
                    have hk0 : (0 : Int) ≤ (k : Int) := by omega
                    have hki : (k : Int) < (j : Int) := by omega
                    have hx0 : (0 : Int) < (xl : Int) := by have := HQ1.out; omega
                    have hwm : IntKind.i64.wrap ((m : Int) - 1) = ((m - 1 : Nat) : Int) := by have := HM1.out; rw [wrapA (by omega) (by have := HM112.out; omega)]; omega
                    have HIM := Lib.hid him
                    clear hx hrow hci hAy hcx hk him
                    go_upto_region 36 with fail
                    have hb24 := below_al (o := .cells (itC x) 42) (Below.refl wr.heap.size wr)
                    have TU1 := Lib.hid (TU.out.next hb24)
                    have L24 := Lib.hid (Lies.new wr (itC x) 42)
                    have HG24 : Hid (wr.heap.size ≠ g1) := Lib.hid (by have := (TU.out.o1.lt g1 rfl).2; omega)
                    obtain ⟨b24, hb24e⟩ : ∃ b, b = wr.heap.size := ⟨_, rfl⟩
                    obtain ⟨X1, hX1⟩ : ∃ W, W = wr.alloc (.cells (itC x) 42) := ⟨_, rfl⟩
                    rw [← hX1] at TU1 L24 ⊢
                    rw [← hb24e] at L24 HG24 ⊢
                    clear hX1 hb24e hb24 d0 i00 i01 i02 i03 i04 i05 i06 i07 i08 i09 i10 o0
                    obtain ⟨d0, df⟩ := outer_cell TU1.out.o1 HXR.out
                    simp only [hv] at d0
                    rw [List.length_cons, ← HQ1.out] at d0
                    go_upto_region 37 with fail
                    have hsh := TU1.out.shift HXR.out
                    rw [← HAY.out, show q1.length = xl - 1 by have := HQ1.out; omega] at hsh
                    have TU2 := Lib.hid hsh
                    have L24 := Lib.hid (L24.out.other HG24.out k (.slice Ay (xl - 1) (cx - 1)))
                    obtain ⟨X2, hX2⟩ : ∃ W, W = X1.setCell ⟨g1, k, none⟩ (.slice Ay (xl - 1) (cx - 1)) := ⟨_, rfl⟩
                    rw [← hX2] at TU2 L24 ⊢
                    clear hX2 hsh d0 df TU1 TU
                    have lf0 := TU2.out.cu.fx.lf.cell (j := 0) rfl
                    have y00 := L24.out.cell (j := 0) rfl; have y01 := L24.out.cell (j := 1) rfl; have y02 := L24.out.cell (j := 2) rfl; have y03 := L24.out.cell (j := 3) rfl; have y04 := L24.out.cell (j := 4) rfl; have y05 := L24.out.cell (j := 5) rfl; have y06 := L24.out.cell (j := 6) rfl; have y07 := L24.out.cell (j := 7) rfl; have y08 := L24.out.cell (j := 8) rfl; have y09 := L24.out.cell (j := 9) rfl; have y10 := L24.out.cell (j := 10) rfl
                    have HCL := Lib.hid (lawOffer ⟨ba, b17, b1, b16, b2, b18⟩ w.heap.size j g c2 B A3 c3 ws rows HB2.out WOK2.out (B - cut1) M1 N1 a1 G1 cG1 H1 cH1 cut1 hs1 X2 _ k x q1 (Nat.le_refl _) TU2.out.cu INV.out HKJ.out HPN.out)
                    go_wp2_with fail
                    refine HCL.out.mono ?_
                    rintro e w9 ⟨rfl, M3, N3, a3, G3, cG3, H3, cH3, cut3, hs3, hc9, hi9, hle, hm9, hmm9, hnn9, hnu9⟩
                    have TU3 := Lib.hid (TU2.out.called hc9 hm9 hmm9 hnn9 hnu9)
                    have INV3 : Hid (Inv B j rows a3 (hs3.map (fun x => x.2.2)) cut3 ((rs1.set k (Ay, cx - 1, q1)).map (fun x => x.2.2))) := Lib.hid (by rw [List.map_set]; exact hi9)
                    rw [← HAY.out] at HFT HLT
                    clear hc9 hi9 hle hm9 hmm9 hnn9 hnu9 TU2 HCL lf0 y00 y01 y02 y03 y04 y05 y06 y07 y08 y09 y10 L24
                    go_wp2_with fail
                    go_roundw
                    case rel => exact ⟨m - 1, i + 1, M3, N3, a3, G3, cG3, H3, cH3, cut3, hs3, _, rfl, rfl, TU3.out, INV3.out, HLT.out, HFT.out⟩
                    case measure => simp [intOf]; have := HIM.out; omega
                · obtain ⟨k, hkm⟩ : ∃ k, i % j = k := ⟨_, rfl⟩
                  have hk : k < j := by rw [← hkm]; exact Nat.mod_lt _ (by have := HN1.out; omega)
                  have hq1 : (i : Int).tmod (j : Int) = (k : Int) := by rw [Int.tmod_eq_emod_of_nonneg (by omega), ← hkm]; rfl
                  have hq2 : (i : Int) % (j : Int) = (k : Int) := by rw [← hkm]; rfl
                  have hq3 : ((k : Int) + (j : Int)).tmod (j : Int) = (k : Int) := by
                    rw [Int.tmod_eq_emod_of_nonneg (by omega), Int.add_emod_right]
                    exact Int.emod_eq_of_lt (by omega) (by omega)
                  have hq4 : ((k : Int) + (j : Int)) % (j : Int) = (k : Int) := by
                    rw [Int.add_emod_right]
                    exact Int.emod_eq_of_lt (by omega) (by omega)
                  have hq5 : (k : Int) % (j : Int) = (k : Int) := Int.emod_eq_of_lt (by omega) (by omega)
                  have hw2 : IntKind.i64.wrap ((k : Int) + (j : Int)) = (k : Int) + (j : Int) := wrapA (by have := HNI.out; omega) (by have := HNI.out; omega)
                  have hw3 : IntKind.i64.wrap (k : Int) = (k : Int) := wrapA (by have := HNI.out; omega) (by have := HNI.out; omega)
                  have t1 : decide ((i : Int) < (nz : Int)) = false := decide_eq_false (by omega)
                  have t2 : ¬ (i : Int) < (nz : Int) := by omega
                  obtain ⟨⟨Ax, cx, lx⟩, hx⟩ : ∃ x, rs1[k]? = some x := ⟨_, List.getElem?_eq_getElem (by rw [TU.out.len]; exact hk)⟩
                  obtain ⟨d0, _⟩ := outer_cell TU.out.o1 hx
                  simp only [hv] at d0
                  obtain ⟨xl, hxl⟩ : ∃ xl, xl = lx.length := ⟨_, rfl⟩
                  rw [← hxl] at d0
                  have HXL := Lib.hid hxl
                  have HKM := Lib.hid hkm
                  clear hxl hi hkm
                  by_cases hl0 : xl = 0
                  · have l0 : ((xl : Int) == 0) = true := eq_b (by omega)
                    have HSK := Lib.hid (HFEW.out.skip HN1.out HNI.out.2 TU.out.len (fun _ x h => by
                      rw [HKM.out, hx] at h
                      cases h
                      have := HXL.out
                      simp only
                      omega))
                    have HIM := Lib.hid him
                    have hk0 : (0 : Int) ≤ (k : Int) := by omega
                    have hki : (k : Int) < (j : Int) := by omega
                    clear hl0 hx him hk
                    go_wp2_with fail
                    go_roundw
                    case rel => exact ⟨m, i + 1, M1, N1, a1, G1, cG1, H1, cH1, cut1, hs1, rs1, rfl, rfl, TU.out, INV.out, HM.out, HSK.out⟩
                    case measure => simp [intOf]; have := HIM.out; omega
                  · have l0 : ((xl : Int) == 0) = false := ne_b (by omega)
                    obtain ⟨x, q1, rfl⟩ : ∃ x q1, lx = x :: q1 := by
                      cases lx with
                      | nil => have := HXL.out; simp at this; omega
                      | cons a b => exact ⟨a, b, rfl⟩
                    have HXR := Lib.hid hx
                    have hrow := (TU.out.r1 _ (List.mem_of_getElem? hx)).1
                    obtain ⟨bx, ox, hAx, hci⟩ := item_row (k := 0) (x := x) hrow rfl
                    simp only at hAx
                    subst hAx
                    have i00 := hci 0 _ rfl; have i01 := hci 1 _ rfl; have i02 := hci 2 _ rfl; have i03 := hci 3 _ rfl; have i04 := hci 4 _ rfl; have i05 := hci 5 _ rfl; have i06 := hci 6 _ rfl; have i07 := hci 7 _ rfl; have i08 := hci 8 _ rfl; have i09 := hci 9 _ rfl; have i10 := hci 10 _ rfl
                    simp only [Nat.zero_mul, Nat.add_zero] at i00 i01 i02 i03 i04 i05 i06 i07 i08 i09 i10
                    have hcx := TU.out.cap _ (List.mem_of_getElem? hx)
                    simp only [List.length_cons] at hcx
                    have HQ1 : Hid (xl = q1.length + 1) := Lib.hid (by rw [HXL.out]; rfl)
                    have HKJ : Hid (k < j) := Lib.hid hk
                    have HFT : Hid (Few j nz (i + 1) (rs1.set k ((if cx = 1 then some ⟨bx, ox, none⟩ else some ⟨bx, ox + 11, none⟩), cx - 1, q1))) := Lib.hid (HFEW.out.take HN1.out HNI.out.2 TU.out.len hx (by simp) (fun _ => HKM.out))
                    have HLT : Hid (m - 1 = leftL (rs1.set k ((if cx = 1 then some ⟨bx, ox, none⟩ else some ⟨bx, ox + 11, none⟩), cx - 1, q1))) := Lib.hid (by
                      have h1 := leftL_set (rs := rs1) (k := k) (y := ((if cx = 1 then some ⟨bx, ox, none⟩ else some ⟨bx, ox + 11, none⟩), cx - 1, q1)) hx (by simp)
                      have := HM.out
                      omega)
                    have HPN : Hid ((rs1.map (fun x => x.2.2))[k]? = some (x :: q1)) := Lib.hid (by rw [List.getElem?_map, hx]; rfl)
                    obtain ⟨Ay, hAy⟩ : ∃ Ay : Option Addr, Ay = (if cx = 1 then some ⟨bx, ox, none⟩ else some ⟨bx, ox + 11, none⟩) := ⟨_, rfl⟩
                    have HAY := Lib.hid hAy
                    have hslice : ∀ W : World, (Instr.slice 30 (.slice (some ⟨bx, ox, none⟩) xl cx) (some (.int .i64 1)) none none).run Try.prog W = .ok (.slice Ay (xl - 1) (cx - 1)) W := fun W => by
                      obtain ⟨it0, hit0, hit1⟩ := Option.map_eq_some_iff.1 size_it
                      have hsz : (sizeOf 42).run Try.prog W = .ok 11 W := by simp [sizeOf, typeInfo, hit0, hit1]
                      have he : Try.prog.elem 30 = 42 := by kernel_rfl
                      have h := run_slice_l (P := Try.prog) (w := W) 30 (some ⟨bx, ox, none⟩) xl cx Try.underlying30 .i64 1 (by omega) (by have := HQ1.out; omega)
                      rw [h, he, hsz, hAy]
                      by_cases e : cx = 1
                      · simp [sliced, e, Result.andThen]
                      · simp [sliced, e, Result.andThen, Addr.add]
                    have hk0 : (0 : Int) ≤ (k : Int) := by omega
                    have hki : (k : Int) < (j : Int) := by omega
                    have hx0 : (0 : Int) < (xl : Int) := by have := HQ1.out; omega
                    have hwm : IntKind.i64.wrap ((m : Int) - 1) = ((m - 1 : Nat) : Int) := by have := HM1.out; rw [wrapA (by omega) (by have := HM112.out; omega)]; omega
                    have HIM := Lib.hid him
                    clear hx hrow hci hAy hcx hk him
                    go_upto_region 36 with fail
                    have hb24 := below_al (o := .cells (itC x) 42) (Below.refl wr.heap.size wr)
                    have TU1 := Lib.hid (TU.out.next hb24)
                    have L24 := Lib.hid (Lies.new wr (itC x) 42)
                    have HG24 : Hid (wr.heap.size ≠ g1) := Lib.hid (by have := (TU.out.o1.lt g1 rfl).2; omega)
                    obtain ⟨b24, hb24e⟩ : ∃ b, b = wr.heap.size := ⟨_, rfl⟩
                    obtain ⟨X1, hX1⟩ : ∃ W, W = wr.alloc (.cells (itC x) 42) := ⟨_, rfl⟩
                    rw [← hX1] at TU1 L24 ⊢
                    rw [← hb24e] at L24 HG24 ⊢
                    clear hX1 hb24e hb24 d0 i00 i01 i02 i03 i04 i05 i06 i07 i08 i09 i10 o0
                    obtain ⟨d0, df⟩ := outer_cell TU1.out.o1 HXR.out
                    simp only [hv] at d0
                    rw [List.length_cons, ← HQ1.out] at d0
                    go_upto_region 37 with fail
                    have hsh := TU1.out.shift HXR.out
                    rw [← HAY.out, show q1.length = xl - 1 by have := HQ1.out; omega] at hsh
                    have TU2 := Lib.hid hsh
                    have L24 := Lib.hid (L24.out.other HG24.out k (.slice Ay (xl - 1) (cx - 1)))
                    obtain ⟨X2, hX2⟩ : ∃ W, W = X1.setCell ⟨g1, k, none⟩ (.slice Ay (xl - 1) (cx - 1)) := ⟨_, rfl⟩
                    rw [← hX2] at TU2 L24 ⊢
                    clear hX2 hsh d0 df TU1 TU
                    have lf0 := TU2.out.cu.fx.lf.cell (j := 0) rfl
                    have y00 := L24.out.cell (j := 0) rfl; have y01 := L24.out.cell (j := 1) rfl; have y02 := L24.out.cell (j := 2) rfl; have y03 := L24.out.cell (j := 3) rfl; have y04 := L24.out.cell (j := 4) rfl; have y05 := L24.out.cell (j := 5) rfl; have y06 := L24.out.cell (j := 6) rfl; have y07 := L24.out.cell (j := 7) rfl; have y08 := L24.out.cell (j := 8) rfl; have y09 := L24.out.cell (j := 9) rfl; have y10 := L24.out.cell (j := 10) rfl
                    have HCL := Lib.hid (lawOffer ⟨ba, b17, b1, b16, b2, b18⟩ w.heap.size j g c2 B A3 c3 ws rows HB2.out WOK2.out (B - cut1) M1 N1 a1 G1 cG1 H1 cH1 cut1 hs1 X2 _ k x q1 (Nat.le_refl _) TU2.out.cu INV.out HKJ.out HPN.out)
                    go_wp2_with fail
                    refine HCL.out.mono ?_
                    rintro e w9 ⟨rfl, M3, N3, a3, G3, cG3, H3, cH3, cut3, hs3, hc9, hi9, hle, hm9, hmm9, hnn9, hnu9⟩
                    have TU3 := Lib.hid (TU2.out.called hc9 hm9 hmm9 hnn9 hnu9)
                    have INV3 : Hid (Inv B j rows a3 (hs3.map (fun x => x.2.2)) cut3 ((rs1.set k (Ay, cx - 1, q1)).map (fun x => x.2.2))) := Lib.hid (by rw [List.map_set]; exact hi9)
                    rw [← HAY.out] at HFT HLT
                    clear hc9 hi9 hle hm9 hmm9 hnn9 hnu9 TU2 HCL lf0 y00 y01 y02 y03 y04 y05 y06 y07 y08 y09 y10 L24
                    go_wp2_with fail
                    go_roundw
                    case rel => exact ⟨m - 1, i + 1, M3, N3, a3, G3, cG3, H3, cH3, cut3, hs3, _, rfl, rfl, TU3.out, INV3.out, HLT.out, HFT.out⟩
                    case measure => simp [intOf]; have := HIM.out; omega

end Aln
end Go.Proofs.Ytgbklmncfajcgaa
