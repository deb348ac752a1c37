/- The reference's Renew. -/
import Derived.Test.YtgoapkbpcfbipaaLeaseG
namespace Go.Proofs.Ytgoapkbpcfbipaa
open Go.ChangeShapes Go.WideShapes Go.ChangeAt Go.RowKit
set_option linter.unusedVariables false
set_option maxRecDepth 8000
namespace Ls
open Gen (TellsB TellsI SaysB row_one flat_len)
open Tick (cl addT)
theorem renew_ret {w wF : World} {R n : Nat} {t : Tb} {z : Int} {A : Option Addr} {c : Nat} {act : Act} (ht : act.tmps.getD 10 undef = .pointer (some ⟨R, 0, none⟩)) (he : act.tmps.getD 11 undef = .int .i64 z) (hd : act.defers = [])
    (hL : Lies R #[.slice A n c, .int .i64 t.last] 24 wF) (h1 : wF.ownsRow w.heap.size 47 3 (.slice A n c) n (lec t.ls)) (hB : Below w.heap.size w wF) :
    bodyPost Try.prog Try.f21 (GivesTE n t z w) .ret act wF := by
  have c0 := hL.cell (j := 0) rfl
  have c1 := hL.cell (j := 1) rfl
  refine bodyPost_ret (v := .tuple #[.agg #[.slice A n c, .int .i64 t.last], .int .i64 z]) ?_ hd ⟨A, c, rfl, h1, hB⟩
  have ht2 : act.tmps[10]?.getD undef = .pointer (some ⟨R, 0, none⟩) := by simpa using ht
  have he2 : act.tmps[11]?.getD undef = .int .i64 z := by simpa using he
  simp [results, Try.results21, go_sem, ht2, he2, c0, c1]
set_option maxRecDepth 100000 in
set_option maxHeartbeats 2000000 in
theorem rfRenew (ls : List Le) (n : Nat) (last g k now long : Int) (A : Option Addr) (c : Nat) (o : Tb × Int) (m : Nat) (hn : n = ls.length) (ho : o = renewO ⟨ls, last⟩ g k (cl now) (addT now long)) (hm : m = o.1.ls.length) (w : World) (h : Row w A (lec ls)) (hl : n ≤ 100000) :
    Calls Try.prog 21 #[.agg #[.slice A n c, .int .i64 last], .int .i64 g, .int .i64 k, .int .i64 now, .int .i64 long] w (GivesTE m o.1 o.2 w) := by
  obtain ⟨q, hq⟩ : ∃ q, q = hasT ⟨ls, last⟩ g := ⟨_, rfl⟩
  obtain ⟨f, hf⟩ : ∃ f, f = fencedO ⟨ls, last⟩ g k := ⟨_, rfl⟩
  have HH := Lib.hid (fun w' (h' : Row w' A (lec ls)) => rfHas ls n last g A c q hn hq w' h' (by omega))
  have HF := Lib.hid (fun w' (h' : Row w' A (lec ls)) => rfFenced ls n last g k A c f hn hf w' h' (by omega))
  have HW := Lib.hid (fun (j : Nat) (x : Le) w' (h' : Row w' A (lec ls)) => rfWith ls n last j x A c hn w' h' hl)
  have HC := Lib.hid (fun o k u r hr w' => rfCounts o k u now r hr w')
  have HAD := Lib.hid (fun w' => rfAddS now long w')
  obtain ⟨ut, hut⟩ : ∃ ut, ut = addT now long := ⟨_, rfl⟩
  rw [← hut] at HAD ho
  have hb0 := below_al (o := .cells #[.slice none 0 0, .int .i64 0] 24) (below_al (o := .cells #[.slice A n c, .int .i64 last] 24) (Below.refl w.heap.size w))
  have HB := Lib.hid hb0
  have HRW := Lib.hid h
  have HR := Lib.hid (h.below hb0)
  have LA := Lib.hid ((Lies.new w #[.slice A n c, .int .i64 last] 24).al (o := .cells #[.slice none 0 0, .int .i64 0] 24))
  have LR := Lib.hid (Gen.lies_new1 w (.cells #[.slice A n c, .int .i64 last] 24) #[.slice none 0 0, .int .i64 0] 24)
  have HO : Hid (o = if q = false then (zT, 1) else if f = true ∨ inF (at_ ⟨ls, last⟩ g) (cl now) = false then (zT, 160) else (⟨setT ⟨ls, last⟩ g ⟨(at_ ⟨ls, last⟩ g).own, (at_ ⟨ls, last⟩ g).tok, max (at_ ⟨ls, last⟩ g).unt ut⟩, last⟩, 0)) := Lib.hid (by rw [ho, hq, hf]; rfl)
  have HN := Lib.hid hn
  have HM := Lib.hid hm
  have HQ1 : Hid (q = true → 0 ≤ g ∧ g < (n : Int)) := Lib.hid (fun e => by rw [hq] at e; rw [hn]; exact ((has_iff _ _).1 e).2)
  clear h hb0 ho hq hf hn hm hut
  go_enter Try.func21, Try.ntmps21
  go_upto_region 1 with fail
  obtain ⟨W, hW⟩ : ∃ W, W = (w.alloc (.cells #[.slice A n c, .int .i64 last] 24)).alloc (.cells #[.slice none 0 0, .int .i64 0] 24) := ⟨_, rfl⟩
  rw [← hW] at LA LR HR HB ⊢
  clear hW
  have x0 := LA.out.cell (j := 0) rfl; have x1 := LA.out.cell (j := 1) rfl
  go_wp2_with fail
  refine (HH.out _ HR.out).mono ?_
  rintro e w1 ⟨rfl, hb1⟩
  have HB1 := Lib.hid (below_next HB.out hb1)
  have LA1 := Lib.hid (LA.out.below hb1)
  have LR1 := Lib.hid (LR.out.below hb1)
  have HR1 := Lib.hid (HR.out.below hb1)
  clear hb1 x0 x1 LA LR HR HB
  have x0 := LA1.out.cell (j := 0) rfl; have x1 := LA1.out.cell (j := 1) rfl
  cases q
  · have e1 : o = (zT, 1) := HO.out
    have y0 := LR1.out.cell (j := 0) rfl; have y1 := LR1.out.cell (j := 1) rfl
    have z0 := LR1.out.free 0; have z1 := LR1.out.free 1
    have hm0 : m = 0 := by rw [HM.out, e1]; rfl
    subst e1
    subst hm0
    clear HO HM HQ1
    go_wp2_with fail
    exact renew_ret rfl rfl rfl (lies_res LR1.out _ _) own_none (below_res HB1.out _ _)
  · have hg := HQ1.out rfl
    obtain ⟨j, rfl⟩ : ∃ j : Nat, g = (j : Int) := ⟨g.toNat, by omega⟩
    obtain ⟨x, hx⟩ : ∃ x, ls[j]? = some x := ⟨_, List.getElem?_eq_getElem (by have := HN.out; omega)⟩
    obtain ⟨qq, off, hA, d0, d1, d2⟩ := lease_row HR1.out hx
    have HAT := Lib.hid (at_nat ls last hx)
    have hji : (j : Int) < (n : Int) := hg.2
    have hbx := below_al (o := .cells (leC x) 47) (Below.refl w1.heap.size w1)
    have HB2 := Lib.hid (below_next HB1.out hbx)
    have LA2 := Lib.hid (LA1.out.below hbx)
    have LR2 := Lib.hid (LR1.out.below hbx)
    have HR2 := Lib.hid (HR1.out.below hbx)
    have LX2 := Lib.hid (Lies.new w1 (leC x) 47)
    clear hg hx hbx
    subst hA
    obtain ⟨ow, tk, un⟩ := x
    simp only at d0 d1 d2
    go_upto_region 4 with fail
    clear d0 d1 d2 x0 x1
    obtain ⟨b9, hb9⟩ : ∃ b, b = w1.heap.size := ⟨_, rfl⟩
    obtain ⟨W2, hW2⟩ : ∃ W, W = w1.alloc (.cells #[.int .i64 ow, .int .i64 tk, .int .i64 un] 47) := ⟨_, rfl⟩
    have HLT1 := Lib.hid (lt_of_block LR1.out)
    try simp only [leC] at LX2 HB2 LA2 LR2 HR2
    rw [← hW2] at HB2 LA2 LR2 HR2 LX2 ⊢
    rw [← hb9] at LX2 HLT1 ⊢
    clear hW2 LA1 LR1 HR1
    have HBW : Hid (w.heap.size ≤ b9) := Lib.hid (by rw [hb9]; exact HB1.out.size)
    clear hb9 HB1
    have x0 := LA2.out.cell (j := 0) rfl; have x1 := LA2.out.cell (j := 1) rfl
    go_wp2_with fail
    refine (HF.out _ HR2.out).mono ?_
    rintro e w3 ⟨rfl, hb2⟩
    have HB3 := Lib.hid (below_next HB2.out hb2)
    have LA3 := Lib.hid (LA2.out.below hb2)
    have LR3 := Lib.hid (LR2.out.below hb2)
    have HR3 := Lib.hid (HR2.out.below hb2)
    have LX3 := Lib.hid (LX2.out.below hb2)
    clear hb2 x0 x1 LA2 LR2 HR2 HB2 LX2
    have a0 := LX3.out.cell (j := 0) rfl; have a1 := LX3.out.cell (j := 1) rfl; have a2 := LX3.out.cell (j := 2) rfl
    cases f
    · obtain ⟨r, hr⟩ : ∃ r, r = inF ⟨ow, tk, un⟩ (cl now) := ⟨_, rfl⟩
      have HCC := Lib.hid (fun w' => HC.out ow tk un r hr w')
      have HOR : Hid (o = if r = false then (zT, 160) else (⟨ls.set j ⟨ow, tk, max un ut⟩, last⟩, 0)) := Lib.hid (by
        rw [HO.out, if_neg (by simp), HAT.out, ← hr]
        cases r
        · rw [if_pos (.inr rfl), if_pos rfl]
        · rw [if_neg (by simp), if_neg (by simp)]; rfl)
      clear HO HC hr
      go_wp2_with fail
      refine (HCC.out _).mono ?_
      rintro e w4 ⟨rfl, hb2⟩
      have HB4 := Lib.hid (below_next HB3.out hb2)
      have LA4 := Lib.hid (LA3.out.below hb2)
      have LR4 := Lib.hid (LR3.out.below hb2)
      have HR4 := Lib.hid (HR3.out.below hb2)
      have LX4 := Lib.hid (LX3.out.below hb2)
      clear hb2 a0 a1 a2 LA3 LR3 HR3 HB3 LX3
      have a0 := LX4.out.cell (j := 0) rfl; have a1 := LX4.out.cell (j := 1) rfl; have a2 := LX4.out.cell (j := 2) rfl
      have HO := HOR
      clear HOR
      cases r
      · have e1 : o = (zT, 160) := HO.out
        have y0 := LR4.out.cell (j := 0) rfl; have y1 := LR4.out.cell (j := 1) rfl
        have z0 := LR4.out.free 0; have z1 := LR4.out.free 1
        have hm0 : m = 0 := by rw [HM.out, e1]; rfl
        subst e1
        subst hm0
        clear HO HM HQ1
        go_wp2_with fail
        exact renew_ret rfl rfl rfl (lies_res LR4.out _ _) own_none (below_res HB4.out _ _)
      · have e1 : o = (⟨ls.set j ⟨ow, tk, max un ut⟩, last⟩, 0) := HO.out
        have hm0 : m = n := by rw [HM.out, e1, HN.out]; exact List.length_set
        subst e1
        subst hm0
        clear HO HM HQ1 HH HF
        have x0 := LA4.out.cell (j := 0) rfl; have x1 := LA4.out.cell (j := 1) rfl
        by_cases hgt : un < ut
        · have hd : decide (un < ut) = true := decide_eq_true hgt
          have HMX : Hid (max un ut = ut) := Lib.hid (by omega)
          have h9 := LX4.out.free 2
          go_wp2_with fail
          go_quiet (first | (go_at_call 36; refine Calls.quiet_of_same (HAD.out _)))
          go_wp2_with fail
          refine (HAD.out _).mono ?_
          rintro e w5 ⟨rfl, rfl⟩
          go_upto_region 8 with fail
          have HB5 := Lib.hid (below_next HB4.out (below_drewN (n := nq) (Below.refl w4.heap.size w4)))
          have HNA : Hid (w.heap.size ≠ b9 ∧ w.heap.size + 1 ≠ b9) := Lib.hid (by have := HLT1.out; omega)
          have HB6 := Lib.hid (HB5.out.setCell (p := ⟨b9, 2, none⟩) HBW.out (.int .i64 ut))
          have LR6 := Lib.hid ((LR4.out.below (below_drewN (n := nq) (Below.refl w4.heap.size w4))).other HNA.out.2 2 (.int .i64 ut))
          have LA6 := Lib.hid ((LA4.out.below (below_drewN (n := nq) (Below.refl w4.heap.size w4))).other HNA.out.1 2 (.int .i64 ut))
          have LX6 : Hid (Lies b9 #[.int .i64 ow, .int .i64 tk, .int .i64 ut] 47 ((w4.drewN nq).setCell ⟨b9, 2, none⟩ (.int .i64 ut))) := Lib.hid (by have := (LX4.out.below (below_drewN (n := nq) (Below.refl w4.heap.size w4))).set 2 (.int .i64 ut); simpa using this)
          have HR6 : Hid (Row ((w4.drewN nq).setCell ⟨b9, 2, none⟩ (.int .i64 ut)) (some ⟨qq, off, none⟩) (lec ls)) := Lib.hid (HRW.out.below HB6.out)
          obtain ⟨W6, hW6⟩ : ∃ W, W = (w4.drewN nq).setCell ⟨b9, 2, none⟩ (.int .i64 ut) := ⟨_, rfl⟩
          rw [← hW6] at HB6 LR6 LA6 LX6 HR6 ⊢
          clear hW6 x0 x1 a0 a1 a2 h9 LA4 LR4 HR4 HB4 LX4 HB5
          have x0 := LA6.out.cell (j := 0) rfl; have x1 := LA6.out.cell (j := 1) rfl
          have a0 := LX6.out.cell (j := 0) rfl; have a1 := LX6.out.cell (j := 1) rfl; have a2 := LX6.out.cell (j := 2) rfl
          go_wp2_with fail
          refine (HW.out j ⟨ow, tk, ut⟩ _ HR6.out).mono ?_
          rintro e w7 ⟨A3, c3, rfl, ho3, hb3⟩
          have HB7 := Lib.hid (below_next HB6.out hb3)
          have LR7 := Lib.hid (LR6.out.below hb3)
          have hlt := lt_of_block LR6.out
          have HO3 := Lib.hid (own_setS (own_setS ho3 ⟨w.heap.size + 1, 0, none⟩ (fun e => by have := (ho3.lt _ e).1; simp only at this; omega) (.slice A3 m c3)) ⟨w.heap.size + 1, 1, none⟩ (fun e => by have := (ho3.lt _ e).1; simp only at this; omega) (.int .i64 last))
          have HSZ := Lib.hid HB6.out.size
          clear hb3 ho3 x0 x1 hlt a0 a1 a2
          have y0 := LR7.out.cell (j := 0) rfl; have y1 := LR7.out.cell (j := 1) rfl
          have z0 := LR7.out.free 0; have z1 := LR7.out.free 1
          go_wp2_with fail
          exact renew_ret rfl rfl rfl (lies_res LR7.out _ _) (by show World.ownsRow _ _ _ _ _ _ (lec (ls.set j ⟨ow, tk, max un ut⟩)); rw [HMX.out]; exact own_baseS HO3.out HSZ.out) (below_res HB7.out _ _)
        · have hd : decide (un < ut) = false := decide_eq_false hgt
          have HMX : Hid (max un ut = un) := Lib.hid (by omega)
          go_wp2_with fail
          go_quiet (first | (go_at_call 36; refine Calls.quiet_of_same (HAD.out _)))
          go_upto_region 8 with fail
          have hbd := below_drewN (n := nq) (Below.refl w4.heap.size w4)
          have HB6 := Lib.hid (below_next HB4.out hbd)
          have LR6 := Lib.hid (LR4.out.below hbd)
          have HR6 := Lib.hid (HR4.out.below hbd)
          clear hbd
          go_wp2_with fail
          refine (HW.out j ⟨ow, tk, un⟩ _ HR6.out).mono ?_
          rintro e w7 ⟨A3, c3, rfl, ho3, hb3⟩
          have HB7 := Lib.hid (below_next HB6.out hb3)
          have LR7 := Lib.hid (LR6.out.below hb3)
          have hlt := lt_of_block LR6.out
          have HO3 := Lib.hid (own_setS (own_setS ho3 ⟨w.heap.size + 1, 0, none⟩ (fun e => by have := (ho3.lt _ e).1; simp only at this; omega) (.slice A3 m c3)) ⟨w.heap.size + 1, 1, none⟩ (fun e => by have := (ho3.lt _ e).1; simp only at this; omega) (.int .i64 last))
          have HSZ := Lib.hid HB6.out.size
          clear hb3 ho3 x0 x1 hlt a0 a1 a2
          have y0 := LR7.out.cell (j := 0) rfl; have y1 := LR7.out.cell (j := 1) rfl
          have z0 := LR7.out.free 0; have z1 := LR7.out.free 1
          go_wp2_with fail
          exact renew_ret rfl rfl rfl (lies_res LR7.out _ _) (by show World.ownsRow _ _ _ _ _ _ (lec (ls.set j ⟨ow, tk, max un ut⟩)); rw [HMX.out]; exact own_baseS HO3.out HSZ.out) (below_res HB7.out _ _)
    · have e1 : o = (zT, 160) := HO.out.trans (by rw [if_neg (by simp), if_pos (.inl rfl)])
      have y0 := LR3.out.cell (j := 0) rfl; have y1 := LR3.out.cell (j := 1) rfl
      have z0 := LR3.out.free 0; have z1 := LR3.out.free 1
      have hm0 : m = 0 := by rw [HM.out, e1]; rfl
      subst e1
      subst hm0
      clear HO HM HQ1
      go_wp2_with fail
      exact renew_ret rfl rfl rfl (lies_res LR3.out _ _) own_none (below_res HB3.out _ _)
end Ls
end Go.Proofs.Ytgoapkbpcfbipaa
