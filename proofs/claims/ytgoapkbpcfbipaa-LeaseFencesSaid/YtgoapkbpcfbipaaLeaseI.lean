/- The code's New, Fenced, Give. -/
import Derived.Test.YtgoapkbpcfbipaaLeaseF
namespace Go.Proofs.Ytgoapkbpcfbipaa
open Go.ChangeShapes Go.WideShapes Go.ChangeAt Go.RowKit
set_option linter.unusedVariables false
set_option maxRecDepth 8000
namespace Ls
open Gen (TellsB TellsI SaysB row_one flat_len flat_get)
open Tick (cl addT)
def newO (g : Int) : Tb × Int := if g < 1 ∨ 32 < g then (zT, 1) else (⟨List.replicate g.toNat ⟨0, 0, 0⟩, 0⟩, 0)
theorem made_lec (n : Nat) : (madeCells (Value.agg #[.int .i64 0, .int .i64 0, .int .i64 0]).cells (n * 3)).toList = lec (List.replicate n ⟨0, 0, 0⟩) := by
  have hl : (lec (List.replicate n (⟨0, 0, 0⟩ : Le))).length = n * 3 := by rw [lec_len, List.length_replicate]
  apply List.ext_getElem?
  intro j
  by_cases hj : j < n * 3
  · have hm : (madeCells (Value.agg #[.int .i64 0, .int .i64 0, .int .i64 0]).cells (n * 3)).toList[j]? = some (((Value.agg #[.int .i64 0, .int .i64 0, .int .i64 0]).cells)[j % 3]!) := by
      rw [Array.getElem?_toList, Array.getElem?_eq_getElem (by rw [size_madeCells]; exact hj)]
      simp only [madeCells, Array.getElem_map, Array.getElem_range]
      rfl
    have hx : (List.replicate n (⟨0, 0, 0⟩ : Le))[j / 3]? = some ⟨0, 0, 0⟩ := by rw [List.getElem?_replicate, if_pos (by omega)]
    have hg := flat_get leL leL_len (n := 3) (j := j % 3) hx (by omega)
    rw [show j / 3 * 3 + j % 3 = j by omega] at hg
    rw [hm]
    show _ = (List.flatMap leL (List.replicate n ⟨0, 0, 0⟩))[j]?
    rw [hg]
    have : j % 3 = 0 ∨ j % 3 = 1 ∨ j % 3 = 2 := by omega
    rcases this with e | e | e <;> rw [e] <;> rfl
  · rw [List.getElem?_eq_none (by rw [Array.length_toList, size_madeCells]; omega), List.getElem?_eq_none (by omega)]
theorem newC_ret {w wF : World} {R n : Nat} {t : Tb} {z : Int} {A : Option Addr} {c : Nat} {act : Act} (ht : act.tmps.getD 2 undef = .pointer (some ⟨R, 0, none⟩)) (he : act.tmps.getD 3 undef = .int .i64 z) (hd : act.defers = [])
    (hL : Lies R #[.slice A n c, .int .i64 t.last] 24 wF) (h1 : wF.ownsRow w.heap.size 47 3 (.slice A n c) n (lec t.ls)) (hB : Below w.heap.size w wF) :
    bodyPost Try.prog Try.f10 (GivesTE n t z w) .ret act wF := by
  have c0 := hL.cell (j := 0) rfl
  have c1 := hL.cell (j := 1) rfl
  refine bodyPost_ret (v := .tuple #[.agg #[.slice A n c, .int .i64 t.last], .int .i64 z]) ?_ hd ⟨A, c, rfl, h1, hB⟩
  have ht2 : act.tmps[2]?.getD undef = .pointer (some ⟨R, 0, none⟩) := by simpa using ht
  have he2 : act.tmps[3]?.getD undef = .int .i64 z := by simpa using he
  simp [results, Try.results10, go_sem, ht2, he2, c0, c1]
set_option maxRecDepth 100000 in
set_option maxHeartbeats 1000000 in
theorem ckNew (g : Int) (o : Tb × Int) (ho : o = newO g) (m : Nat) (hm : m = o.1.ls.length) (w : World) : Calls Try.prog 10 #[.int .i64 g] w (GivesTE m o.1 o.2 w) := by
  have hway : (g < 1 ∧ o = (zT, 1)) ∨ (¬ g < 1 ∧ 32 < g ∧ o = (zT, 1)) ∨ (¬ g < 1 ∧ ¬ 32 < g) := by
    by_cases h1 : g < 1
    · left; exact ⟨h1, ho.trans (if_pos (.inl h1))⟩
    · right
      by_cases h2 : 32 < g
      · left; exact ⟨h1, h2, ho.trans (if_pos (.inr h2))⟩
      · right; exact ⟨h1, h2⟩
  rcases hway with ⟨a1, e⟩ | ⟨a1, a2, e⟩ | ⟨a1, a2⟩
  · have hm0 : m = 0 := by rw [hm, e]; rfl
    subst e
    subst hm0
    clear ho hm
    go_enter Try.func10, Try.ntmps10
    go_wp2_with fail
    exact newC_ret (t := zT) rfl rfl rfl (Lies.new w _ _) own_none (below_al (Below.refl _ _))
  · have hm0 : m = 0 := by rw [hm, e]; rfl
    subst e
    subst hm0
    clear ho hm
    go_enter Try.func10, Try.ntmps10
    go_wp2_with fail
    exact newC_ret (t := zT) rfl rfl rfl (Lies.new w _ _) own_none (below_al (Below.refl _ _))
  · obtain ⟨N, rfl⟩ : ∃ N : Nat, g = N := ⟨g.toNat, by omega⟩
    have e : o = (⟨List.replicate N ⟨0, 0, 0⟩, 0⟩, 0) := ho.trans (if_neg (by omega))
    have hm0 : m = N := by rw [hm, e]; exact List.length_replicate
    subst e
    subst hm0
    clear ho hm
    have hN1 : 1 ≤ m := by omega
    have hN8 : m ≤ 32 := by omega
    obtain ⟨i0, hi, hz0, hz1, hz2⟩ := info_partsS LInfo
    obtain ⟨M, hM⟩ : ∃ M, M = madeCells (Value.agg #[.int .i64 0, .int .i64 0, .int .i64 0]).cells (((m : Nat) : Int).toNat * i0.size) := ⟨_, rfl⟩
    have hMs : M.size = m * 3 := by rw [hM, size_madeCells, hz1]; simp
    have hmk : ∀ W : World, (Instr.makeSlice 22 (.int .i64 (m : Int)) (.int .i64 (m : Int))).run Try.prog W = .ok (.slice (some ⟨W.heap.size, 0, none⟩) m m) (W.alloc (.cells M 47)) := fun W => by
      have h := run_make (P := Try.prog) W 22 47 i0 _ Try.underlying22 hi hz0 .i64 .i64 (m : Int) (m : Int) (by omega) (by omega) (by rw [hz2]; omega) (by omega)
      rw [← hM] at h
      simpa using h
    have HMC := Lib.hid (show M.toList = lec (List.replicate m ⟨0, 0, 0⟩) from by rw [hM, hz1, Int.toNat_natCast]; exact made_lec m)
    have HMS := Lib.hid hMs
    clear hM hMs hi hz0 hz1 hz2
    obtain ⟨ls, hls⟩ : ∃ ls, ls = List.replicate m (⟨0, 0, 0⟩ : Le) := ⟨_, rfl⟩
    rw [← hls] at HMC ⊢
    clear hls
    go_enter Try.func10, Try.ntmps10
    go_wp2_with fail
    have hMl : Lies (w.heap.size + 1) M 47 ((w.alloc (.cells #[.slice (some ⟨w.heap.size + 1, 0, none⟩) m m, .int .i64 0] 24)).alloc (.cells M 47)) := Gen.lies_new1 w _ _ _
    refine newC_ret (t := ⟨ls, 0⟩) rfl rfl rfl ((Lies.new w #[.slice (some ⟨w.heap.size + 1, 0, none⟩) m m, .int .i64 0] 24).al) ⟨?_, .inr ⟨w.heap.size + 1, m, M, rfl, by omega, hMl, Nat.le_refl _, by unfold maxLen; omega, HMS.out, ?_⟩⟩ (below_al (below_al (Below.refl _ _)))
    · rw [← HMC.out, Array.length_toList, HMS.out]
    · rw [← HMC.out, ← HMS.out, ← Array.length_toList, List.take_length]
set_option maxRecDepth 100000 in
theorem ckFenced (ls : List Le) (n : Nat) (last g k : Int) (A : Option Addr) (c : Nat) (r : Bool) (hn : n = ls.length) (hr : r = fencedO ⟨ls, last⟩ g k) (w : World) (h : Row w A (lec ls)) (hl : n ≤ 100000) (hc : n ≤ c) :
    Calls Try.prog 24 #[.agg #[.slice A n c, .int .i64 last], .int .i64 g, .int .i64 k] w (TellsB r w) := by
  obtain ⟨q, hq⟩ : ∃ q, q = hasT ⟨ls, last⟩ g := ⟨_, rfl⟩
  have HRR := Lib.hid (fun w' (h' : Row w' A (lec ls)) => ckHas ls n last g A c q hn hq w' h' hl hc)
  have hb0 := below_al (o := .cells #[.slice A n c, .int .i64 last] 24) (Below.refl w.heap.size w)
  have HB := Lib.hid hb0
  have HR := Lib.hid (h.below hb0)
  have LS := Lib.hid (Lies.new w #[.slice A n c, .int .i64 last] 24)
  have HN := Lib.hid hn
  have HRQ : Hid (r = if q = false then true else decide ((at_ ⟨ls, last⟩ g).own = 0 ∨ (at_ ⟨ls, last⟩ g).tok ≠ k)) := Lib.hid (by rw [hr, hq]; rfl)
  have HQ1 : Hid (q = true → 0 ≤ g ∧ g < (n : Int)) := Lib.hid (fun e => by rw [hq] at e; rw [hn]; exact ((has_iff _ _).1 e).2)
  clear h hb0 hr hq hn hl hc
  go_enter Try.func24, Try.ntmps24
  obtain ⟨tb, htb⟩ : ∃ b, b = w.heap.size := ⟨_, rfl⟩
  obtain ⟨W, hW⟩ : ∃ W, W = w.alloc (.cells #[.slice A n c, .int .i64 last] 24) := ⟨_, rfl⟩
  go_upto_region 1 with fail
  rw [← hW] at LS HR HB ⊢
  rw [← htb] at LS ⊢
  clear hW htb
  have x0 := LS.out.cell (j := 0) rfl; have x1 := LS.out.cell (j := 1) rfl
  go_wp2_with fail
  refine (HRR.out _ HR.out).mono ?_
  rintro e w1 ⟨rfl, hb1⟩
  have HB1 := Lib.hid (below_next HB.out hb1)
  have L1 := Lib.hid (LS.out.below hb1)
  have HR1 := Lib.hid (HR.out.below hb1)
  clear hb1 x0 x1
  have x0 := L1.out.cell (j := 0) rfl
  cases q
  · have hr0 : r = true := by rw [HRQ.out]; rfl
    clear HRQ HQ1
    go_wp2_with fail
    go_ret
    exact ⟨by (try rw [hr0]); rfl, HB1.out⟩
  · have hg := HQ1.out rfl
    obtain ⟨j, rfl⟩ : ∃ j : Nat, g = (j : Int) := ⟨g.toNat, by omega⟩
    obtain ⟨x, hx⟩ : ∃ x, ls[j]? = some x := ⟨_, List.getElem?_eq_getElem (by have := HN.out; omega)⟩
    have hrx : r = decide (x.own = 0 ∨ x.tok ≠ k) := by rw [HRQ.out, at_nat ls last hx]; rfl
    obtain ⟨q, off, rfl, d0, d1, d2⟩ := lease_row HR1.out hx
    have hji : (j : Int) < (n : Int) := hg.2
    obtain ⟨o, t, u⟩ := x
    simp only at d0 d1 d2 hrx
    clear hg hx HRQ HQ1 HRR
    by_cases c1 : o = 0
    · have g1 : (o == 0) = true := eq_b c1
      have hr1 : r = true := hrx.trans (decide_eq_true (.inl c1))
      clear c1 hrx
      go_wp2_with fail
      go_ret
      exact ⟨by (try rw [hr1]); rfl, HB1.out⟩
    · have g1 : (o == 0) = false := ne_b c1
      by_cases c2 : t = k
      · have g2 : (t != k) = false := nb0 c2
        have hr1 : r = false := hrx.trans (decide_eq_false (fun h => h.elim c1 (fun h => h c2)))
        clear c1 c2 hrx
        go_wp2_with fail
        go_ret
        exact ⟨by (try rw [hr1]); rfl, HB1.out⟩
      · have g2 : (t != k) = true := nb c2
        have hr1 : r = true := hrx.trans (decide_eq_true (.inr c2))
        clear c1 c2 hrx
        go_wp2_with fail
        go_ret
        exact ⟨by (try rw [hr1]); rfl, HB1.out⟩
theorem giveC_ret {w wF : World} {R n : Nat} {t : Tb} {z : Int} {A : Option Addr} {c : Nat} {act : Act} (ht : act.tmps.getD 6 undef = .pointer (some ⟨R, 0, none⟩)) (he : act.tmps.getD 7 undef = .int .i64 z) (hd : act.defers = [])
    (hL : Lies R #[.slice A n c, .int .i64 t.last] 24 wF) (h1 : wF.ownsRow w.heap.size 47 3 (.slice A n c) n (lec t.ls)) (hB : Below w.heap.size w wF) :
    bodyPost Try.prog Try.f22 (GivesTE n t z w) .ret act wF := by
  have c0 := hL.cell (j := 0) rfl
  have c1 := hL.cell (j := 1) rfl
  refine bodyPost_ret (v := .tuple #[.agg #[.slice A n c, .int .i64 t.last], .int .i64 z]) ?_ hd ⟨A, c, rfl, h1, hB⟩
  have ht2 : act.tmps[6]?.getD undef = .pointer (some ⟨R, 0, none⟩) := by simpa using ht
  have he2 : act.tmps[7]?.getD undef = .int .i64 z := by simpa using he
  simp [results, Try.results22, go_sem, ht2, he2, c0, c1]
set_option maxRecDepth 100000 in
set_option maxHeartbeats 1000000 in
theorem ckGive (ls : List Le) (n : Nat) (last g k : Int) (A : Option Addr) (c : Nat) (o : Tb × Int) (m : Nat) (hn : n = ls.length) (ho : o = giveO ⟨ls, last⟩ g k) (hm : m = o.1.ls.length) (w : World) (h : Row w A (lec ls)) (hl : n ≤ 100000) (hc : n ≤ c) :
    Calls Try.prog 22 #[.agg #[.slice A n c, .int .i64 last], .int .i64 g, .int .i64 k] w (GivesTE m o.1 o.2 w) := by
  obtain ⟨q, hq⟩ : ∃ q, q = hasT ⟨ls, last⟩ g := ⟨_, rfl⟩
  obtain ⟨f, hf⟩ : ∃ f, f = fencedO ⟨ls, last⟩ g k := ⟨_, rfl⟩
  have HH := Lib.hid (fun w' (h' : Row w' A (lec ls)) => ckHas ls n last g A c q hn hq w' h' hl hc)
  have HF := Lib.hid (fun w' (h' : Row w' A (lec ls)) => ckFenced ls n last g k A c f hn hf w' h' hl hc)
  have HW := Lib.hid (fun (j : Nat) (x : Le) (hj : j < n) w' (h' : Row w' A (lec ls)) => ckWith ls n last j x A c hn w' h' hl hj)
  have hb0 := below_al (o := .cells #[.slice none 0 0, .int .i64 0] 24) (below_al (o := .cells #[.slice A n c, .int .i64 last] 24) (Below.refl w.heap.size w))
  have HB := Lib.hid hb0
  have HR := Lib.hid (h.below hb0)
  have LA := Lib.hid ((Lies.new w #[.slice A n c, .int .i64 last] 24).al (o := .cells #[.slice none 0 0, .int .i64 0] 24))
  have LR := Lib.hid (Gen.lies_new1 w (.cells #[.slice A n c, .int .i64 last] 24) #[.slice none 0 0, .int .i64 0] 24)
  have HO : Hid (o = if q = false then (zT, 1) else if f = true then (zT, 160) else (⟨setT ⟨ls, last⟩ g ⟨0, k, 0⟩, last⟩, 0)) := Lib.hid (by rw [ho, hq, hf]; rfl)
  have HN := Lib.hid hn
  have HM := Lib.hid hm
  have HQ1 : Hid (q = true → 0 ≤ g ∧ g < (n : Int)) := Lib.hid (fun e => by rw [hq] at e; rw [hn]; exact ((has_iff _ _).1 e).2)
  clear h hb0 ho hq hf hn hm hl hc
  go_enter Try.func22, Try.ntmps22
  go_upto_region 1 with fail
  obtain ⟨W, hW⟩ : ∃ W, W = (w.alloc (.cells #[.slice A n c, .int .i64 last] 24)).alloc (.cells #[.slice none 0 0, .int .i64 0] 24) := ⟨_, rfl⟩
  rw [← hW] at LA LR HR HB ⊢
  clear hW
  have x0 := LA.out.cell (j := 0) rfl; have x1 := LA.out.cell (j := 1) rfl
  go_wp2_with fail
  refine (HH.out _ HR.out).mono ?_
  rintro e w1 ⟨rfl, hb1⟩
  have HB1 := Lib.hid (below_next HB.out hb1)
  have LA1 := Lib.hid (LA.out.below hb1)
  have LR1 := Lib.hid (LR.out.below hb1)
  have HR1 := Lib.hid (HR.out.below hb1)
  clear hb1 x0 x1 LA LR HR HB
  have x0 := LA1.out.cell (j := 0) rfl; have x1 := LA1.out.cell (j := 1) rfl
  cases q
  · have e1 : o = (zT, 1) := HO.out
    have y0 := LR1.out.cell (j := 0) rfl; have y1 := LR1.out.cell (j := 1) rfl
    have z0 := LR1.out.free 0; have z1 := LR1.out.free 1
    have hm0 : m = 0 := by rw [HM.out, e1]; rfl
    subst e1
    subst hm0
    clear HO HM HQ1
    go_wp2_with fail
    exact giveC_ret rfl rfl rfl (lies_res LR1.out _ _) own_none (below_res HB1.out _ _)
  · have hg := HQ1.out rfl
    obtain ⟨j, rfl⟩ : ∃ j : Nat, g = (j : Int) := ⟨g.toNat, by omega⟩
    have HJ : Hid (j < n) := Lib.hid (by omega)
    clear hg
    go_wp2_with fail
    refine (HF.out _ HR1.out).mono ?_
    rintro e w2 ⟨rfl, hb2⟩
    have HB2 := Lib.hid (below_next HB1.out hb2)
    have LA2 := Lib.hid (LA1.out.below hb2)
    have LR2 := Lib.hid (LR1.out.below hb2)
    have HR2 := Lib.hid (HR1.out.below hb2)
    clear hb2 x0 x1 LA1 LR1 HR1 HB1
    have x0 := LA2.out.cell (j := 0) rfl; have x1 := LA2.out.cell (j := 1) rfl
    cases f
    · have e1 : o = (⟨ls.set j ⟨0, k, 0⟩, last⟩, 0) := HO.out
      have hm0 : m = n := by rw [HM.out, e1, HN.out]; exact List.length_set
      subst e1
      subst hm0
      clear HO HM HQ1 HH HF
      go_wp2_with fail
      refine (HW.out j ⟨0, k, 0⟩ HJ.out _ HR2.out).mono ?_
      rintro e w3 ⟨A3, c3, rfl, ho3, hb3⟩
      have HB3 := Lib.hid (below_next HB2.out hb3)
      have LR3 := Lib.hid (LR2.out.below hb3)
      have hlt := lt_of_block LR2.out
      have HO3 := Lib.hid (own_setS (own_setS ho3 ⟨w.heap.size + 1, 0, none⟩ (fun e => by have := (ho3.lt _ e).1; simp only at this; omega) (.slice A3 m c3)) ⟨w.heap.size + 1, 1, none⟩ (fun e => by have := (ho3.lt _ e).1; simp only at this; omega) (.int .i64 last))
      have HSZ : Hid (w.heap.size ≤ w2.heap.size) := Lib.hid (by omega)
      clear hb3 ho3 x0 x1 hlt
      have y0 := LR3.out.cell (j := 0) rfl; have y1 := LR3.out.cell (j := 1) rfl
      have z0 := LR3.out.free 0; have z1 := LR3.out.free 1
      go_wp2_with fail
      exact giveC_ret rfl rfl rfl (lies_res LR3.out _ _) (own_baseS HO3.out HSZ.out) (below_res HB3.out _ _)
    · have e1 : o = (zT, 160) := HO.out
      have y0 := LR2.out.cell (j := 0) rfl; have y1 := LR2.out.cell (j := 1) rfl
      have z0 := LR2.out.free 0; have z1 := LR2.out.free 1
      have hm0 : m = 0 := by rw [HM.out, e1]; rfl
      subst e1
      subst hm0
      clear HO HM HQ1
      go_wp2_with fail
      exact giveC_ret rfl rfl rfl (lies_res LR2.out _ _) own_none (below_res HB2.out _ _)
end Ls
end Go.Proofs.Ytgoapkbpcfbipaa
