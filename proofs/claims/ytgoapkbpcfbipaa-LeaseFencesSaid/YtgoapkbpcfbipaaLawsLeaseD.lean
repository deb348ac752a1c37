/- The walk of the law LeaseRenews. -/
import Derived.Test.YtgoapkbpcfbipaaLawsLeaseC
namespace Go.Proofs.Ytgoapkbpcfbipaa
open Go.ChangeShapes Go.WideShapes Go.ChangeAt Go.RowKit
set_option linter.unusedVariables false
set_option maxRecDepth 8000
namespace Ls
open Gen (TellsB TellsI SaysB row_one flat_len flat_get)
open Tick (cl addT)
theorem hasT_len {t : Tb} {g : Int} (h : hasT t g = true) : ∃ (j : Nat) (x : Le), g = (j : Int) ∧ t.ls[j]? = some x ∧ at_ t g = x := by
  obtain ⟨hok, hg⟩ := (has_iff _ _).1 h
  exact ⟨g.toNat, at_ t g, by omega, at_get hg, rfl⟩
theorem renew_bad {t : Tb} {g k now ut : Int} (h : (renewO t g k now ut).2 ≠ 0) : (renewO t g k now ut).1 = zT := by
  unfold renewO at h ⊢
  by_cases h1 : hasT t g = false
  · rw [if_pos h1]
  · rw [if_neg h1] at h ⊢
    by_cases h2 : fencedO t g k = true ∨ inF (at_ t g) now = false
    · rw [if_pos h2]
    · rw [if_neg h2] at h
      exact absurd rfl h
/-- What renewing has done, where it was not refused. -/
structure Renewed (t : Tb) (g k now ut : Int) (o : Tb × Int) (j : Nat) (x : Le) : Prop where
  ok : Ok t
  place : g = (j : Int)
  get : t.ls[j]? = some x
  is : o = (⟨t.ls.set j ⟨x.own, x.tok, max x.unt ut⟩, t.last⟩, 0)
  own : 0 < x.own
  tok : x.tok = k
  unt : now < x.unt
theorem fenced_no {t : Tb} {g k : Int} (h : hasT t g = true) (hf : fencedO t g k = false) : (at_ t g).own ≠ 0 ∧ (at_ t g).tok = k := by
  unfold fencedO at hf
  rw [if_neg (by rw [h]; simp)] at hf
  have := of_decide_eq_false hf
  exact ⟨fun e => this (.inl e), Classical.byContradiction fun e => this (.inr e)⟩
theorem renew_ok {t : Tb} {g k now ut : Int} (h : (renewO t g k now ut).2 = 0) : ∃ j x, Renewed t g k now ut (renewO t g k now ut) j x := by
  unfold renewO at h ⊢
  by_cases h1 : hasT t g = false
  · rw [if_pos h1] at h
    exact absurd h (by decide)
  · rw [if_neg h1] at h ⊢
    by_cases h2 : fencedO t g k = true ∨ inF (at_ t g) now = false
    · rw [if_pos h2] at h
      exact absurd h (by decide)
    · rw [if_neg h2] at h ⊢
      have hh : hasT t g = true := by simpa using h1
      obtain ⟨hok, hg⟩ := (has_iff _ _).1 hh
      obtain ⟨j, x, e1, e2, e3⟩ := hasT_len hh
      obtain ⟨f1, f2⟩ := fenced_no hh (by simpa using fun e => h2 (.inl e))
      have f3 : inF (at_ t g) now = true := by simpa using fun e => h2 (.inr e)
      rw [e3] at f1 f2 f3
      unfold inF at f3
      have f4 := of_decide_eq_true f3
      refine ⟨j, x, hok, e1, e2, ?_, f4.1, f2, f4.2⟩
      rw [e3]
      unfold setT
      rw [e1, Int.toNat_natCast]
theorem Renewed.has {t : Tb} {g k now ut : Int} {o : Tb × Int} {j : Nat} {x : Le} (h : Renewed t g k now ut o j x) (hu : 0 ≤ ut ∧ ut ≤ fin) : Ok o.1 ∧ hasT o.1 g = true ∧ fencedO o.1 g k = false := by
  have hj := (List.getElem?_eq_some_iff.1 h.get).1
  have hx := (okL_iff _ _).1 (h.ok.each j x h.get)
  have h1 : Ok o.1 := by
    rw [h.is]
    have h3 := ok_set h.ok (g := (j : Int)) ⟨by omega, by omega⟩ (x := ⟨x.own, x.tok, max x.unt ut⟩) (last := t.last) ⟨Int.le_refl _, h.ok.last.2⟩ ((okL_iff _ _).2 ⟨hx.1, hx.2.1, ⟨by show 0 ≤ max x.unt ut; omega, by show max x.unt ut ≤ fin; have := hx.2.2.1.2; omega⟩, fun e => by have := h.own; simp only at e; omega, hx.2.2.2.2⟩)
      (fun i y hi hy h0 => by
        rw [Int.toNat_natCast] at hi
        rcases Nat.lt_or_ge i j with hij | hij
        · exact h.ok.solo j i x y hij h.get hy h0
        · intro e
          exact h.ok.solo i j y x (by omega) hy h.get (by rw [e]; exact h0) e.symm)
    unfold setT at h3
    rw [Int.toNat_natCast] at h3
    exact h3
  have h2 : hasT o.1 g = true := (has_iff _ _).2 ⟨h1, by rw [h.place]; omega, by rw [h.place, h.is]; show (j : Int) < ((t.ls.set j _).length : Int); rw [List.length_set]; omega⟩
  refine ⟨h1, h2, ?_⟩
  unfold fencedO
  rw [if_neg (by rw [h2]; simp)]
  refine decide_eq_false ?_
  have : at_ o.1 g = ⟨x.own, x.tok, max x.unt ut⟩ := by
    rw [h.place, h.is]
    exact at_nat _ _ (by rw [List.getElem?_set_self hj])
  rw [this]
  have h3 := h.own
  have h4 := h.tok
  rintro (e | e)
  · simp only at e; omega
  · exact e h4
theorem clamp_as (x : Int) : min (max x 0) 1099511627776 = cl x := by
  unfold cl
  split
  · omega
  · split <;> omega
theorem addT_lo (a b : Int) : 0 ≤ addT a b ∧ addT a b ≤ fin := ⟨Tick.cl_lo _, Tick.cl_hi _⟩
/-- The law's blocks. -/
structure RnAt (w0 : World) (b0 b2 : Nat) (t o : Tb) (n m : Nat) (A A2 : Option Addr) (c c2 : Nat) (w : World) : Prop where
  t0 : TbAt b0 t n A c w
  t2 : TbAt b2 o m A2 c2 w
  below : Below w0.heap.size w0 w
theorem RnAt.next {w0 : World} {b0 b2 : Nat} {t o : Tb} {n m : Nat} {A A2 : Option Addr} {c c2 : Nat} {w w' : World} (h : RnAt w0 b0 b2 t o n m A A2 c c2 w) (hb : Below w.heap.size w w') : RnAt w0 b0 b2 t o n m A A2 c c2 w' :=
  ⟨h.t0.next hb, h.t2.next hb, below_next h.below hb⟩
set_option maxRecDepth 100000 in
set_option maxHeartbeats 2000000 in
theorem walkRenews (ls : List Le) (last g k now long : Int) (A : Option Addr) (c : Nat) (w : World) (h : Row w A (lec ls)) (hc : ls.length ≤ c) :
    Calls Try.prog 8 #[.agg #[.slice A ls.length c, .int .i64 last], .int .i64 g, .int .i64 k, .int .i64 now, .int .i64 long] w (TellsB true w) := by
  obtain ⟨n, hn⟩ : ∃ n, n = ls.length := ⟨_, rfl⟩
  rw [← hn] at hc ⊢
  have T0 := Lib.hid (TbAt.new (t := ⟨ls, last⟩) h hn hc)
  have HB := Lib.hid (below_al (o := .cells #[.slice A n c, .int .i64 last] 24) (Below.refl w.heap.size w))
  obtain ⟨r, hr⟩ : ∃ r, r = decide (n ≤ 100) := ⟨_, rfl⟩
  have HS := Lib.hid (fun w' => lawSmall A n c last r hr w')
  have HAL := Lib.hid (fun w' => lawAlive w')
  obtain ⟨ut, hut⟩ : ∃ ut, ut = addT now long := ⟨_, rfl⟩
  obtain ⟨t, ht⟩ : ∃ t, t = cl now := ⟨_, rfl⟩
  obtain ⟨o, ho⟩ : ∃ o, o = renewO ⟨ls, last⟩ g k t ut := ⟨_, rfl⟩
  obtain ⟨m, hm⟩ : ∃ m, m = o.1.ls.length := ⟨_, rfl⟩
  have HBAD : Hid (o.2 ≠ 0 → o.1 = zT) := Lib.hid (by rw [ho]; exact renew_bad)
  have HOK : Hid (o.2 = 0 → ∃ j x, Renewed ⟨ls, last⟩ g k t ut o j x) := Lib.hid (by rw [ho]; exact renew_ok)
  have HG := Lib.hid (fun (h1 : n ≤ 100) w' (h' : Row w' A (lec ls)) => ckRenew ls n last g k now long A c o m hn (by rw [ho, ht, hut]) hm w' h' (by omega) hc)
  have HF := Lib.hid (fun f hf (h1 : m ≤ 100000) A2 c2 (hc2 : m ≤ c2) w' (h' : Row w' A2 (lec o.1.ls)) => ckFenced o.1.ls m o.1.last g k A2 c2 f hm hf w' h' h1 hc2)
  have HC := Lib.hid (fun o k u now r hr w' => rfCounts o k u now r hr w')
  have HRR := Lib.hid hr
  have HM := Lib.hid hm
  have HN := Lib.hid hn
  have HUT := Lib.hid hut
  have HT := Lib.hid ht
  clear h hn hc ho hm hr hut ht
  obtain ⟨⟨ms, la⟩, z⟩ := o
  simp only at HF HM HBAD HOK
  go_enter Try.func8, Try.ntmps8
  go_upto_region 1 with fail
  obtain ⟨b0, hb0⟩ : ∃ b, b = w.heap.size := ⟨_, rfl⟩
  obtain ⟨W, hW⟩ : ∃ W, W = w.alloc (.cells #[.slice A n c, .int .i64 last] 24) := ⟨_, rfl⟩
  rw [← hW] at T0 HB ⊢
  rw [← hb0] at T0 ⊢
  clear hW hb0
  have x0 := T0.out.at_.cell (j := 0) rfl; have x1 := T0.out.at_.cell (j := 1) rfl
  go_wp2_with fail
  refine (HS.out _).mono ?_
  rintro e w1 ⟨rfl, hb1⟩
  have HB1 := Lib.hid (below_next HB.out hb1)
  have T1 := Lib.hid (T0.out.next hb1)
  clear hb1 x0 x1 HB T0
  cases r
  · go_wp2_with fail
    go_ret
    exact ⟨rfl, HB1.out⟩
  · have HN1 : Hid (n ≤ 100) := Lib.hid (of_decide_eq_true HRR.out.symm)
    have x0 := T1.out.at_.cell (j := 0) rfl; have x1 := T1.out.at_.cell (j := 1) rfl
    go_wp2_with fail
    refine (HG.out HN1.out _ T1.out.row).mono ?_
    rintro e w2 ⟨A2, c2, rfl, ho2, hb2⟩
    have hbk := below_next hb2 (below_al (o := .cells #[.slice A2 m c2, .int .i64 la] 24) (Below.refl w2.heap.size w2))
    have HB2 := Lib.hid (below_next HB1.out hbk)
    have T2 := Lib.hid (T1.out.next hbk)
    have U2 := Lib.hid (TbAt.own (t := ⟨ms, la⟩) ho2)
    clear hb2 x0 x1 T1 HB1 hbk HG HS
    go_upto_region 4 with fail
    obtain ⟨b2, hb2⟩ : ∃ b, b = w2.heap.size := ⟨_, rfl⟩
    obtain ⟨W2, hW2⟩ : ∃ W, W = w2.alloc (.cells #[.slice A2 m c2, .int .i64 la] 24) := ⟨_, rfl⟩
    rw [← hW2] at T2 HB2 U2 ⊢
    rw [← hb2] at U2 ⊢
    clear hW2 hb2 ho2
    have K2 : Hid (RnAt w b0 b2 ⟨ls, last⟩ ⟨ms, la⟩ n m A A2 c c2 W2) := Lib.hid ⟨T2.out, U2.out, HB2.out⟩
    clear T2 U2 HB2
    rcases (Classical.em (z = 0)).symm with hz | hz
    · have gz : (z != 0) = true := nb hz
      have e1 := HBAD.out hz
      have e2 : ms = [] := congrArg Tb.ls e1
      have e3 : la = 0 := congrArg Tb.last e1
      have e4 : m = 0 := by rw [HM.out, e2]; rfl
      clear HBAD HOK hz e1 HF HM
      subst e2 e3 e4
      go_wp2_with fail
      refine (HAL.out _).mono ?_
      rintro e w3 ⟨rfl, hb3⟩
      have K3 := Lib.hid (K2.out.next hb3)
      clear hb3
      have y0 := K3.out.t2.at_.cell (j := 0) rfl
      go_wp2_with fail
      go_ret
      exact ⟨rfl, K3.out.below⟩
    · obtain ⟨j, x, hrn⟩ := HOK.out hz
      have HRN := Lib.hid hrn
      obtain ⟨mx, hmx⟩ : ∃ mx, mx = max x.unt ut := ⟨_, rfl⟩
      have e2 : ms = ls.set j ⟨x.own, x.tok, mx⟩ := by rw [hmx]; exact congrArg (fun o => o.1.ls) hrn.is
      have e3 : la = last := congrArg (fun o => o.1.last) hrn.is
      have e4 : m = n := by rw [HM.out, e2, List.length_set, HN.out]
      have e5 : g = (j : Int) := hrn.place
      have HX : Hid (ls[j]? = some x) := Lib.hid hrn.get
      have HJ : Hid (j < n) := Lib.hid (by rw [HN.out]; exact (List.getElem?_eq_some_iff.1 hrn.get).1)
      have HMX := Lib.hid hmx
      have HMS := Lib.hid e2
      have HMG : Hid (ms[j]? = some ⟨x.own, x.tok, mx⟩) := Lib.hid (by rw [e2]; exact List.getElem?_set_self (by have := HJ.out; have := HN.out; omega))
      have HFF := Lib.hid (hrn.has (by rw [HUT.out]; exact addT_lo _ _)).2.2
      clear hrn hmx e2 HBAD HOK HM
      subst hz e3 e4 e5
      have HFE := Lib.hid (HF.out false HFF.out.symm)
      clear HF HFF
      have x0 := K2.out.t0.at_.cell (j := 0) rfl; have x1 := K2.out.t0.at_.cell (j := 1) rfl
      have y0 := K2.out.t2.at_.cell (j := 0) rfl; have y1 := K2.out.t2.at_.cell (j := 1) rfl
      go_wp2_with fail
      clear x0 x1 y0 y1
      go_loopw [54] (fun i wr => ∃ k : Nat, i = .int .i64 k ∧ k ≤ m ∧ RnAt w b0 b2 ⟨ls, la⟩ ⟨ms, la⟩ m m A A2 c c2 wr) (fun i _ => m - (intOf i).toNat)
      case atStart => exact ⟨0, rfl, Nat.zero_le _, K2.out⟩
      case round =>
        clear K2
        obtain ⟨i, rfl, hi, hk⟩ := hrel
        have K := Lib.hid hk
        clear hk
        by_cases hlt : i < m
        · obtain ⟨y, hy⟩ : ∃ y, ls[i]? = some y := ⟨_, List.getElem?_eq_getElem (by rw [← HN.out]; exact hlt)⟩
          have hki : (i : Int) < (m : Int) := by omega
          have hw := wrapK (k := i) (by have := HN1.out; omega)
          by_cases hij : i = j
          · subst hij
            have hyx : y = x := by have := HX.out; rw [hy] at this; exact Option.some.inj this
            subst hyx
            have HY := Lib.hid hy
            obtain ⟨q1, off1, hA1, d0, d1, d2⟩ := lease_row K.out.t0.row hy
            obtain ⟨q2, off2, hA2, f0, f1, f2⟩ := lease_row K.out.t2.row HMG.out
            subst hA1 hA2
            clear hy
            obtain ⟨ow, tk, un⟩ := y
            simp only at d0 d1 d2 f0 f1 f2
            have hmu : decide (mx < un) = false := decide_eq_false (by rw [HMX.out]; simp only; omega)
            have x0 := K.out.t0.at_.cell (j := 0) rfl
            have y0 := K.out.t2.at_.cell (j := 0) rfl
            go_upto_region 11 with fail
            have hb3 := below_al (o := .cells #[.int .i64 ow, .int .i64 tk, .int .i64 mx] 47) (Below.refl wr.heap.size wr)
            have K3 := Lib.hid (K.out.next hb3)
            have L3 := Lib.hid (Lies.new wr #[.int .i64 ow, .int .i64 tk, .int .i64 mx] 47)
            obtain ⟨b3, hb3e⟩ : ∃ b, b = wr.heap.size := ⟨_, rfl⟩
            obtain ⟨W3, hW3⟩ : ∃ W, W = wr.alloc (.cells #[.int .i64 ow, .int .i64 tk, .int .i64 mx] 47) := ⟨_, rfl⟩
            rw [← hW3] at K3 L3 ⊢
            rw [← hb3e] at L3 ⊢
            clear hW3 hb3e hb3 x0 y0 d0 d1 d2 f0 f1 f2
            obtain ⟨q3, off3, hA3, d0, d1, d2⟩ := lease_row K3.out.t0.row HY.out
            cases hA3
            simp only at d0 d1 d2
            have x0 := K3.out.t0.at_.cell (j := 0) rfl
            go_upto_region 12 with fail
            have hb4 := below_al (o := .cells #[.int .i64 ow, .int .i64 tk, .int .i64 un] 47) (Below.refl W3.heap.size W3)
            have K4 := Lib.hid (K3.out.next hb4)
            have L4 := Lib.hid (L3.out.below hb4)
            have M4 := Lib.hid (Lies.new W3 #[.int .i64 ow, .int .i64 tk, .int .i64 un] 47)
            obtain ⟨b4, hb4e⟩ : ∃ b, b = W3.heap.size := ⟨_, rfl⟩
            obtain ⟨W4, hW4⟩ : ∃ W, W = W3.alloc (.cells #[.int .i64 ow, .int .i64 tk, .int .i64 un] 47) := ⟨_, rfl⟩
            rw [← hW4] at K4 L4 M4 ⊢
            rw [← hb4e] at M4 ⊢
            clear hW4 hb4e hb4 x0 d0 d1 d2
            have z0 := L4.out.cell (j := 0) rfl; have z1 := L4.out.cell (j := 1) rfl; have z2 := L4.out.cell (j := 2) rfl
            have v0 := M4.out.cell (j := 0) rfl; have v1 := M4.out.cell (j := 1) rfl; have v2 := M4.out.cell (j := 2) rfl
            go_wp2_with fail
            go_roundw
            case rel => exact ⟨i + 1, rfl, by omega, K4.out⟩
            case measure => simp [intOf]; omega
          · have HY := Lib.hid hy
            have HYM : Hid (ms[i]? = some y) := Lib.hid (by rw [HMS.out, List.getElem?_set_ne (fun e => hij e.symm)]; exact hy)
            obtain ⟨q1, off1, hA1, d0, d1, d2⟩ := lease_row K.out.t0.row hy
            obtain ⟨q2, off2, hA2, f0, f1, f2⟩ := lease_row K.out.t2.row HYM.out
            subst hA1 hA2
            clear hy
            obtain ⟨ow, tk, un⟩ := y
            simp only at d0 d1 d2 f0 f1 f2
            have hmu : decide (un < un) = false := decide_eq_false (by omega)
            have gij : ((i : Int) != (j : Int)) = true := nb (by omega)
            have he : ∀ w : World, (binOp .neq 47 (.agg #[.int .i64 ow, .int .i64 tk, .int .i64 un]) (.agg #[.int .i64 ow, .int .i64 tk, .int .i64 un])).run Try.prog w = .ok (.bool false) w := fun w => run_sameLe ⟨ow, tk, un⟩ w
            clear hij
            have x0 := K.out.t0.at_.cell (j := 0) rfl
            have y0 := K.out.t2.at_.cell (j := 0) rfl
            go_upto_region 11 with fail
            have hb3 := below_al (o := .cells #[.int .i64 ow, .int .i64 tk, .int .i64 un] 47) (Below.refl wr.heap.size wr)
            have K3 := Lib.hid (K.out.next hb3)
            have L3 := Lib.hid (Lies.new wr #[.int .i64 ow, .int .i64 tk, .int .i64 un] 47)
            obtain ⟨b3, hb3e⟩ : ∃ b, b = wr.heap.size := ⟨_, rfl⟩
            obtain ⟨W3, hW3⟩ : ∃ W, W = wr.alloc (.cells #[.int .i64 ow, .int .i64 tk, .int .i64 un] 47) := ⟨_, rfl⟩
            rw [← hW3] at K3 L3 ⊢
            rw [← hb3e] at L3 ⊢
            clear hW3 hb3e hb3 x0 y0 d0 d1 d2 f0 f1 f2
            obtain ⟨q3, off3, hA3, d0, d1, d2⟩ := lease_row K3.out.t0.row HY.out
            cases hA3
            simp only at d0 d1 d2
            have x0 := K3.out.t0.at_.cell (j := 0) rfl
            go_upto_region 12 with fail
            have hb4 := below_al (o := .cells #[.int .i64 ow, .int .i64 tk, .int .i64 un] 47) (Below.refl W3.heap.size W3)
            have K4 := Lib.hid (K3.out.next hb4)
            have L4 := Lib.hid (L3.out.below hb4)
            have M4 := Lib.hid (Lies.new W3 #[.int .i64 ow, .int .i64 tk, .int .i64 un] 47)
            obtain ⟨b4, hb4e⟩ : ∃ b, b = W3.heap.size := ⟨_, rfl⟩
            obtain ⟨W4, hW4⟩ : ∃ W, W = W3.alloc (.cells #[.int .i64 ow, .int .i64 tk, .int .i64 un] 47) := ⟨_, rfl⟩
            rw [← hW4] at K4 L4 M4 ⊢
            rw [← hb4e] at M4 ⊢
            clear hW4 hb4e hb4 x0 d0 d1 d2
            have z0 := L4.out.cell (j := 0) rfl; have z1 := L4.out.cell (j := 1) rfl; have z2 := L4.out.cell (j := 2) rfl
            have v0 := M4.out.cell (j := 0) rfl; have v1 := M4.out.cell (j := 1) rfl; have v2 := M4.out.cell (j := 2) rfl
            go_wp2_with fail
            go_roundw
            case rel => exact ⟨i + 1, rfl, by omega, K4.out⟩
            case measure => simp [intOf]; omega
        · have hki : ¬ (i : Int) < (m : Int) := by omega
          have hm1 : min (max now 0) 1099511627776 = t := by rw [HT.out]; exact clamp_as now
          obtain ⟨l, hl⟩ : ∃ l, l = cl long := ⟨_, rfl⟩
          have hm2 : min (max long 0) 1099511627776 = l := by rw [hl]; exact clamp_as long
          have hwa : IntKind.i64.wrap (t + l) = t + l := wrapS (by rw [HT.out, hl]; have := Tick.cl_lo now; have := Tick.cl_lo long; omega) (by rw [HT.out, hl]; have := Tick.cl_hi now; have := Tick.cl_hi long; omega)
          have hwb : IntKind.i64.wrap (t + l - 1) = t + l - 1 := wrapS (by rw [HT.out, hl]; have := Tick.cl_lo now; have := Tick.cl_lo long; omega) (by rw [HT.out, hl]; have := Tick.cl_hi now; have := Tick.cl_hi long; omega)
          have HTL : Hid (0 ≤ t ∧ 0 ≤ l ∧ ut = cl (t + l)) := Lib.hid ⟨by rw [HT.out]; exact Tick.cl_lo _, by rw [hl]; exact Tick.cl_lo _, by rw [HUT.out, HT.out, hl]; rfl⟩
          have HJI := Lib.hid hki
          clear hl hlt
          go_upto_region 16 with fail
          clear hm1 hm2 hki
          go_wp2_with fail
          refine (HAL.out _).mono ?_
          rintro e w3 ⟨rfl, hb3⟩
          have K3 := Lib.hid (K.out.next hb3)
          clear hb3 K
          have y0 := K3.out.t2.at_.cell (j := 0) rfl; have y1 := K3.out.t2.at_.cell (j := 1) rfl
          by_cases c1 : l = 0
          · have g1 : (l == 0) = true := eq_b c1
            clear c1
            go_wp2_with fail
            refine (HFE.out (by have := HN1.out; omega) A2 _ K3.out.t2.cap _ K3.out.t2.row).mono ?_
            rintro e w4 ⟨rfl, hb4⟩
            have K4 := Lib.hid (K3.out.next hb4)
            clear hb4
            go_wp2_with fail
            go_ret
            exact ⟨rfl, K4.out.below⟩
          · have g1 : (l == 0) = false := ne_b c1
            by_cases c2 : 1099511627776 < t + l
            · have g2 : decide (1099511627776 < t + l) = true := decide_eq_true c2
              clear c1 c2
              go_wp2_with fail
              refine (HFE.out (by have := HN1.out; omega) A2 _ K3.out.t2.cap _ K3.out.t2.row).mono ?_
              rintro e w4 ⟨rfl, hb4⟩
              have K4 := Lib.hid (K3.out.next hb4)
              clear hb4
              go_wp2_with fail
              go_ret
              exact ⟨rfl, K4.out.below⟩
            · have g2 : decide (1099511627776 < t + l) = false := decide_eq_false c2
              have HIN : Hid (true = inF ⟨x.own, x.tok, mx⟩ (cl (t + l - 1))) := Lib.hid (by
                obtain ⟨h1, h2, h3⟩ := HTL.out
                refine (decide_eq_true ?_).symm
                refine ⟨HRN.out.own, ?_⟩
                rw [Tick.cl_mid (by omega) (by omega), HMX.out, h3, Tick.cl_mid (by omega) (by omega)]
                show t + l - 1 < max x.unt (t + l)
                omega)
              have HCC := Lib.hid (fun w' => HC.out x.own x.tok mx (t + l - 1) true HIN.out w')
              obtain ⟨q2, off2, hA2, f0, f1, f2⟩ := lease_row K3.out.t2.row HMG.out
              subst hA2
              have hji : (j : Int) < (m : Int) := by have := HJ.out; omega
              clear c1 c2
              simp only at f0 f1 f2
              obtain ⟨xo, hxo⟩ : ∃ v, v = x.own := ⟨_, rfl⟩
              obtain ⟨xt, hxt⟩ : ∃ v, v = x.tok := ⟨_, rfl⟩
              rw [← hxo] at f0 HCC
              rw [← hxt] at f1 HCC
              clear hxo hxt
              go_wp2_with fail
              refine (HCC.out _).mono ?_
              rintro e w5 ⟨rfl, hb5⟩
              have K5 := Lib.hid (K3.out.next hb5)
              clear hb5 y0 y1 f0 f1 f2
              have y0 := K5.out.t2.at_.cell (j := 0) rfl; have y1 := K5.out.t2.at_.cell (j := 1) rfl
              go_wp2_with fail
              refine (HFE.out (by have := HN1.out; omega) _ _ K5.out.t2.cap _ K5.out.t2.row).mono ?_
              rintro e w4 ⟨rfl, hb4⟩
              have K4 := Lib.hid (K5.out.next hb4)
              clear hb4
              go_wp2_with fail
              go_ret
              exact ⟨rfl, K4.out.below⟩
end Ls
theorem lawLeaseRenews : Lift.Owes 8 [24, 3, 3, 2, 2] := by
  intro H enc W base args ds ps hval hA _ _
  obtain ⟨v0, v1, v2, v3, v4, d0, d1, d2, d3, d4, p0, p1, p2, p3, p4, rfl, rfl, rfl, h0, h1, h2, h3, h4⟩ := Ls.trodAll_fiveS hA
  obtain ⟨ls, last, A, c, rfl, hc, hr⟩ := Ls.openTable (hval 0 _ v0 rfl rfl) h0
  obtain ⟨a, rfl, rfl, rfl, w1⟩ := open_int Try.underlying3 (hval 1 _ v1 rfl rfl) h1
  obtain ⟨b, rfl, rfl, rfl, w2⟩ := open_int Try.underlying3 (hval 2 _ v2 rfl rfl) h2
  obtain ⟨m, rfl, rfl, rfl, w3⟩ := open_int Try.underlying2 (hval 3 _ v3 rfl rfl) h3
  obtain ⟨k, rfl, rfl, rfl, w4⟩ := open_int Try.underlying2 (hval 4 _ v4 rfl rfl) h4
  exact Ls.walkRenews ls last a b m k A c W hr hc
end Go.Proofs.Ytgoapkbpcfbipaa
