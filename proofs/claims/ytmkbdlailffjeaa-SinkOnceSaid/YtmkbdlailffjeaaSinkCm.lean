/- The reference's Commit. -/
import Derived.Test.YtmkbdlailffjeaaSinkSt
namespace Go.Proofs.Ytmkbdlailffjeaa
open Go.ChangeShapes Go.WideShapes Go.ChangeAt Go.RowKit
set_option linter.unusedVariables false
set_option maxRecDepth 8000
namespace Sk
open Gen (TellsB row_one flat_len flat_get Mine)
def keepG (n : Int) (l : List Sg) : List Sg := l.filter fun x => decide (n < x.1)
theorem keepG_map (n : Int) (l : List Sg) : (keepG n l).map pgOf = keepO n (l.map pgOf) := by
  unfold keepG keepO
  induction l with
  | nil => rfl
  | cons x r ih =>
    rw [List.map_cons, List.filter_cons, List.filter_cons]
    by_cases h : n < x.1
    · rw [if_pos (decide_eq_true h), if_pos (by exact decide_eq_true h), List.map_cons, ih]
    · rw [if_neg (by simp; omega), if_neg (by simp; omega), ih]
theorem keepG_push (n : Int) (l : List Sg) (x : Sg) : keepG n (l ++ [x]) = if n < x.1 then keepG n l ++ [x] else keepG n l := by
  unfold keepG
  rw [List.filter_append]
  by_cases h : n < x.1
  · rw [if_pos h]; simp [h]
  · rw [if_neg h]; simp [h]
theorem goesO_push (n : Int) (l : List Pg) (x : Pg) : goesO n (l ++ [x]) = goesO n l ++ (if n < x.1 then [] else x.2) := by
  unfold goesO
  rw [List.flatMap_append]
  simp
theorem thereO_push (n : Int) (l : List Pg) (x : Pg) : thereO n (l ++ [x]) = (thereO n l || decide (x.1 = n)) := by
  unfold thereO
  rw [List.any_append]
  simp
/-- While a sink is put together: its stages, what counts. -/
structure CmAt (w0 : World) (b1 R bo : Nat) (C : Array Value) (vO : Value) (n : Int) (vS : Value) (kS : Nat) (ks : List Sg) (vU : Value) (kU : Nat) (us : List Re) (w : World) : Prop where
  bx : BxAt w0 b1 R bo C #[vO, vS, .int .i64 n, vU] w
  os : w.ownsRow (bo + 1) 50 2 vS kS (sgc ks)
  ou : w.ownsRow (bo + 1) 29 5 vU kU (rec_ us)
section
variable {w0 : World} {b1 R bo : Nat} {C : Array Value} {vO : Value} {n : Int} {vS : Value} {kS : Nat} {ks : List Sg} {vU : Value} {kU : Nat} {us : List Re} {w w' : World}
theorem CmAt.next (h : CmAt w0 b1 R bo C vO n vS kS ks vU kU us w) (hb : Below w.heap.size w w') : CmAt w0 b1 R bo C vO n vS kS ks vU kU us w' := ⟨h.bx.next hb, own_up h.os hb, own_up h.ou hb⟩
theorem CmAt.putU (h : CmAt w0 b1 R bo C vO n vS kS ks vU kU us w) {v' : Value} {y : Re} (hg : w.grownBy w' vU.ownBlock) (ho : w'.ownsRow (bo + 1) 29 5 v' (kU + 1) (rec_ (us ++ [y]))) :
    CmAt w0 b1 R bo C vO n vS kS ks v' (kU + 1) (us ++ [y]) (w'.setCell ⟨bo, 3, none⟩ v') ∧ Lies bo #[vO, vS, .int .i64 n, vU] 25 w' := by
  have b := h.bx.grown hg fun q hq => (h.ou.lt q hq).1
  exact ⟨⟨b.set 3 v' rfl, own_bo (own_grown h.os hg (own_kind h.os h.ou (by decide))) 3 v', own_bo ho 3 v'⟩, b.box⟩
theorem CmAt.putS (h : CmAt w0 b1 R bo C vO n vS kS ks vU kU us w) {v' : Value} {y : Sg} (hg : w.grownBy w' vS.ownBlock) (ho : w'.ownsRow (bo + 1) 50 2 v' (kS + 1) (sgc (ks ++ [y]))) :
    CmAt w0 b1 R bo C vO n v' (kS + 1) (ks ++ [y]) vU kU us (w'.setCell ⟨bo, 1, none⟩ v') ∧ Lies bo #[vO, vS, .int .i64 n, vU] 25 w' := by
  have b := h.bx.grown hg fun q hq => (h.os.lt q hq).1
  exact ⟨⟨b.set 1 v' rfl, own_bo ho 1 v', own_bo (own_grown h.ou hg (own_kind h.ou h.os (by decide))) 1 v'⟩, b.box⟩
end
set_option maxRecDepth 100000 in
set_option maxHeartbeats 4000000 in
theorem rfCommit {w : World} {s : Si} {no ns nu : Nat} {O : Option Addr} {cO : Nat} {S : Option Addr} {cS : Nat} {U : Option Addr} {cU : Nat} (h : SkAt w s no ns nu O cO S cS U cU) (n : Int) (o : Si × Int) (ho : o = commitO s n) :
    Calls Try.prog 18 #[skV O no cO S ns cS s.last U nu cU, .int .i64 n] w (GivesSk o w) := by
  obtain ⟨sg, h1⟩ := h
  obtain ⟨q, hq⟩ : ∃ q, q = rightS s := ⟨_, rfl⟩
  have HRR := Lib.hid (fun w' (hb : Below w.heap.size w w') => rfRightS s sg h1.map no ns nu h1.lno h1.lns h1.lnu q hq O cO S cS U cU w' (h1.ro.below hb) (h1.rs.below hb) (h1.ru.below hb))
  have HO : Hid (o = if q = false then (zS, 1) else if n ≤ s.last then (s, 0) else if thereO n s.st = false then (zS, 190) else (⟨s.op, keepO n s.st, n, s.out ++ goesO n s.st⟩, 0)) := Lib.hid (by rw [ho, hq]; rfl)
  have H1 := Lib.hid h1
  have HQ := Lib.hid hq
  have BK : Hid (BxBk w w.heap.size (w.heap.size + 1) (skC O no cO S ns cS s.last U nu cU) ((w.alloc (.cells (skC O no cO S ns cS s.last U nu cU) 25)).alloc (.cells (skC none 0 0 none 0 0 0 none 0 0) 25))) := Lib.hid
    ⟨(Lies.new w _ _).al, Gen.lies_new1 w _ _ _, by omega, below_al (below_al (Below.refl _ _))⟩
  clear h1 hq ho
  go_enter Try.func18, Try.ntmps18
  go_upto_region 1 with fail
  obtain ⟨b1, hb1⟩ : ∃ b, b = w.heap.size := ⟨_, rfl⟩
  obtain ⟨R, hR⟩ : ∃ b, b = w.heap.size + 1 := ⟨_, rfl⟩
  obtain ⟨W, hW⟩ : ∃ W, W = (w.alloc (.cells (skC O no cO S ns cS s.last U nu cU) 25)).alloc (.cells (skC none 0 0 none 0 0 0 none 0 0) 25) := ⟨_, rfl⟩
  rw [← hW] at BK ⊢
  rw [← hR] at BK ⊢
  rw [← hb1] at BK ⊢
  clear hW hR hb1
  have x0 := BK.out.arg.cell (j := 0) rfl; have x1 := BK.out.arg.cell (j := 1) rfl; have x2 := BK.out.arg.cell (j := 2) rfl; have x3 := BK.out.arg.cell (j := 3) rfl
  go_wp2_with fail
  refine (HRR.out _ BK.out.below).mono ?_
  rintro e w1 ⟨rfl, hbw1⟩
  have BK := Lib.hid (BK.out.next hbw1)
  clear hbw1 x0 x1 x2 x3
  have f0 := BK.out.res.free 0; have f1 := BK.out.res.free 1; have f2 := BK.out.res.free 2; have f3 := BK.out.res.free 3
  have r0 := BK.out.res.cell (j := 0) rfl; have r1 := BK.out.res.cell (j := 1) rfl; have r2 := BK.out.res.cell (j := 2) rfl; have r3 := BK.out.res.cell (j := 3) rfl
  cases q
  · have e : o = (zS, 1) := HO.out.trans (if_pos rfl)
    subst e
    go_wp2_with fail
    refine commit_ret (o := (zS, 1)) (R := R) ?_ ?_ ?_ BK.out.none_.1 ((zero_at (fun _ => False) _).at_) BK.out.none_.2 <;> rfl
  · have HFIT := Lib.hid (right_fit HQ.out.symm)
    have x0 := BK.out.arg.cell (j := 0) rfl; have x1 := BK.out.arg.cell (j := 1) rfl; have x2 := BK.out.arg.cell (j := 2) rfl; have x3 := BK.out.arg.cell (j := 3) rfl
    by_cases hn : n ≤ s.last
    · have g0 : decide (n ≤ s.last) = true := decide_eq_true hn
      have e : o = (s, 0) := (HO.out.trans (if_neg (by simp))).trans (if_pos hn)
      subst e
      clear hn
      have hB := below_set4K BK.out.below BK.out.low.2 (.slice O no cO) (.slice S ns cS) (.int .i64 s.last) (.slice U nu cU)
      have hL := lies_set4K BK.out.res (.slice O no cO) (.slice S ns cS) (.int .i64 s.last) (.slice U nu cU)
      have hA : SkAt (set4K w1 R (.slice O no cO) (.slice S ns cS) (.int .i64 s.last) (.slice U nu cU)) s no ns nu O cO S cS U cU := ⟨sg, H1.out.below hB⟩
      go_wp2_with fail
      refine commit_ret (o := (s, 0)) (R := R) ?_ ?_ ?_ hL hA hB <;> rfl
    · have g0 : decide (n ≤ s.last) = false := decide_eq_false hn
      have HOK : Hid (o = if thereO n s.st = false then (zS, 190) else (⟨s.op, keepO n s.st, n, s.out ++ goesO n s.st⟩, 0)) := Lib.hid ((HO.out.trans (if_neg (by simp))).trans (if_neg hn))
      have H8 : Hid (ns ≤ 8) := Lib.hid (by rw [H1.out.lns]; exact HFIT.out.t)
      have HU2 : Hid (nu ≤ 20000) := Lib.hid (by rw [H1.out.lnu]; exact HFIT.out.u)
      clear hn HO
      go_upto_region 6 with fail
      have AT := Lib.hid (show CmAt w b1 R w1.heap.size (skC O no cO S ns cS s.last U nu cU) (.slice O no cO) n (.slice none 0 0) 0 [] (.slice none 0 0) 0 [] (w1.alloc (.cells #[.slice O no cO, .slice none 0 0, .int .i64 n, .slice none 0 0] 25)) from
        ⟨⟨BK.out.next (below_al (Below.refl _ _)), Lies.new w1 _ _, lt_of_block BK.out.arg, lt_of_block BK.out.res⟩, own_none, own_none⟩)
      obtain ⟨bo, hbo⟩ : ∃ b, b = w1.heap.size := ⟨_, rfl⟩
      obtain ⟨W7, hW7⟩ : ∃ W, W = w1.alloc (.cells #[.slice O no cO, .slice none 0 0, .int .i64 n, .slice none 0 0] 25) := ⟨_, rfl⟩
      rw [← hW7] at AT ⊢
      rw [← hbo] at AT ⊢
      clear hW7 hbo f0 f1 f2 f3 r0 r1 r2 r3 x0 x1 x2 x3 BK
      have x3 := AT.out.bx.bk.arg.cell (j := 3) rfl
      go_wp2_with fail
      clear x3
      go_loopw [30] (fun s30 wr => ∃ (k : Nat) (v : Value), s30 = .int .i64 k ∧ k ≤ nu ∧ CmAt w b1 R bo (skC O no cO S ns cS s.last U nu cU) (.slice O no cO) n (.slice none 0 0) 0 [] v k (s.out.take k) wr) (fun s30 _ => nu - (intOf s30).toNat)
      case atStart => exact ⟨0, _, rfl, Nat.zero_le _, AT.out⟩
      case round =>
        clear AT
        obtain ⟨k, v, rfl, hk, hat⟩ := hrel
        have AT := Lib.hid hat
        clear hat
        by_cases hlt : k < nu
        · obtain ⟨x, hx⟩ : ∃ x, s.out[k]? = some x := ⟨_, List.getElem?_eq_getElem (by rw [← H1.out.lnu]; exact hlt)⟩
          obtain ⟨qa, off, hU1, c0⟩ := res_row (H1.out.ru.below AT.out.bx.bk.below) hx
          subst hU1
          have HTK : Hid (s.out.take (k + 1) = s.out.take k ++ [x]) := Lib.hid (by rw [List.take_add_one, hx]; rfl)
          have HKL : Hid (k = (s.out.take k).length) := Lib.hid (by rw [List.length_take, ← H1.out.lnu]; omega)
          have hki : (k : Int) < (nu : Int) := by omega
          have hw := wrapKS (k := k) (by have := HU2.out; omega)
          have HK := Lib.hid hlt
          have c00 := c0 0 _ rfl; have c01 := c0 1 _ rfl; have c02 := c0 2 _ rfl; have c03 := c0 3 _ rfl; have c04 := c0 4 _ rfl
          rw [Nat.add_zero] at c00
          clear hx c0 hlt hk
          go_upto_region 9 with fail
          have A1 := Lib.hid (AT.out.next (below_al (o := .cells (reC x) 29) (Below.refl wr.heap.size wr)))
          have LX := Lib.hid (Lies.new wr (reC x) 29)
          obtain ⟨b10, hb10⟩ : ∃ b, b = wr.heap.size := ⟨_, rfl⟩
          obtain ⟨W10, hW10⟩ : ∃ W, W = wr.alloc (.cells (reC x) 29) := ⟨_, rfl⟩
          rw [← hW10] at A1 LX ⊢
          rw [← hb10] at LX ⊢
          clear hW10 hb10 c00 c01 c02 c03 c04 AT
          have z0 := LX.out.cell (j := 0) rfl; have z1 := LX.out.cell (j := 1) rfl; have z2 := LX.out.cell (j := 2) rfl; have z3 := LX.out.cell (j := 3) rfl; have z4 := LX.out.cell (j := 4) rfl
          have o3 := A1.out.bx.box.cell (j := 3) rfl
          go_wp2_with (at_builtin; refine hold_mk ?_)
          refine hold_out ?_
          have hro := one_rowR W10 x
          have A2 := Lib.hid (A1.out.next (below_al (o := .cells (reC x) 29) (Below.refl W10.heap.size W10)))
          refine wpPushR rfl _ _ rfl v (s.out.take k) rfl HKL.out A2.out.ou A2.out.bx.size _ 1 x rfl hro (by have := HU2.out; have := HK.out; omega) ?_
          intro v9 w9 bt9 hg9 hl9
          obtain ⟨V9, c9, rfl, _⟩ := own_form bt9 (by omega)
          obtain ⟨a9, lo9⟩ := A2.out.putU hg9 bt9
          rw [← HTK.out] at a9
          have A9 := Lib.hid a9
          have f3 := lo9.free 3
          have o3 := lo9.cell (j := 3) rfl
          clear bt9 hg9 hl9 hro z0 z1 z2 z3 z4 A1 A2 LX a9 lo9
          go_wp2_with fail
          go_roundw
          case rel => exact ⟨k + 1, _, rfl, HK.out, A9.out⟩
          case measure => simp [intOf]; have := HK.out; omega
        · have hki : ¬ (k : Int) < (nu : Int) := by omega
          have hkn : k = nu := by omega
          subst hkn
          have AT2 : Hid (CmAt w b1 R bo (skC O no cO S ns cS s.last U k cU) (.slice O no cO) n (.slice none 0 0) 0 (keepG n (sg.take 0)) v k (s.out ++ goesO n (s.st.take 0)) wr) := Lib.hid (by
            have h := AT.out
            rw [List.take_of_length_le (by rw [← H1.out.lnu]; exact Nat.le_refl _)] at h
            rw [show s.out ++ goesO n (s.st.take 0) = s.out by rw [List.take_zero]; simp [goesO]]
            exact h)
          clear AT hlt hk
          have x1 := AT2.out.bx.bk.arg.cell (j := 1) rfl
          go_wp2_with fail
          clear x1
          go_loopw [9, 44] (fun s9 s44 wr => ∃ (i kS kU : Nat) (vS vU : Value) (us : List Re), s9 = .bool (thereO n (s.st.take i)) ∧ s44 = .int .i64 i ∧ i ≤ ns ∧ kU ≤ 20000 * (i + 1) ∧ kS ≤ i ∧ us = s.out ++ goesO n (s.st.take i) ∧ CmAt w b1 R bo (skC O no cO S ns cS s.last U k cU) (.slice O no cO) n vS kS (keepG n (sg.take i)) vU kU us wr) (fun _ s44 _ => ns - (intOf s44).toNat)
          case atStart => exact ⟨0, 0, k, _, _, _, rfl, rfl, Nat.zero_le _, by have := HU2.out; omega, Nat.le_refl _, rfl, AT2.out⟩
          case round =>
            clear AT2
            obtain ⟨i, kS, kU, vS, vU, us, hs9, rfl, hi, hku, hks, hus, hat⟩ := hrel
            obtain ⟨th, hth⟩ : ∃ th, th = thereO n (s.st.take i) := ⟨_, rfl⟩
            rw [← hth] at hs9
            subst hs9
            have AT := Lib.hid hat; have HKU := Lib.hid hku; have HKS := Lib.hid hks; have HUS := Lib.hid hus; have HTH := Lib.hid hth
            clear hat hku hks hus hth
            have hsl : sg.length = ns := by have h1 := congrArg List.length H1.out.map; rw [List.length_map, ← H1.out.lns] at h1; exact h1
            have HSL := Lib.hid hsl
            by_cases hlt : i < ns
            · obtain ⟨⟨N, A, c, l⟩, hx⟩ : ∃ x, sg[i]? = some x := ⟨_, List.getElem?_eq_getElem (by rw [hsl]; exact hlt)⟩
              have hp : s.st[i]? = some (N, l) := by rw [← H1.out.map, List.getElem?_map, hx]; rfl
              obtain ⟨qa, off, hS1, d0, d1⟩ := stage_row (H1.out.rs.row.below AT.out.bx.bk.below) hx
              subst hS1
              have HTK : Hid (keepG n (sg.take (i + 1)) = if n < N then keepG n (sg.take i) ++ [(N, A, c, l)] else keepG n (sg.take i)) := Lib.hid (by rw [List.take_add_one, hx]; exact keepG_push n _ _)
              have HGO : Hid (goesO n (s.st.take (i + 1)) = goesO n (s.st.take i) ++ (if n < N then [] else l)) := Lib.hid (by rw [List.take_add_one, hp]; exact goesO_push n _ _)
              have HTN : Hid (thereO n (s.st.take (i + 1)) = (th || decide (N = n))) := Lib.hid (by rw [List.take_add_one, hp, HTH.out]; exact thereO_push n _ _)
              have HIT := Lib.hid (H1.out.rs.each _ (List.mem_of_getElem? hx))
              have HL20 : Hid (l.length ≤ 20000) := Lib.hid (HFIT.out.e (N, l) (List.mem_of_getElem? hp))
              have hki : (i : Int) < (ns : Int) := by omega
              have hw := wrapKS (k := i) (by have := H8.out; omega)
              have HK := Lib.hid hlt
              have HKSL : Hid (kS = (keepG n (sg.take i)).length) := Lib.hid (by have := AT.out.os.1; rw [lenG] at this; omega)
              obtain ⟨m, hm⟩ : ∃ m, m = l.length := ⟨_, rfl⟩
              simp only at d0 d1
              rw [← hm] at d1
              have HM := Lib.hid hm
              clear hx hp hsl hlt hi hm
              go_upto_region 15 with fail
              have hb9 := below_al (o := .cells #[.int .i64 N, .slice A m c] 50) (Below.refl wr.heap.size wr)
              have A1 := Lib.hid (AT.out.next hb9)
              have LX := Lib.hid (Lies.new wr #[.int .i64 N, .slice A m c] 50)
              obtain ⟨b9, hb9e⟩ : ∃ b, b = wr.heap.size := ⟨_, rfl⟩
              obtain ⟨W9, hW9⟩ : ∃ W, W = wr.alloc (.cells #[.int .i64 N, .slice A m c] 50) := ⟨_, rfl⟩
              rw [← hW9] at A1 LX ⊢
              rw [← hb9e] at LX ⊢
              clear hW9 hb9e hb9 d0 d1 AT
              have z0 := LX.out.cell (j := 0) rfl; have z1 := LX.out.cell (j := 1) rfl
              -- there
              obtain ⟨t2, ht2⟩ : ∃ t2, t2 = (th || decide (N = n)) := ⟨_, rfl⟩
              have HT2 : Hid (thereO n (s.st.take (i + 1)) = t2) := Lib.hid (HTN.out.trans ht2.symm)
              have hway : (th = true ∧ t2 = true) ∨ (th = false ∧ (N == n) = t2) := by
                cases th
                · right
                  refine ⟨rfl, ?_⟩
                  rw [ht2, Bool.false_or]
                  by_cases e : N = n <;> simp [e]
                · left
                  exact ⟨rfl, by rw [ht2]; rfl⟩
              clear ht2
              have HWAY : Hid (n < N ∨ ¬ n < N) := Lib.hid (Classical.em _)
              rcases hway with ⟨rfl, rfl⟩ | ⟨rfl, hNn⟩
              all_goals (
                go_upto_region 16 with fail
                rcases HWAY.out with hlt | hge
                · have g1 : decide (n < N) = true := decide_eq_true hlt
                  have HT3 := Lib.hid (HTK.out.trans (if_pos hlt))
                  have HG3 : Hid (goesO n (s.st.take (i + 1)) = goesO n (s.st.take i)) := Lib.hid (by rw [HGO.out, if_pos hlt, List.append_nil])
                  have o1 := A1.out.bx.box.cell (j := 1) rfl
                  clear hlt
                  go_wp2_with (at_builtin; refine hold_mk ?_)
                  refine hold_out ?_
                  have hro := one_rowG W9 (N, A, c, l)
                  simp only [sgC] at hro
                  rw [← HM.out] at hro
                  have A2 := Lib.hid (A1.out.next (below_al (o := .cells #[.int .i64 N, .slice A m c] 50) (Below.refl W9.heap.size W9)))
                  refine wpPushG rfl _ _ rfl vS (keepG n (sg.take i)) rfl HKSL.out A2.out.os A2.out.bx.size _ 1 (N, A, c, l) rfl hro (by have := H8.out; have := HK.out; have := HKS.out; omega) ?_
                  intro v9 w9 bt9 hg9 hl9
                  obtain ⟨V9, c9, rfl, _⟩ := own_form bt9 (by omega)
                  obtain ⟨a9, lo9⟩ := A2.out.putS hg9 bt9
                  rw [← HT3.out] at a9
                  have A9 := Lib.hid a9
                  have f1 := lo9.free 1
                  have o1 := lo9.cell (j := 1) rfl
                  clear bt9 hg9 hl9 hro z0 z1 A1 A2 LX a9 lo9
                  go_wp2_with fail
                  go_roundw
                  case rel => exact ⟨i + 1, kS + 1, kU, _, _, us, by rw [HT2.out], rfl, HK.out, by have := HKU.out; omega, by have := HKS.out; omega, by rw [HG3.out]; exact HUS.out, A9.out⟩
                  case measure => simp [intOf]; have := HK.out; omega
                · have g1 : decide (n < N) = false := decide_eq_false hge
                  have HT3 := Lib.hid (HTK.out.trans (if_neg hge))
                  have HG3 : Hid (goesO n (s.st.take (i + 1)) = goesO n (s.st.take i) ++ l) := Lib.hid (by rw [HGO.out, if_neg hge])
                  have A2 : Hid (CmAt w b1 R bo (skC O no cO (some ⟨qa, off, none⟩) ns cS s.last U k cU) (.slice O no cO) n vS kS (keepG n (sg.take i)) vU kU (us ++ l.take 0) W9) := Lib.hid (by rw [List.take_zero, List.append_nil]; exact A1.out)
                  clear hge A1
                  go_wp2_with fail
                  clear z0 z1
                  go_loopw [68] (fun s68 wr => ∃ (j kU2 : Nat) (vU2 : Value), s68 = .int .i64 j ∧ j ≤ m ∧ kU2 ≤ 20000 * (i + 1) + j ∧ CmAt w b1 R bo (skC O no cO (some ⟨qa, off, none⟩) ns cS s.last U k cU) (.slice O no cO) n vS kS (keepG n (sg.take i)) vU2 kU2 (us ++ l.take j) wr) (fun s68 _ => m - (intOf s68).toNat)
                  case atStart => exact ⟨0, kU, vU, rfl, Nat.zero_le _, HKU.out, A2.out⟩
                  case round =>
                    clear A2 LX
                    obtain ⟨j, kU2, vU2, rfl, hj, hku2, hat⟩ := hrel
                    have AT := Lib.hid hat; have HKU2 := Lib.hid hku2
                    clear hat hku2
                    by_cases hlt : j < m
                    · obtain ⟨x, hx⟩ : ∃ x, l[j]? = some x := ⟨_, List.getElem?_eq_getElem (by rw [← HM.out]; exact hlt)⟩
                      obtain ⟨qb, offb, hA1, c0⟩ := res_row (HIT.out.below AT.out.bx.bk.below) hx
                      (try simp only at hA1)
                      subst hA1
                      have HTK2 : Hid (us ++ l.take (j + 1) = (us ++ l.take j) ++ [x]) := Lib.hid (by rw [List.take_add_one, hx, List.append_assoc]; rfl)
                      have HKUL : Hid (kU2 = (us ++ l.take j).length) := Lib.hid (by have := AT.out.ou.1; rw [lenR] at this; omega)
                      have hji : (j : Int) < (m : Int) := by omega
                      have hwj := wrapKS (k := j) (by have := HM.out; have := HL20.out; omega)
                      have HJM := Lib.hid hlt
                      have c00 := c0 0 _ rfl; have c01 := c0 1 _ rfl; have c02 := c0 2 _ rfl; have c03 := c0 3 _ rfl; have c04 := c0 4 _ rfl
                      rw [Nat.add_zero] at c00
                      clear hx c0 hlt hj
                      go_upto_region 21 with fail
                      have A1 := Lib.hid (AT.out.next (below_al (o := .cells (reC x) 29) (Below.refl wr.heap.size wr)))
                      have LX := Lib.hid (Lies.new wr (reC x) 29)
                      obtain ⟨b10, hb10⟩ : ∃ b, b = wr.heap.size := ⟨_, rfl⟩
                      obtain ⟨W10, hW10⟩ : ∃ W, W = wr.alloc (.cells (reC x) 29) := ⟨_, rfl⟩
                      rw [← hW10] at A1 LX ⊢
                      rw [← hb10] at LX ⊢
                      clear hW10 hb10 c00 c01 c02 c03 c04 AT
                      have z0 := LX.out.cell (j := 0) rfl; have z1 := LX.out.cell (j := 1) rfl; have z2 := LX.out.cell (j := 2) rfl; have z3 := LX.out.cell (j := 3) rfl; have z4 := LX.out.cell (j := 4) rfl
                      have o3 := A1.out.bx.box.cell (j := 3) rfl
                      go_wp2_with (at_builtin; refine hold_mk ?_)
                      refine hold_out ?_
                      have hro := one_rowR W10 x
                      have A2 := Lib.hid (A1.out.next (below_al (o := .cells (reC x) 29) (Below.refl W10.heap.size W10)))
                      refine wpPushR rfl _ _ rfl vU2 (us ++ l.take j) rfl HKUL.out A2.out.ou A2.out.bx.size _ 1 x rfl hro (by have := HKU2.out; have := H8.out; have := HK.out; have := HJM.out; have := HM.out; have := HL20.out; omega) ?_
                      intro v9 w9 bt9 hg9 hl9
                      obtain ⟨V9, c9, rfl, _⟩ := own_form bt9 (by omega)
                      obtain ⟨a9, lo9⟩ := A2.out.putU hg9 bt9
                      rw [← HTK2.out] at a9
                      have A9 := Lib.hid a9
                      have f3 := lo9.free 3
                      have o3 := lo9.cell (j := 3) rfl
                      clear bt9 hg9 hl9 hro z0 z1 z2 z3 z4 A1 A2 LX a9 lo9
                      go_wp2_with fail
                      go_roundw
                      case rel => exact ⟨j + 1, kU2 + 1, _, rfl, HJM.out, by have := HKU2.out; omega, A9.out⟩
                      case measure => simp [intOf]; have := HJM.out; omega
                    · have hji : ¬ (j : Int) < (m : Int) := by omega
                      have HLF : Hid (us ++ l.take j = s.out ++ goesO n (s.st.take (i + 1))) := Lib.hid (by rw [HG3.out, HUS.out, List.append_assoc, List.take_of_length_le (l := l) (i := j) (by rw [← HM.out]; omega)])
                      have HKU3 : Hid (kU2 ≤ 20000 * (i + 1 + 1)) := Lib.hid (by have := HKU2.out; have := HM.out; have := HL20.out; omega)
                      clear hlt hj
                      go_wp2_with fail
                      go_roundw
                      case rel => exact ⟨i + 1, kS, kU2, vS, vU2, _, by rw [HT2.out], rfl, HK.out, HKU3.out, by have := HKS.out; omega, HLF.out, by rw [HT3.out]; exact AT.out⟩
                      case measure => simp [intOf]; have := HK.out; omega)
            · have hki : ¬ (i : Int) < (ns : Int) := by omega
              have hin : i = ns := by omega
              subst hin
              have HST : Hid (s.st.take i = s.st) := Lib.hid (List.take_of_length_le (by rw [← H1.out.lns]; exact Nat.le_refl _))
              have HSG : Hid (sg.take i = sg) := Lib.hid (List.take_of_length_le (by rw [hsl]; exact Nat.le_refl _))
              have HTT : Hid (th = thereO n s.st) := Lib.hid (by rw [HTH.out, HST.out])
              have HUU : Hid (us = s.out ++ goesO n s.st) := Lib.hid (by rw [HUS.out, HST.out])
              rw [HSG.out] at AT
              clear hlt hi hsl
              have f0 := AT.out.bx.bk.res.free 0; have f1 := AT.out.bx.bk.res.free 1; have f2 := AT.out.bx.bk.res.free 2; have f3 := AT.out.bx.bk.res.free 3
              have r0 := AT.out.bx.bk.res.cell (j := 0) rfl; have r1 := AT.out.bx.bk.res.cell (j := 1) rfl; have r2 := AT.out.bx.bk.res.cell (j := 2) rfl; have r3 := AT.out.bx.bk.res.cell (j := 3) rfl
              cases th
              · have e : o = (zS, 190) := HOK.out.trans (if_pos HTT.out.symm)
                subst e
                go_wp2_with fail
                refine commit_ret (o := (zS, 190)) (R := R) ?_ ?_ ?_ AT.out.bx.bk.none_.1 ((zero_at (fun _ => False) _).at_) AT.out.bx.bk.none_.2 <;> rfl
              · have e : o = (⟨s.op, keepO n s.st, n, s.out ++ goesO n s.st⟩, 0) := HOK.out.trans (if_neg (by rw [← HTT.out]; simp))
                obtain ⟨VS, cVS, rfl, _⟩ := own_form AT.out.os (by omega)
                obtain ⟨VU, cVU, rfl, _⟩ := own_form AT.out.ou (by omega)
                have o0 := AT.out.bx.box.cell (j := 0) rfl; have o1 := AT.out.bx.box.cell (j := 1) rfl; have o2 := AT.out.bx.box.cell (j := 2) rfl; have o3 := AT.out.bx.box.cell (j := 3) rfl
                have hB := below_set4K AT.out.bx.bk.below AT.out.bx.bk.low.2 (.slice O no cO) (.slice VS kS cVS) (.int .i64 n) (.slice VU kU cVU)
                have hOs := own_rowG (own_set4K AT.out.os (b := R) (fun e => by have := (AT.out.os.lt _ e).1; have := AT.out.bx.lt; omega) (.slice O no cO) (.slice VS kS cVS) (.int .i64 n) (.slice VU kU cVU))
                have hOu := own_rowR (own_set4K AT.out.ou (b := R) (fun e => by have := (AT.out.ou.lt _ e).1; have := AT.out.bx.lt; omega) (.slice O no cO) (.slice VS kS cVS) (.int .i64 n) (.slice VU kU cVU))
                rw [HUU.out] at hOu
                have hA : SkAt (set4K wr R (.slice O no cO) (.slice VS kS cVS) (.int .i64 n) (.slice VU kU cVU)) ⟨s.op, keepO n s.st, n, s.out ++ goesO n s.st⟩ no kS kU O cO VS cVS VU cVU :=
                  ⟨keepG n sg, ⟨H1.out.lno, by rw [hOs.2.2, ← H1.out.map, ← keepG_map, List.length_map], hOu.2.2, H1.out.ro.below hB, ⟨hOs.1, fun x hx => (H1.out.rs.each x (List.mem_filter.1 hx).1).below hB⟩, hOu.1, by rw [keepG_map, H1.out.map], H1.out.co, hOs.2.1, hOu.2.1, fun x hx => H1.out.cap x (List.mem_filter.1 hx).1⟩⟩
                have hL := lies_set4K AT.out.bx.bk.res (.slice O no cO) (.slice VS kS cVS) (.int .i64 n) (.slice VU kU cVU)
                clear hOs hOu
                subst e
                go_wp2_with fail
                refine commit_ret (o := (⟨s.op, keepO n s.st, n, s.out ++ goesO n s.st⟩, 0)) (R := R) ?_ ?_ ?_ hL hA hB <;> rfl
end Sk
end Go.Proofs.Ytmkbdlailffjeaa
