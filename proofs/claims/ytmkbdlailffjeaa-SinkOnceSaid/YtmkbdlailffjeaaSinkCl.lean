/- The code's clone, walked. -/
import Derived.Test.YtmkbdlailffjeaaSinkCe
namespace Go.Proofs.Ytmkbdlailffjeaa
open Go.ChangeShapes Go.WideShapes Go.ChangeAt Go.RowKit
set_option linter.unusedVariables false
set_option maxRecDepth 8000
namespace Sk
open Gen (TellsB TellsI row_one flat_len flat_get Mine)
set_option maxRecDepth 100000 in
set_option maxHeartbeats 4000000 in
theorem ckCloneS {w : World} {s : Si} {no ns nu : Nat} {O : Option Addr} {cO : Nat} {S : Option Addr} {cS : Nat} {U : Option Addr} {cU : Nat} {sg : List Sg} (h : RawS w s no ns nu O cO S cS U cU sg) (hf : Fit s) :
    Calls Try.prog 24 #[skV O no cO S ns cS s.last U nu cU] w (GivesCl s no ns nu w) := by
  have HH := Lib.hid h
  have HF := Lib.hid hf
  have hsl : ns = sg.length := by have h1 := congrArg List.length h.map; rw [List.length_map] at h1; rw [h.lns, h1]
  have HSL := Lib.hid hsl
  have H8 : Hid (ns ≤ 8) := Lib.hid (by rw [h.lns]; exact hf.t)
  have HCO := Lib.hid (fun w' (hb : Below w.heap.size w w') => ckCloneCR s.op no h.lno O cO w' (h.ro.below hb) (by rw [h.lno]; have := hf.o; omega))
  have HCU := Lib.hid (fun w' (hb : Below w.heap.size w w') => ckCloneCR s.out nu h.lnu U cU w' (h.ru.below hb) (by rw [h.lnu]; have := hf.u; omega))
  have HCG := Lib.hid (fun w' (hb : Below w.heap.size w w') => ckCloneCG sg ns hsl S cS w' (h.rs.row.below hb) (by rw [h.lns]; have := hf.t; omega))
  have T1 : Hid (C0At w w.heap.size (w.heap.size + 1) (skC O no cO S ns cS s.last U nu cU) ((w.alloc (.cells (skC O no cO S ns cS s.last U nu cU) 25)).alloc (.cells (skC none 0 0 none 0 0 0 none 0 0) 25))) := Lib.hid
    ⟨(Lies.new w _ _).al, Gen.lies_new1 w _ _ _, by omega, below_al (below_al (Below.refl _ _))⟩
  clear h hf hsl
  go_enter Try.func24, Try.ntmps24
  go_upto_region 1 with fail
  obtain ⟨R, hR⟩ : ∃ b, b = w.heap.size + 1 := ⟨_, rfl⟩
  obtain ⟨tb, htb⟩ : ∃ b, b = w.heap.size := ⟨_, rfl⟩
  obtain ⟨W, hW⟩ : ∃ W, W = (w.alloc (.cells (skC O no cO S ns cS s.last U nu cU) 25)).alloc (.cells (skC none 0 0 none 0 0 0 none 0 0) 25) := ⟨_, rfl⟩
  rw [← hW] at T1 ⊢
  rw [← hR] at T1 ⊢
  rw [show C0At w w.heap.size = C0At w tb by rw [htb]] at T1
  rw [← htb]
  clear hW hR htb
  go_cut [] from 3 (fun wc => ∃ O' cO' S' cS' U' cU', CnAt w tb R s no ns nu O' cO' S' cS' U' cU' [] sg wc)
  case first =>
    rename_i J K2 hJ hK
    have x0 := T1.out.st.cell (j := 0) rfl; have x1 := T1.out.st.cell (j := 1) rfl; have x3 := T1.out.st.cell (j := 3) rfl
    have T := Lib.hid (T1.out.next (below_drewOf (Below.refl W.heap.size W)))
    go_region_with (first
      | (go_at_call 35; refine (HCG.out _ T.out.below).mono ?_; rintro e5 w5 ⟨As, cs, rfl, os, hb5⟩; (try have OO := Lib.hid (own_up OO.out hb5)); (try have OU := Lib.hid (own_up OU.out hb5)); have OS := Lib.hid (own_base os (show w.heap.size ≤ _ from T.out.below.size)); have Z := hb5.size; have T := Lib.hid (T.out.next hb5); have x0 := T.out.st.cell (j := 0) rfl; have x1 := T.out.st.cell (j := 1) rfl; have x3 := T.out.st.cell (j := 3) rfl; have f0 := T.out.st.free 0; have f1 := T.out.st.free 1; have f3 := T.out.st.free 3; clear os hb5)
      | (go_at_call_of 34 (Value.slice O no cO); refine (HCO.out _ T.out.below).mono ?_; rintro e5 w5 ⟨Ao, co, rfl, oo, hb5⟩; (try have OS := Lib.hid (own_up OS.out hb5)); (try have OU := Lib.hid (own_up OU.out hb5)); have OO := Lib.hid (own_base oo (show w.heap.size ≤ _ from T.out.below.size)); have LO := Lib.hid oo.lt; have Z := hb5.size; have T := Lib.hid (T.out.next hb5); have x0 := T.out.st.cell (j := 0) rfl; have x1 := T.out.st.cell (j := 1) rfl; have x3 := T.out.st.cell (j := 3) rfl; have f0 := T.out.st.free 0; have f1 := T.out.st.free 1; have f3 := T.out.st.free 3; clear oo hb5)
      | (go_at_call_of 34 (Value.slice U nu cU); refine (HCU.out _ T.out.below).mono ?_; rintro e5 w5 ⟨Au, cu, rfl, ou, hb5⟩; (try have OS := Lib.hid (own_up OS.out hb5)); (try have OO := Lib.hid (own_up OO.out hb5)); have OU := Lib.hid (own_base ou (show w.heap.size ≤ _ from T.out.below.size)); have LU := Lib.hid ou.lt; have Z := hb5.size; have T := Lib.hid (T.out.next hb5); have x0 := T.out.st.cell (j := 0) rfl; have x1 := T.out.st.cell (j := 1) rfl; have x3 := T.out.st.cell (j := 3) rfl; have f0 := T.out.st.free 0; have f1 := T.out.st.free 1; have f3 := T.out.st.free 3; clear ou hb5))
    all_goals (
      have hap : ∀ k, (Value.slice Ao no co).ownBlock = some k → (Value.slice Au nu cu).ownBlock ≠ some k := fun k h1 h2 => by have a := LO.out k h1; have b := LU.out k h2; omega
      refine hK _ _ (Met.intro (hJ _ _ ?_))
      (repeat apply Exists.intro)
      refine ⟨⟨Ao, co, As, cs, Au, cu, T.out.go ⟨OO.out, OS.out, OU.out, fun x hx => (by cases hx), hap, fun x hx => (by cases hx), fun x hx => (by cases hx), HH.out.map, HH.out.lno, HH.out.lns, HH.out.lnu, T.out.below⟩⟩, rfl⟩)
  case rest =>
    clear T1 HCO HCU HCG
    obtain ⟨O', cO', S', cS', U', cU', hc⟩ := hcut
    have C0 := Lib.hid hc
    clear hc
    have x1 := C0.out.st.cell (j := 1) rfl
    go_wp2_with fail
    clear x1
    go_loopw [20] (fun s20 wr => ∃ (k : Nat) (nk : List Sg), s20 = .int .i64 k ∧ k ≤ ns ∧ nk.length = k ∧ CnAt w tb R s no ns nu O' cO' S' cS' U' cU' nk (sg.drop k) wr) (fun s20 _ => ns - (intOf s20).toNat)
    case atStart => exact ⟨0, [], rfl, Nat.zero_le _, rfl, by rw [List.drop_zero]; exact C0.out⟩
    case round =>
      clear C0
      obtain ⟨k, nk, rfl, hk, hnk, hat⟩ := hrel
      have AT := Lib.hid hat
      have HNK := Lib.hid hnk
      clear hat hnk
      by_cases hlt : k < ns
      · obtain ⟨⟨N, A, c, l⟩, hx⟩ : ∃ x, sg[k]? = some x := ⟨_, List.getElem?_eq_getElem (by rw [← HSL.out]; exact hlt)⟩
        have hp : s.st[k]? = some (N, l) := by rw [← HH.out.map, List.getElem?_map, hx]; rfl
        have hdr : sg.drop k = (N, A, c, l) :: sg.drop (k + 1) := by
          obtain ⟨h1, h2⟩ := List.getElem?_eq_some_iff.1 hx
          rw [List.drop_eq_getElem_cons h1, h2]
        rw [hdr] at AT
        obtain ⟨g, hg, hg1, hg2⟩ := own_atG AT.out.ow.os (by omega)
        subst hg
        obtain ⟨m, hm⟩ : ∃ m, m = l.length := ⟨_, rfl⟩
        have HM := Lib.hid hm
        have hc := own_cellG AT.out.ow.os
        rw [HNK.out] at hc
        obtain ⟨⟨d0, d1⟩, _, _⟩ := hc
        simp only at d0 d1
        rw [← hm] at d1
        have hrow := HH.out.rs.each _ (List.mem_of_getElem? hx)
        have HCL := Lib.hid (fun w' (hb : Below w.heap.size w w') => ckCloneCR l m hm A c w' (hrow.below hb) (by rw [hm]; have := HF.out.e (N, l) (List.mem_of_getElem? hp); simp only at this; omega))
        have hki : (k : Int) < (ns : Int) := by omega
        have hw := wrapKS (k := k) (by have := H8.out; omega)
        have hk0 : (0 : Int) ≤ (k : Int) := by omega
        have HK := Lib.hid hlt
        clear hx hp hdr hm hrow hlt hk hg1 hg2
        go_upto_region 5 with fail
        have hb9 := below_al (o := .cells #[.int .i64 N, .slice A m c] 50) (Below.refl wr.heap.size wr)
        have A9 := Lib.hid (AT.out.next hb9)
        have L9 := Lib.hid (Lies.new wr #[.int .i64 N, .slice A m c] 50)
        obtain ⟨b9, hb9e⟩ : ∃ b, b = wr.heap.size := ⟨_, rfl⟩
        obtain ⟨W9, hW9⟩ : ∃ W, W = wr.alloc (.cells #[.int .i64 N, .slice A m c] 50) := ⟨_, rfl⟩
        rw [← hW9] at A9 L9 ⊢
        rw [← hb9e] at L9 ⊢
        clear hW9 hb9e hb9 d0 d1 AT
        have T := Lib.hid (A9.out.next (below_drewOf (Below.refl W9.heap.size W9)))
        have y1 := L9.out.cell (j := 1) rfl; have x1 := A9.out.st.cell (j := 1) rfl
        clear A9 L9
        go_region_with (go_at_call 34; refine (HCL.out _ T.out.ow.below).mono ?_; rintro e5 w5 ⟨A5, c5, rfl, o5, hb5⟩; have T5 := Lib.hid (T.out.next hb5); have O5 := Lib.hid (own_base o5 (show w.heap.size ≤ _ from T.out.ow.below.size)); have L5 := Lib.hid o5.lt; have x1 := T5.out.st.cell (j := 1) rfl; have hc5 := own_cellG T5.out.ow.os; rw [HNK.out, ← HM.out] at hc5; obtain ⟨⟨_, d1⟩, _, f1⟩ := hc5; clear o5 hb5)
        all_goals (
          have hgr := T5.out.grow HM.out O5.out (fun q h1 h2 => by have a := L5.out q h1; have b := T.out.ow.oo.lt q h2; omega) (fun q h1 h2 => by have a := L5.out q h1; have b := T.out.ow.ou.lt q h2; omega) (by have := HK.out; omega)
          rw [HNK.out] at hgr
          have T6 := Lib.hid hgr
          clear hgr T T5 O5 L5 d1 f1 x1
          go_wp2_with fail
          go_roundw
          case rel => exact ⟨k + 1, nk ++ [(N, A5, c5, l)], rfl, HK.out, by rw [List.length_append, HNK.out]; rfl, T6.out⟩
          case measure => simp [intOf]; have := HK.out; omega)
      · have hki : ¬ (k : Int) < (ns : Int) := by omega
        rw [List.drop_eq_nil_of_le (by rw [← HSL.out]; omega)] at AT
        have x0 := AT.out.st.cell (j := 0) rfl; have x1 := AT.out.st.cell (j := 1) rfl; have x2 := AT.out.st.cell (j := 2) rfl; have x3 := AT.out.st.cell (j := 3) rfl
        have r0 := AT.out.res.cell (j := 0) rfl; have r1 := AT.out.res.cell (j := 1) rfl; have r2 := AT.out.res.cell (j := 2) rfl; have r3 := AT.out.res.cell (j := 3) rfl
        have f0 := AT.out.res.free 0; have f1 := AT.out.res.free 1; have f2 := AT.out.res.free 2; have f3 := AT.out.res.free 3
        clear hlt hk
        go_wp2_with fail
        refine clone_ret (R := R) ?_ ?_ AT.out.fin.1 AT.out.fin.2 <;> rfl
end Sk
end Go.Proofs.Ytmkbdlailffjeaa
