/- The reference's Stage. -/
import Derived.Test.YtmkbdlailffjeaaSinkAd
namespace Go.Proofs.Ytmkbdlailffjeaa
open Go.ChangeShapes Go.WideShapes Go.ChangeAt Go.RowKit
set_option linter.unusedVariables false
set_option maxRecDepth 8000
namespace Sk
open Gen (TellsB row_one flat_len flat_get Mine)
/-- The blocks of Stage and of Commit. -/
structure BxBk (w0 : World) (b1 R : Nat) (C : Array Value) (w : World) : Prop where
  arg : Lies b1 C 25 w
  res : Lies R (skC none 0 0 none 0 0 0 none 0 0) 25 w
  low : w0.heap.size ≤ b1 ∧ w0.heap.size ≤ R
  below : Below w0.heap.size w0 w
theorem BxBk.next {w0 : World} {b1 R : Nat} {C : Array Value} {w w' : World} (h : BxBk w0 b1 R C w) (hb : Below w.heap.size w w') : BxBk w0 b1 R C w' := ⟨h.arg.below hb, h.res.below hb, h.low, below_next h.below hb⟩
theorem BxBk.none_ {w0 : World} {b1 R : Nat} {C : Array Value} {w : World} (h : BxBk w0 b1 R C w) : Lies R (skC none 0 0 none 0 0 zS.last none 0 0) 25 (set4K w R (.slice none 0 0) (.slice none 0 0) (.int .i64 0) (.slice none 0 0)) ∧ Below w0.heap.size w0 (set4K w R (.slice none 0 0) (.slice none 0 0) (.int .i64 0) (.slice none 0 0)) :=
  ⟨lies_set4K h.res _ _ _ _, below_set4K h.below h.low.2 _ _ _ _⟩
/-- The sink that is put together, at bo. -/
structure BxAt (w0 : World) (b1 R bo : Nat) (C D : Array Value) (w : World) : Prop where
  bk : BxBk w0 b1 R C w
  box : Lies bo D 25 w
  lt : b1 < bo ∧ R < bo
theorem BxAt.next {w0 : World} {b1 R bo : Nat} {C D : Array Value} {w w' : World} (h : BxAt w0 b1 R bo C D w) (hb : Below w.heap.size w w') : BxAt w0 b1 R bo C D w' := ⟨h.bk.next hb, h.box.below hb, h.lt⟩
theorem BxAt.size {w0 : World} {b1 R bo : Nat} {C D : Array Value} {w : World} (h : BxAt w0 b1 R bo C D w) : bo + 1 ≤ w.heap.size := lt_of_block h.box
theorem BxAt.grown {w0 : World} {b1 R bo : Nat} {C D : Array Value} {w w' : World} (h : BxAt w0 b1 R bo C D w) {row : Option Nat} (hg : w.grownBy w' row) (hr : ∀ q, row = some q → bo + 1 ≤ q) : BxAt w0 b1 R bo C D w' := by
  have hlt := h.lt
  have hlo := h.bk.low
  have ne : ∀ q, q ≤ bo → row ≠ some q := fun q hq e => by have := hr q e; omega
  exact ⟨⟨lies_grown h.bk.arg hg (ne _ (by omega)), lies_grown h.bk.res hg (ne _ (by omega)), h.bk.low, h.bk.below.grown hg h.bk.below.size fun q hq => by have := hr q hq; omega⟩, lies_grown h.box hg (ne _ (Nat.le_refl _)), h.lt⟩
theorem BxAt.set {w0 : World} {b1 R bo : Nat} {C D D' : Array Value} {w : World} (h : BxAt w0 b1 R bo C D w) (j : Nat) (v : Value) (hD : D.setIfInBounds j v = D') : BxAt w0 b1 R bo C D' (w.setCell ⟨bo, j, none⟩ v) := by
  have hlt := h.lt
  have hlo := h.bk.low
  exact ⟨⟨h.bk.arg.other (by omega) _ _, h.bk.res.other (by omega) _ _, h.bk.low, h.bk.below.setCell (p := ⟨bo, j, none⟩) (show w0.heap.size ≤ bo by omega) _⟩, by have := h.box.set j v; rw [hD] at this; exact this, h.lt⟩
theorem own_bo {w : World} {bo size n : Nat} {e : TypeId} {v : Value} {xs : List Value} (h : w.ownsRow (bo + 1) e size v n xs) (j : Nat) (u : Value) : (w.setCell ⟨bo, j, none⟩ u).ownsRow (bo + 1) e size v n xs :=
  own_set h ⟨bo, j, none⟩ (fun e => by have := (h.lt _ e).1; simp only at this; omega) u
/-- The last number behind k stages. -/
def lastK (last : Int) (l : List Pg) : Int := match l.getLast? with
  | none => last
  | some x => x.1
theorem lastK_push (last : Int) (l : List Pg) (x : Pg) : lastK last (l ++ [x]) = x.1 := by
  unfold lastK
  rw [List.getLast?_append]
  rfl
set_option maxRecDepth 100000 in
set_option maxHeartbeats 4000000 in
theorem rfStage {w : World} {s : Si} {no ns nu : Nat} {O : Option Addr} {cO : Nat} {S : Option Addr} {cS : Nat} {U : Option Addr} {cU : Nat} (h : SkAt w s no ns nu O cO S cS U cU) (n : Int) (o : Si × Int) (ho : o = stageO s n) :
    Calls Try.prog 12 #[skV O no cO S ns cS s.last U nu cU, .int .i64 n] w (GivesSk o w) := by
  obtain ⟨sg, h1⟩ := h
  obtain ⟨q, hq⟩ : ∃ q, q = rightS s := ⟨_, rfl⟩
  have HRR := Lib.hid (fun w' (hb : Below w.heap.size w w') => rfRightS s sg h1.map no ns nu h1.lno h1.lns h1.lnu q hq O cO S cS U cU w' (h1.ro.below hb) (h1.rs.below hb) (h1.ru.below hb))
  have HO : Hid (o = if q = false ∨ 1073741824 < n then (zS, 1) else if n ≤ lastK s.last s.st then (zS, 190) else if ns = 8 then (zS, 3) else (⟨[], s.st ++ [(n, s.op)], s.last, s.out⟩, 0)) := Lib.hid (by rw [ho, hq, h1.lns]; rfl)
  have H1 := Lib.hid h1
  have HQ := Lib.hid hq
  have BK : Hid (BxBk w w.heap.size (w.heap.size + 1) (skC O no cO S ns cS s.last U nu cU) ((w.alloc (.cells (skC O no cO S ns cS s.last U nu cU) 25)).alloc (.cells (skC none 0 0 none 0 0 0 none 0 0) 25))) := Lib.hid
    ⟨(Lies.new w _ _).al, Gen.lies_new1 w _ _ _, by omega, below_al (below_al (Below.refl _ _))⟩
  clear h1 hq ho
  go_enter Try.func12, Try.ntmps12
  go_upto_region 1 with fail
  obtain ⟨b1, hb1⟩ : ∃ b, b = w.heap.size := ⟨_, rfl⟩
  obtain ⟨R, hR⟩ : ∃ b, b = w.heap.size + 1 := ⟨_, rfl⟩
  obtain ⟨W, hW⟩ : ∃ W, W = (w.alloc (.cells (skC O no cO S ns cS s.last U nu cU) 25)).alloc (.cells (skC none 0 0 none 0 0 0 none 0 0) 25) := ⟨_, rfl⟩
  rw [← hW] at BK ⊢
  rw [← hR] at BK ⊢
  rw [← hb1] at BK ⊢
  clear hW hR hb1
  have x0 := BK.out.arg.cell (j := 0) rfl; have x1 := BK.out.arg.cell (j := 1) rfl; have x2 := BK.out.arg.cell (j := 2) rfl; have x3 := BK.out.arg.cell (j := 3) rfl
  go_wp2_with fail
  refine (HRR.out _ BK.out.below).mono ?_
  rintro e w1 ⟨rfl, hbw1⟩
  have BK := Lib.hid (BK.out.next hbw1)
  clear hbw1 x0 x1 x2 x3
  have f0 := BK.out.res.free 0; have f1 := BK.out.res.free 1; have f2 := BK.out.res.free 2; have f3 := BK.out.res.free 3
  have r0 := BK.out.res.cell (j := 0) rfl; have r1 := BK.out.res.cell (j := 1) rfl; have r2 := BK.out.res.cell (j := 2) rfl; have r3 := BK.out.res.cell (j := 3) rfl
  cases q
  · have e : o = (zS, 1) := HO.out.trans (if_pos (.inl rfl))
    subst e
    go_wp2_with fail
    refine stage_ret (o := (zS, 1)) (R := R) ?_ ?_ ?_ BK.out.none_.1 ((zero_at (fun _ => False) _).at_) BK.out.none_.2 <;> rfl
  · by_cases hn : 1073741824 < n
    · have g0 : decide ((1073741824 : Int) < n) = true := decide_eq_true hn
      have e : o = (zS, 1) := HO.out.trans (if_pos (.inr hn))
      subst e
      clear hn
      go_wp2_with fail
      refine stage_ret (o := (zS, 1)) (R := R) ?_ ?_ ?_ BK.out.none_.1 ((zero_at (fun _ => False) _).at_) BK.out.none_.2 <;> rfl
    · have g0 : decide ((1073741824 : Int) < n) = false := decide_eq_false hn
      have HOK : Hid (o = if n ≤ lastK s.last s.st then (zS, 190) else if ns = 8 then (zS, 3) else (⟨[], s.st ++ [(n, s.op)], s.last, s.out⟩, 0)) := Lib.hid (HO.out.trans (if_neg (by simp; omega)))
      have HFIT := Lib.hid (right_fit HQ.out.symm)
      have H8 : Hid (ns ≤ 8) := Lib.hid (by rw [H1.out.lns]; exact HFIT.out.t)
      have x0 := BK.out.arg.cell (j := 0) rfl; have x1 := BK.out.arg.cell (j := 1) rfl; have x2 := BK.out.arg.cell (j := 2) rfl; have x3 := BK.out.arg.cell (j := 3) rfl
      clear hn HO
      go_upto_region 4 with fail
      have AT := Lib.hid (show BxAt w b1 R w1.heap.size (skC O no cO S ns cS s.last U nu cU) #[.slice none 0 0, .slice none 0 0, .int .i64 s.last, .slice U nu cU] (w1.alloc (.cells #[.slice none 0 0, .slice none 0 0, .int .i64 s.last, .slice U nu cU] 25)) from
        ⟨BK.out.next (below_al (Below.refl _ _)), Lies.new w1 _ _, lt_of_block BK.out.arg, lt_of_block BK.out.res⟩)
      obtain ⟨bo, hbo⟩ : ∃ b, b = w1.heap.size := ⟨_, rfl⟩
      obtain ⟨W7, hW7⟩ : ∃ W, W = w1.alloc (.cells #[.slice none 0 0, .slice none 0 0, .int .i64 s.last, .slice U nu cU] 25) := ⟨_, rfl⟩
      rw [← hW7] at AT ⊢
      rw [← hbo] at AT ⊢
      clear hW7 hbo f0 f1 f2 f3 r0 r1 r2 r3 x0 x1 x2 x3 BK
      have x1 := AT.out.bk.arg.cell (j := 1) rfl; have x2 := AT.out.bk.arg.cell (j := 2) rfl
      go_wp2_with fail
      clear x1 x2
      go_loopw [7, 28] (fun s7 s28 wr => ∃ (k : Nat) (v : Value) (last : Int), s7 = .int .i64 last ∧ s28 = .int .i64 k ∧ k ≤ ns ∧ last = lastK s.last (s.st.take k) ∧ BxAt w b1 R bo (skC O no cO S ns cS s.last U nu cU) #[.slice none 0 0, v, .int .i64 s.last, .slice U nu cU] wr ∧ wr.ownsRow (bo + 1) 50 2 v k (sgc (sg.take k))) (fun _ s28 _ => ns - (intOf s28).toNat)
      case atStart => exact ⟨0, _, _, rfl, rfl, Nat.zero_le _, rfl, AT.out, own_none⟩
      case round =>
        clear AT
        obtain ⟨k, v, last, rfl, rfl, hk, hla, hat, how⟩ := hrel
        have AT := Lib.hid hat; have OW := Lib.hid how; have HLA := Lib.hid hla
        clear hat how hla
        by_cases hlt : k < ns
        · have hsl : sg.length = ns := by have h1 := congrArg List.length H1.out.map; rw [List.length_map, ← H1.out.lns] at h1; exact h1
          obtain ⟨⟨N, A, c, l⟩, hx⟩ : ∃ x, sg[k]? = some x := ⟨_, List.getElem?_eq_getElem (by rw [hsl]; exact hlt)⟩
          have hp : s.st[k]? = some (N, l) := by rw [← H1.out.map, List.getElem?_map, hx]; rfl
          obtain ⟨qa, off, hS1, d0, d1⟩ := stage_row (H1.out.rs.row.below AT.out.bk.below) hx
          subst hS1
          have HTK : Hid (sg.take (k + 1) = sg.take k ++ [(N, A, c, l)]) := Lib.hid (by rw [List.take_add_one, hx]; rfl)
          have HNL : Hid (lastK s.last (s.st.take (k + 1)) = N) := Lib.hid (by rw [List.take_add_one, hp]; exact lastK_push _ _ _)
          have HKL : Hid (k = (sg.take k).length) := Lib.hid (by rw [List.length_take, hsl]; omega)
          have hki : (k : Int) < (ns : Int) := by omega
          have hw := wrapKS (k := k) (by have := H8.out; omega)
          have HK := Lib.hid hlt
          obtain ⟨m, hm⟩ : ∃ m, m = l.length := ⟨_, rfl⟩
          simp only at d0 d1
          rw [← hm] at d1
          have HM := Lib.hid hm
          clear hx hp hsl hlt hk hm
          go_upto_region 8 with fail
          have hb9 := below_al (o := .cells #[.int .i64 N, .slice A m c] 50) (Below.refl wr.heap.size wr)
          have A1 := Lib.hid (AT.out.next hb9)
          have O1 := Lib.hid (own_up OW.out hb9)
          have LX := Lib.hid (Lies.new wr #[.int .i64 N, .slice A m c] 50)
          obtain ⟨b9, hb9e⟩ : ∃ b, b = wr.heap.size := ⟨_, rfl⟩
          obtain ⟨W9, hW9⟩ : ∃ W, W = wr.alloc (.cells #[.int .i64 N, .slice A m c] 50) := ⟨_, rfl⟩
          rw [← hW9] at A1 O1 LX ⊢
          rw [← hb9e] at LX ⊢
          clear hW9 hb9e hb9 d0 d1 AT OW
          have z0 := LX.out.cell (j := 0) rfl; have z1 := LX.out.cell (j := 1) rfl
          have o1 := A1.out.box.cell (j := 1) rfl
          go_wp2_with (at_builtin; refine hold_mk ?_)
          refine hold_out ?_
          have hro := one_rowG W9 (N, A, c, l)
          simp only [sgC] at hro
          rw [← HM.out] at hro
          have hb10 := below_al (o := .cells #[.int .i64 N, .slice A m c] 50) (Below.refl W9.heap.size W9)
          have A2 := Lib.hid (A1.out.next hb10)
          have O2 := Lib.hid (own_up O1.out hb10)
          refine wpPushG rfl _ _ rfl v (sg.take k) rfl HKL.out O2.out A2.out.size _ 1 (N, A, c, l) rfl hro (by have := H8.out; have := HK.out; omega) ?_
          intro v9 w9 bt9 hg9 hl9
          obtain ⟨V9, c9, rfl, _⟩ := own_form bt9 (by omega)
          have A8 := Lib.hid (A2.out.grown hg9 fun q hq => (O2.out.lt q hq).1)
          have A9 := Lib.hid (A8.out.set 1 (.slice V9 (k + 1) c9) (D' := #[.slice none 0 0, .slice V9 (k + 1) c9, .int .i64 s.last, .slice U nu cU]) rfl)
          have O9 := Lib.hid (own_bo bt9 1 (.slice V9 (k + 1) c9))
          rw [← HTK.out] at O9
          clear bt9 hg9 hl9 hro hb10 z0 z1 o1 A1 A2 O1 O2 LX
          have f1 := A8.out.box.free 1
          have o1 := A8.out.box.cell (j := 1) rfl
          go_wp2_with fail
          go_roundw
          case rel => exact ⟨k + 1, _, N, rfl, rfl, HK.out, HNL.out.symm, A9.out, O9.out⟩
          case measure => simp [intOf]; have := HK.out; omega
        · have hki : ¬ (k : Int) < (ns : Int) := by omega
          have hkn : k = ns := by omega
          subst hkn
          have HSG : Hid (sg.take k = sg) := Lib.hid (List.take_of_length_le (by have h1 := congrArg List.length H1.out.map; rw [List.length_map, ← H1.out.lns] at h1; omega))
          have HST : Hid (last = lastK s.last s.st) := Lib.hid (by rw [HLA.out, List.take_of_length_le (by rw [← H1.out.lns]; exact Nat.le_refl _)])
          rw [HSG.out] at OW
          clear hlt hk
          have f0 := AT.out.bk.res.free 0; have f1 := AT.out.bk.res.free 1; have f2 := AT.out.bk.res.free 2; have f3 := AT.out.bk.res.free 3
          have r0 := AT.out.bk.res.cell (j := 0) rfl; have r1 := AT.out.bk.res.cell (j := 1) rfl; have r2 := AT.out.bk.res.cell (j := 2) rfl; have r3 := AT.out.bk.res.cell (j := 3) rfl
          by_cases h2 : n ≤ last
          · have g2 : decide (n ≤ last) = true := decide_eq_true h2
            have e : o = (zS, 190) := HOK.out.trans (if_pos (by rw [← HST.out]; exact h2))
            subst e
            clear h2
            go_wp2_with fail
            refine stage_ret (o := (zS, 190)) (R := R) ?_ ?_ ?_ AT.out.bk.none_.1 ((zero_at (fun _ => False) _).at_) AT.out.bk.none_.2 <;> rfl
          · have g2 : decide (n ≤ last) = false := decide_eq_false h2
            have HOK2 : Hid (o = if k = 8 then (zS, 3) else (⟨[], s.st ++ [(n, s.op)], s.last, s.out⟩, 0)) := Lib.hid (HOK.out.trans (if_neg (by rw [← HST.out]; exact h2)))
            have x0 := AT.out.bk.arg.cell (j := 0) rfl; have x1 := AT.out.bk.arg.cell (j := 1) rfl
            clear h2 HOK
            by_cases h3 : k = 8
            · have g3 : ((k : Int) == 8) = true := eq_b (by omega)
              have e : o = (zS, 3) := HOK2.out.trans (if_pos h3)
              subst e
              clear h3
              go_wp2_with fail
              refine stage_ret (o := (zS, 3)) (R := R) ?_ ?_ ?_ AT.out.bk.none_.1 ((zero_at (fun _ => False) _).at_) AT.out.bk.none_.2 <;> rfl
            · have g3 : ((k : Int) == 8) = false := ne_b (by omega)
              have HOK3 : Hid (o = (⟨[], s.st ++ [(n, s.op)], s.last, s.out⟩, 0)) := Lib.hid (HOK2.out.trans (if_neg h3))
              have o1 := AT.out.box.cell (j := 1) rfl
              clear h3 HOK2 f0 f1 f2 f3 r0 r1 r2 r3
              go_wp2_with (at_builtin; refine hold_mk ?_)
              refine hold_out ?_
              have hro := one_rowG wr (n, O, cO, s.op)
              simp only [sgC] at hro
              rw [← H1.out.lno] at hro
              have hb10 := below_al (o := .cells #[.int .i64 n, .slice O no cO] 50) (Below.refl wr.heap.size wr)
              have A2 := Lib.hid (AT.out.next hb10)
              have O2 := Lib.hid (own_up OW.out hb10)
              refine wpPushG rfl _ _ rfl v sg rfl (by have h1 := congrArg List.length H1.out.map; rw [List.length_map, ← H1.out.lns] at h1; omega) O2.out A2.out.size _ 1 (n, O, cO, s.op) rfl hro (by have := H8.out; omega) ?_
              intro v9 w9 bt9 hg9 hl9
              obtain ⟨V9, c9, rfl, _⟩ := own_form bt9 (by omega)
              have A8 := Lib.hid (A2.out.grown hg9 fun q hq => (O2.out.lt q hq).1)
              have A9 := Lib.hid (A8.out.set 1 (.slice V9 (k + 1) c9) (D' := #[.slice none 0 0, .slice V9 (k + 1) c9, .int .i64 s.last, .slice U nu cU]) rfl)
              have O9 := Lib.hid (own_bo bt9 1 (.slice V9 (k + 1) c9))
              clear bt9 hg9 hl9 hro hb10 o1 A2 O2 x0 x1
              have f1 := A8.out.box.free 1
              have o1 := A8.out.box.cell (j := 1) rfl
              go_upto_region 16 with fail
              obtain ⟨W12, hW12⟩ : ∃ W, W = w9.setCell ⟨bo, 1, none⟩ (.slice V9 (k + 1) c9) := ⟨_, rfl⟩
              rw [← hW12] at A9 O9 ⊢
              clear hW12 f1 o1 A8
              have o0 := A9.out.box.cell (j := 0) rfl; have o1 := A9.out.box.cell (j := 1) rfl; have o2 := A9.out.box.cell (j := 2) rfl; have o3 := A9.out.box.cell (j := 3) rfl
              have r0 := A9.out.bk.res.cell (j := 0) rfl; have r1 := A9.out.bk.res.cell (j := 1) rfl; have r2 := A9.out.bk.res.cell (j := 2) rfl; have r3 := A9.out.bk.res.cell (j := 3) rfl
              have f0 := A9.out.bk.res.free 0; have f1 := A9.out.bk.res.free 1; have f2 := A9.out.bk.res.free 2; have f3 := A9.out.bk.res.free 3
              have hB := below_set4K A9.out.bk.below A9.out.bk.low.2 (.slice none 0 0) (.slice V9 (k + 1) c9) (.int .i64 s.last) (.slice U nu cU)
              have hOw := own_set4K O9.out (b := R) (fun e => by have := (O9.out.lt _ e).1; have := A9.out.lt; omega) (.slice none 0 0) (.slice V9 (k + 1) c9) (.int .i64 s.last) (.slice U nu cU)
              have hrw := own_rowG hOw
              have hA : SkAt (set4K W12 R (.slice none 0 0) (.slice V9 (k + 1) c9) (.int .i64 s.last) (.slice U nu cU)) ⟨[], s.st ++ [(n, s.op)], s.last, s.out⟩ 0 (k + 1) nu none 0 V9 c9 U cU :=
                ⟨sg ++ [(n, O, cO, s.op)], ⟨rfl, by simp only [List.length_append, List.length_singleton]; rw [← H1.out.lns], H1.out.lnu, .inl rfl, ⟨hrw.1, fun x hx => (List.mem_append.1 hx).elim (fun h => (H1.out.rs.each x h).below hB) (fun h => by rw [List.mem_singleton.1 h]; exact H1.out.ro.below hB)⟩, H1.out.ru.below hB, by rw [List.map_append, H1.out.map]; rfl, Nat.le_refl _, hrw.2.1, H1.out.cu,
                  fun x hx => (List.mem_append.1 hx).elim (H1.out.cap x) (fun h => by rw [List.mem_singleton.1 h]; have := H1.out.co; rw [H1.out.lno] at this; exact this)⟩⟩
              have hL := lies_set4K A9.out.bk.res (.slice none 0 0) (.slice V9 (k + 1) c9) (.int .i64 s.last) (.slice U nu cU)
              clear hOw hrw
              have e := HOK3.out
              subst e
              go_wp2_with fail
              refine stage_ret (o := (⟨[], s.st ++ [(n, s.op)], s.last, s.out⟩, 0)) (R := R) ?_ ?_ ?_ hL hA hB <;> rfl
end Sk
end Go.Proofs.Ytmkbdlailffjeaa
