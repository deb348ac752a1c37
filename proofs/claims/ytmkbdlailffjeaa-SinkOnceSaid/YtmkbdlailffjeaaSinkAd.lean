/- The reference's Add. -/
import Derived.Test.YtmkbdlailffjeaaSinkW
namespace Go.Proofs.Ytmkbdlailffjeaa
open Go.ChangeShapes Go.WideShapes Go.ChangeAt Go.RowKit
set_option linter.unusedVariables false
set_option maxRecDepth 8000
namespace Sk
open Gen (TellsB row_one flat_len flat_get Mine)
/-- Add's blocks. -/
structure AdBk (w0 : World) (b1 b2 R : Nat) (C : Array Value) (r : Re) (w : World) : Prop where
  arg : Lies b1 C 25 w
  it : Lies b2 (reC r) 29 w
  res : Lies R (skC none 0 0 none 0 0 0 none 0 0) 25 w
  low : w0.heap.size ≤ b1 ∧ w0.heap.size ≤ R ∧ b1 ≠ R
  below : Below w0.heap.size w0 w
theorem AdBk.next {w0 : World} {b1 b2 R : Nat} {C : Array Value} {r : Re} {w w' : World} (h : AdBk w0 b1 b2 R C r w) (hb : Below w.heap.size w w') : AdBk w0 b1 b2 R C r w' :=
  ⟨h.arg.below hb, h.it.below hb, h.res.below hb, h.low, below_next h.below hb⟩
theorem AdBk.none_ {w0 : World} {b1 b2 R : Nat} {C : Array Value} {r : Re} {w : World} (h : AdBk w0 b1 b2 R C r w) : Lies R (skC none 0 0 none 0 0 zS.last none 0 0) 25 (set4K w R (.slice none 0 0) (.slice none 0 0) (.int .i64 0) (.slice none 0 0)) ∧ Below w0.heap.size w0 (set4K w R (.slice none 0 0) (.slice none 0 0) (.int .i64 0) (.slice none 0 0)) :=
  ⟨lies_set4K h.res _ _ _ _, below_set4K h.below h.low.2.1 _ _ _ _⟩
/-- While the results are put together. -/
structure AdAt (w0 : World) (b1 b2 R bo : Nat) (C : Array Value) (r : Re) (vS : Value) (last : Int) (vU : Value) (k : Nat) (v : Value) (ms : List Re) (w : World) : Prop where
  bk : AdBk w0 b1 b2 R C r w
  box : Lies bo #[v, vS, .int .i64 last, vU] 25 w
  own : w.ownsRow (bo + 1) 29 5 v k (rec_ ms)
  lt : b1 < bo ∧ b2 < bo ∧ R < bo
theorem AdAt.next {w0 : World} {b1 b2 R bo : Nat} {C : Array Value} {r : Re} {vS : Value} {last : Int} {vU : Value} {k : Nat} {v : Value} {ms : List Re} {w w' : World} (h : AdAt w0 b1 b2 R bo C r vS last vU k v ms w) (hb : Below w.heap.size w w') : AdAt w0 b1 b2 R bo C r vS last vU k v ms w' :=
  ⟨h.bk.next hb, h.box.below hb, own_up h.own hb, h.lt⟩
theorem AdAt.size {w0 : World} {b1 b2 R bo : Nat} {C : Array Value} {r : Re} {vS : Value} {last : Int} {vU : Value} {k : Nat} {v : Value} {ms : List Re} {w : World} (h : AdAt w0 b1 b2 R bo C r vS last vU k v ms w) : bo + 1 ≤ w.heap.size := lt_of_block h.box
theorem AdAt.box_grown {w0 : World} {b1 b2 R bo : Nat} {C : Array Value} {r : Re} {vS : Value} {last : Int} {vU : Value} {k : Nat} {v : Value} {ms : List Re} {w w' : World} (h : AdAt w0 b1 b2 R bo C r vS last vU k v ms w) (hg : w.grownBy w' v.ownBlock) : Lies bo #[v, vS, .int .i64 last, vU] 25 w' :=
  lies_grown h.box hg (own_lies h.own h.box (by decide))
theorem AdAt.put {w0 : World} {b1 b2 R bo : Nat} {C : Array Value} {r : Re} {vS : Value} {last : Int} {vU : Value} {k : Nat} {v v' : Value} {ms : List Re} {y : Re} {w w' : World} (h : AdAt w0 b1 b2 R bo C r vS last vU k v ms w) (hg : w.grownBy w' v.ownBlock) (ho : w'.ownsRow (bo + 1) 29 5 v' (k + 1) (rec_ (ms ++ [y]))) :
    AdAt w0 b1 b2 R bo C r vS last vU (k + 1) v' (ms ++ [y]) (w'.setCell ⟨bo, 0, none⟩ v') := by
  have hlt := h.lt
  have hlo := h.bk.low
  have ne : ∀ q, q ≤ bo → v.ownBlock ≠ some q := fun q hq e => by have := (h.own.lt q e).1; omega
  have hf : ∀ q, v.ownBlock = some q → w0.heap.size ≤ q := fun q hq => by have := (h.own.lt q hq).1; omega
  refine ⟨⟨(lies_grown h.bk.arg hg (ne _ (by omega))).other (by omega) _ _, (lies_grown h.bk.it hg (ne _ (by omega))).other (by omega) _ _, (lies_grown h.bk.res hg (ne _ (by omega))).other (by omega) _ _, h.bk.low, (h.bk.below.grown hg h.bk.below.size hf).setCell (p := ⟨bo, 0, none⟩) (show w0.heap.size ≤ bo by omega) _⟩,
    by have := (h.box_grown hg).set 0 v'; simpa using this, own_set ho ⟨bo, 0, none⟩ (fun e => by have := (ho.lt _ e).1; simp only at this; omega) _, h.lt⟩
def addM (m : Option Nat) (q : Bool) (s : Si) (r : Re) : Si × Int := match m with
  | none => (zS, 1)
  | some m => if q = false then (zS, 1) else if m = 0 then (zS, 3) else (⟨s.op ++ [r], s.st, s.last, s.out⟩, 0)
set_option maxRecDepth 100000 in
set_option maxHeartbeats 4000000 in
theorem rfAdd {w : World} {s : Si} {no ns nu : Nat} {O : Option Addr} {cO : Nat} {S : Option Addr} {cS : Nat} {U : Option Addr} {cU : Nat} (h : SkAt w s no ns nu O cO S cS U cU) (r : Re) (o : Si × Int) (ho : o = addO s r) :
    Calls Try.prog 10 #[skV O no cO S ns cS s.last U nu cU, reV r] w (GivesSk o w) := by
  obtain ⟨sg, h1⟩ := h
  obtain ⟨m, hm⟩ : ∃ m, m = roomS s := ⟨_, rfl⟩
  have HRM := Lib.hid (fun w' (hb : Below w.heap.size w w') => rfRoom s sg h1.map no ns nu h1.lno h1.lns h1.lnu m hm O cO S cS U cU w' (h1.ro.below hb) (h1.rs.below hb) (h1.ru.below hb))
  obtain ⟨q, hq⟩ : ∃ q, q = okR r := ⟨_, rfl⟩
  have HRS := Lib.hid (fun w' => rfResult r.lo r.hi r.k r.n r.v w')
  rw [show Itm.okRes r.k r.lo r.hi r.n = q from hq.symm] at HRS
  have HO : Hid (o = addM m q s r) := Lib.hid (by rw [ho, hm, hq]; rfl)
  have H1 := Lib.hid h1
  have HM := Lib.hid hm
  have BK : Hid (AdBk w w.heap.size (w.heap.size + 1) (w.heap.size + 1 + 1) (skC O no cO S ns cS s.last U nu cU) r (((w.alloc (.cells (skC O no cO S ns cS s.last U nu cU) 25)).alloc (.cells (reC r) 29)).alloc (.cells (skC none 0 0 none 0 0 0 none 0 0) 25))) := Lib.hid
    ⟨((Lies.new w _ _).al).al, (Gen.lies_new1 w _ _ _).al, Gen.lies_new2 w _ _ _ _, by omega, below_al (below_al (below_al (Below.refl _ _)))⟩
  clear h1 hm ho hq
  go_enter Try.func10, Try.ntmps10
  go_upto_region 1 with fail
  obtain ⟨b1, hb1⟩ : ∃ b, b = w.heap.size := ⟨_, rfl⟩
  obtain ⟨b2, hb2⟩ : ∃ b, b = w.heap.size + 1 := ⟨_, rfl⟩
  obtain ⟨R, hR⟩ : ∃ b, b = w.heap.size + 1 + 1 := ⟨_, rfl⟩
  obtain ⟨W, hW⟩ : ∃ W, W = ((w.alloc (.cells (skC O no cO S ns cS s.last U nu cU) 25)).alloc (.cells (reC r) 29)).alloc (.cells (skC none 0 0 none 0 0 0 none 0 0) 25) := ⟨_, rfl⟩
  rw [← hW] at BK ⊢
  rw [← hR] at BK ⊢
  rw [← hb2] at BK ⊢
  rw [← hb1] at BK ⊢
  clear hW hR hb1 hb2
  have x0 := BK.out.arg.cell (j := 0) rfl; have x1 := BK.out.arg.cell (j := 1) rfl; have x2 := BK.out.arg.cell (j := 2) rfl; have x3 := BK.out.arg.cell (j := 3) rfl
  go_wp2_with fail
  refine (HRM.out _ BK.out.below).mono ?_
  rintro e w1 ⟨rfl, hbw1⟩
  have BK := Lib.hid (BK.out.next hbw1)
  clear hbw1 x0 x1 x2 x3
  have f0 := BK.out.res.free 0; have f1 := BK.out.res.free 1; have f2 := BK.out.res.free 2; have f3 := BK.out.res.free 3
  have r0 := BK.out.res.cell (j := 0) rfl; have r1 := BK.out.res.cell (j := 1) rfl; have r2 := BK.out.res.cell (j := 2) rfl; have r3 := BK.out.res.cell (j := 3) rfl
  cases m with
  | none =>
    have e : o = (zS, 1) := HO.out
    subst e
    simp only [tupO]
    go_wp2_with fail
    refine add_ret (o := (zS, 1)) (R := R) ?_ ?_ ?_ BK.out.none_.1 ((zero_at (fun _ => False) _).at_) BK.out.none_.2 <;> rfl
  | some m =>
    have y0 := BK.out.it.cell (j := 0) rfl; have y1 := BK.out.it.cell (j := 1) rfl; have y2 := BK.out.it.cell (j := 2) rfl; have y3 := BK.out.it.cell (j := 3) rfl; have y4 := BK.out.it.cell (j := 4) rfl
    have HFIT := Lib.hid (room_fit HM.out.symm)
    simp only [tupO]
    go_wp2_with fail
    refine (HRS.out _).mono ?_
    rintro e w2 ⟨rfl, rfl⟩
    have BK := Lib.hid (BK.out.next (below_al (o := .cells (reC r) 29) (Below.refl w1.heap.size w1)))
    obtain ⟨W2, hW2⟩ : ∃ W, W = w1.alloc (.cells (reC r) 29) := ⟨_, rfl⟩
    rw [← hW2] at BK ⊢
    clear hW2 f0 f1 f2 f3 r0 r1 r2 r3 y0 y1 y2 y3 y4
    have f0 := BK.out.res.free 0; have f1 := BK.out.res.free 1; have f2 := BK.out.res.free 2; have f3 := BK.out.res.free 3
    have r0 := BK.out.res.cell (j := 0) rfl; have r1 := BK.out.res.cell (j := 1) rfl; have r2 := BK.out.res.cell (j := 2) rfl; have r3 := BK.out.res.cell (j := 3) rfl
    cases q
    · have e : o = (zS, 1) := HO.out
      subst e
      go_wp2_with fail
      refine add_ret (o := (zS, 1)) (R := R) ?_ ?_ ?_ BK.out.none_.1 ((zero_at (fun _ => False) _).at_) BK.out.none_.2 <;> rfl
    · by_cases h0 : m = 0
      · have g0 : ((m : Int) == 0) = true := eq_b (by omega)
        have e : o = (zS, 3) := by
          have := HO.out
          simpa [addM, h0] using this
        subst e
        clear h0
        go_wp2_with fail
        refine add_ret (o := (zS, 3)) (R := R) ?_ ?_ ?_ BK.out.none_.1 ((zero_at (fun _ => False) _).at_) BK.out.none_.2 <;> rfl
      · have g0 : ((m : Int) == 0) = false := ne_b (by omega)
        have HOK : Hid (o = (⟨s.op ++ [r], s.st, s.last, s.out⟩, 0)) := Lib.hid (by
          have := HO.out
          simpa [addM, h0] using this)
        have x0 := BK.out.arg.cell (j := 0) rfl; have x1 := BK.out.arg.cell (j := 1) rfl; have x2 := BK.out.arg.cell (j := 2) rfl; have x3 := BK.out.arg.cell (j := 3) rfl
        clear h0 HO
        go_upto_region 7 with fail
        have AT := Lib.hid (show AdAt w b1 b2 R W2.heap.size (skC O no cO S ns cS s.last U nu cU) r (.slice S ns cS) s.last (.slice U nu cU) 0 (.slice none 0 0) (s.op.take 0) (W2.alloc (.cells #[.slice none 0 0, .slice S ns cS, .int .i64 s.last, .slice U nu cU] 25)) from
          ⟨BK.out.next (below_al (Below.refl _ _)), Lies.new W2 _ _, own_none, ⟨lt_of_block BK.out.arg, lt_of_block BK.out.it, lt_of_block BK.out.res⟩⟩)
        obtain ⟨bo, hbo⟩ : ∃ b, b = W2.heap.size := ⟨_, rfl⟩
        obtain ⟨W7, hW7⟩ : ∃ W, W = W2.alloc (.cells #[.slice none 0 0, .slice S ns cS, .int .i64 s.last, .slice U nu cU] 25) := ⟨_, rfl⟩
        rw [← hW7] at AT ⊢
        rw [← hbo] at AT ⊢
        clear hW7 hbo f0 f1 f2 f3 r0 r1 r2 r3 x0 x1 x2 x3 BK
        have x0 := AT.out.bk.arg.cell (j := 0) rfl
        go_wp2_with fail
        clear x0
        go_loopw [37] (fun s37 wr => ∃ (k : Nat) (v : Value), s37 = .int .i64 k ∧ k ≤ no ∧ AdAt w b1 b2 R bo (skC O no cO S ns cS s.last U nu cU) r (.slice S ns cS) s.last (.slice U nu cU) k v (s.op.take k) wr) (fun s37 _ => no - (intOf s37).toNat)
        case atStart => exact ⟨0, _, rfl, Nat.zero_le _, AT.out⟩
        case round =>
          clear AT
          obtain ⟨k, v, rfl, hk, hat⟩ := hrel
          have AT := Lib.hid hat
          clear hat
          by_cases hlt : k < no
          · obtain ⟨x, hx⟩ : ∃ x, s.op[k]? = some x := ⟨_, List.getElem?_eq_getElem (by rw [← H1.out.lno]; exact hlt)⟩
            obtain ⟨qa, off, hO1, c0⟩ := res_row (H1.out.ro.below AT.out.bk.below) hx
            subst hO1
            have HTK : Hid (s.op.take (k + 1) = s.op.take k ++ [x]) := Lib.hid (by rw [List.take_add_one, hx]; rfl)
            have HKL : Hid (k = (s.op.take k).length) := Lib.hid (by rw [List.length_take, ← H1.out.lno]; omega)
            have hki : (k : Int) < (no : Int) := by omega
            have hw := wrapKS (k := k) (by have := H1.out.lno; have := HFIT.out.o; omega)
            have HK := Lib.hid hlt
            have HK2 : Hid (k ≤ 20000) := Lib.hid (by have := H1.out.lno; have := HFIT.out.o; omega)
            have c00 := c0 0 _ rfl; have c01 := c0 1 _ rfl; have c02 := c0 2 _ rfl; have c03 := c0 3 _ rfl; have c04 := c0 4 _ rfl
            rw [Nat.add_zero] at c00
            clear hx c0 hlt hk
            go_upto_region 10 with fail
            have A1 := Lib.hid (AT.out.next (below_al (o := .cells (reC x) 29) (Below.refl wr.heap.size wr)))
            have LX := Lib.hid (Lies.new wr (reC x) 29)
            obtain ⟨b10, hb10⟩ : ∃ b, b = wr.heap.size := ⟨_, rfl⟩
            obtain ⟨W10, hW10⟩ : ∃ W, W = wr.alloc (.cells (reC x) 29) := ⟨_, rfl⟩
            rw [← hW10] at A1 LX ⊢
            rw [← hb10] at LX ⊢
            clear hW10 hb10 c00 c01 c02 c03 c04 AT
            have z0 := LX.out.cell (j := 0) rfl; have z1 := LX.out.cell (j := 1) rfl; have z2 := LX.out.cell (j := 2) rfl; have z3 := LX.out.cell (j := 3) rfl; have z4 := LX.out.cell (j := 4) rfl
            have o0 := A1.out.box.cell (j := 0) rfl
            go_wp2_with (at_builtin; refine hold_mk ?_)
            refine hold_out ?_
            have hro := one_rowR W10 x
            have A2 := Lib.hid (A1.out.next (below_al (o := .cells (reC x) 29) (Below.refl W10.heap.size W10)))
            refine wpPushR rfl _ _ rfl v (s.op.take k) rfl HKL.out A2.out.own A2.out.size _ 1 x rfl hro (by have := HK2.out; omega) ?_
            intro v9 w9 bt9 hg9 hl9
            obtain ⟨V9, c9, rfl, _⟩ := own_form bt9 (by omega)
            have A9 := Lib.hid (A2.out.put hg9 bt9)
            rw [← HTK.out] at A9
            have LO := Lib.hid (A2.out.box_grown hg9)
            clear bt9 hg9 hl9 hro z0 z1 z2 z3 z4 o0 A1 A2 LX
            have f0 := LO.out.free 0
            have o0 := LO.out.cell (j := 0) rfl
            go_wp2_with fail
            go_roundw
            case rel => exact ⟨k + 1, _, rfl, HK.out, A9.out⟩
            case measure => simp [intOf]; have := HK.out; omega
          · have hki : ¬ (k : Int) < (no : Int) := by omega
            have hkn : k = no := by omega
            subst hkn
            have HOP : Hid (s.op.take k = s.op) := Lib.hid (List.take_of_length_le (by rw [← H1.out.lno]; exact Nat.le_refl _))
            rw [HOP.out] at AT
            have HK2 : Hid (k ≤ 20000) := Lib.hid (by have := H1.out.lno; have := HFIT.out.o; omega)
            clear hlt hk
            have z0 := AT.out.bk.it.cell (j := 0) rfl; have z1 := AT.out.bk.it.cell (j := 1) rfl; have z2 := AT.out.bk.it.cell (j := 2) rfl; have z3 := AT.out.bk.it.cell (j := 3) rfl; have z4 := AT.out.bk.it.cell (j := 4) rfl
            have o0 := AT.out.box.cell (j := 0) rfl
            go_wp2_with (at_builtin; refine hold_mk ?_)
            refine hold_out ?_
            have hro := one_rowR wr r
            have A2 := Lib.hid (AT.out.next (below_al (o := .cells (reC r) 29) (Below.refl wr.heap.size wr)))
            refine wpPushR rfl _ _ rfl v s.op rfl H1.out.lno A2.out.own A2.out.size _ 1 r rfl hro (by have := HK2.out; omega) ?_
            intro v9 w9 bt9 hg9 hl9
            obtain ⟨V9, c9, rfl, _⟩ := own_form bt9 (by omega)
            have A9 := Lib.hid (A2.out.put hg9 bt9)
            have LO := Lib.hid (A2.out.box_grown hg9)
            clear bt9 hg9 hl9 hro z0 z1 z2 z3 z4 o0 A2 AT
            have f0 := LO.out.free 0
            have o0 := LO.out.cell (j := 0) rfl
            go_upto_region 13 with fail
            obtain ⟨W12, hW12⟩ : ∃ W, W = w9.setCell ⟨bo, 0, none⟩ (.slice V9 (k + 1) c9) := ⟨_, rfl⟩
            rw [← hW12] at A9 ⊢
            clear hW12 f0 o0 LO
            have o0 := A9.out.box.cell (j := 0) rfl; have o1 := A9.out.box.cell (j := 1) rfl; have o2 := A9.out.box.cell (j := 2) rfl; have o3 := A9.out.box.cell (j := 3) rfl
            have r0 := A9.out.bk.res.cell (j := 0) rfl; have r1 := A9.out.bk.res.cell (j := 1) rfl; have r2 := A9.out.bk.res.cell (j := 2) rfl; have r3 := A9.out.bk.res.cell (j := 3) rfl
            have f0 := A9.out.bk.res.free 0; have f1 := A9.out.bk.res.free 1; have f2 := A9.out.bk.res.free 2; have f3 := A9.out.bk.res.free 3
            have hB := below_set4K A9.out.bk.below A9.out.bk.low.2.1 (.slice V9 (k + 1) c9) (.slice S ns cS) (.int .i64 s.last) (.slice U nu cU)
            have hOw := own_set4K A9.out.own (b := R) (fun e => by have := (A9.out.own.lt _ e).1; have := A9.out.lt; omega) (.slice V9 (k + 1) c9) (.slice S ns cS) (.int .i64 s.last) (.slice U nu cU)
            have hrw := own_rowR hOw
            have hA : SkAt (set4K W12 R (.slice V9 (k + 1) c9) (.slice S ns cS) (.int .i64 s.last) (.slice U nu cU)) ⟨s.op ++ [r], s.st, s.last, s.out⟩ (k + 1) ns nu V9 c9 S cS U cU :=
              ⟨sg, ⟨hrw.2.2, H1.out.lns, H1.out.lnu, hrw.1, H1.out.rs.below hB, H1.out.ru.below hB, H1.out.map, hrw.2.1, H1.out.cs, H1.out.cu, H1.out.cap⟩⟩
            have hL := lies_set4K A9.out.bk.res (.slice V9 (k + 1) c9) (.slice S ns cS) (.int .i64 s.last) (.slice U nu cU)
            clear hOw hrw
            have e := HOK.out
            subst e
            go_wp2_with fail
            refine add_ret (o := (⟨s.op ++ [r], s.st, s.last, s.out⟩, 0)) (R := R) ?_ ?_ ?_ hL hA hB <;> rfl
end Sk
end Go.Proofs.Ytmkbdlailffjeaa
