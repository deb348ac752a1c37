/- The code's Add, Stage. -/
import Derived.Test.YtmkbdlailffjeaaSinkCg
namespace Go.Proofs.Ytmkbdlailffjeaa
open Go.ChangeShapes Go.WideShapes Go.ChangeAt Go.RowKit
set_option linter.unusedVariables false
set_option maxRecDepth 8000
namespace Sk
open Gen (TellsB TellsI row_one flat_len flat_get Mine)
/-- The blocks of a call: the sink that came in, the result. -/
structure SbAt (w0 : World) (b1 R : Nat) (C : Array Value) (w : World) : Prop where
  arg : Lies b1 C 25 w
  res : Lies R (skC none 0 0 none 0 0 0 none 0 0) 25 w
  lt : w0.heap.size ≤ b1 ∧ w0.heap.size ≤ R ∧ b1 ≠ R
  below : Below w0.heap.size w0 w
theorem SbAt.next {w0 : World} {b1 R : Nat} {C : Array Value} {w w' : World} (h : SbAt w0 b1 R C w) (hb : Below w.heap.size w w') : SbAt w0 b1 R C w' := ⟨h.arg.below hb, h.res.below hb, h.lt, below_next h.below hb⟩
theorem SbAt.zero {w0 : World} {b1 R : Nat} {C : Array Value} {w : World} (h : SbAt w0 b1 R C w) : Lies R (skC none 0 0 none 0 0 zS.last none 0 0) 25 (set4K w R (.slice none 0 0) (.slice none 0 0) (.int .i64 0) (.slice none 0 0)) ∧ Below w0.heap.size w0 (set4K w R (.slice none 0 0) (.slice none 0 0) (.int .i64 0) (.slice none 0 0)) :=
  ⟨lies_set4K h.res _ _ _ _, below_set4K h.below h.lt.2.1 _ _ _ _⟩
set_option maxRecDepth 100000 in
set_option maxHeartbeats 4000000 in
theorem ckAddM {M : Nat → Prop} {w : World} {s : Si} {no ns nu : Nat} {O : Option Addr} {cO : Nat} {S : Option Addr} {cS : Nat} {U : Option Addr} {cU : Nat} (h : SkM M w s no ns nu O cO S cS U cU) (hl : Lim s) (hM : ∀ k, M k → k < w.heap.size) (r : Re) :
    Calls Try.prog 9 #[skV O no cO S ns cS s.last U nu cU, reV r] w (GivesSkM M (addO s r) w) := by
  obtain ⟨sg0, h1, _⟩ := h
  obtain ⟨q0, hq0⟩ : ∃ q, q = rightS s := ⟨_, rfl⟩
  have HRG := Lib.hid (fun w' (hb : Below w.heap.size w w') => ckRightH (h1.below hb) hl q0 hq0)
  have HCL := Lib.hid (fun w' (hb : Below w.heap.size w w') hf => ckCloneS (h1.below hb) hf)
  have H1 := Lib.hid h1
  have HL := Lib.hid hl
  have HM := Lib.hid hM
  have HQ0 := Lib.hid hq0
  have HLN : Hid (ns = s.st.length) := Lib.hid h1.lns
  obtain ⟨q1, hq1⟩ : ∃ q, q = okR r := ⟨_, rfl⟩
  obtain ⟨m, hm⟩ : ∃ m, m = countS s := ⟨_, rfl⟩
  obtain ⟨o, ho⟩ : ∃ o, o = addO s r := ⟨_, rfl⟩
  have HRS := Lib.hid (fun w' => ckRes r q1 hq1 w')
  have HCN := Lib.hid (fun w' (hb : Below w.heap.size w w') h8 => ckCount (h1.below hb) hl h8 m hm)
  have HO : Hid (o = if q0 = false then (zS, 1) else if q1 = false then (zS, 1) else if m = 20000 then (zS, 3) else (⟨s.op ++ [r], s.st, s.last, s.out⟩, 0)) := Lib.hid (by rw [ho, hq0, hq1, hm]; exact add_as s r)
  rw [← ho]
  have BK : Hid (SbAt w w.heap.size (w.heap.size + 1 + 1) (skC O no cO S ns cS s.last U nu cU) (((w.alloc (.cells (skC O no cO S ns cS s.last U nu cU) 25)).alloc (.cells (reC r) 29)).alloc (.cells (skC none 0 0 none 0 0 0 none 0 0) 25))) := Lib.hid ⟨((Lies.new w _ _).al).al, Gen.lies_new2 w _ _ _ _, by omega, below_al (below_al (below_al (Below.refl _ _)))⟩
  have LI : Hid (Lies (w.heap.size + 1) (reC r) 29 (((w.alloc (.cells (skC O no cO S ns cS s.last U nu cU) 25)).alloc (.cells (reC r) 29)).alloc (.cells (skC none 0 0 none 0 0 0 none 0 0) 25))) := Lib.hid (Gen.lies_new1 w _ _ _).al
  clear h1 hl hM hq0 hq1 hm ho
  go_enter Try.func9, Try.ntmps9
  go_upto_region 1 with fail
  obtain ⟨R, hR⟩ : ∃ b, b = w.heap.size + 1 + 1 := ⟨_, rfl⟩
  obtain ⟨b2, hb2⟩ : ∃ b, b = w.heap.size + 1 := ⟨_, rfl⟩
  obtain ⟨b1, hb1⟩ : ∃ b, b = w.heap.size := ⟨_, rfl⟩
  have HNE : Hid (b2 ≠ b1) := Lib.hid (by omega)
  obtain ⟨W, hW⟩ : ∃ W, W = ((w.alloc (.cells (skC O no cO S ns cS s.last U nu cU) 25)).alloc (.cells (reC r) 29)).alloc (.cells (skC none 0 0 none 0 0 0 none 0 0) 25) := ⟨_, rfl⟩
  rw [← hW] at BK LI ⊢
  rw [← hR] at BK ⊢
  rw [← hb2] at LI ⊢
  rw [show SbAt w w.heap.size = SbAt w b1 by rw [hb1]] at BK
  rw [← hb1]
  clear hW hR hb2 hb1
  have x0 := BK.out.arg.cell (j := 0) rfl; have x1 := BK.out.arg.cell (j := 1) rfl; have x2 := BK.out.arg.cell (j := 2) rfl; have x3 := BK.out.arg.cell (j := 3) rfl
  have r0 := BK.out.res.cell (j := 0) rfl; have r1 := BK.out.res.cell (j := 1) rfl; have r2 := BK.out.res.cell (j := 2) rfl; have r3 := BK.out.res.cell (j := 3) rfl
  have f0 := BK.out.res.free 0; have f1 := BK.out.res.free 1; have f2 := BK.out.res.free 2; have f3 := BK.out.res.free 3
  go_wp2_with fail
  refine (HRG.out _ BK.out.below).mono ?_
  rintro e w1 ⟨rfl, hbw⟩
  have BK := Lib.hid (BK.out.next hbw)
  have LI := Lib.hid (LI.out.below hbw)
  clear hbw x0 x1 x2 x3 r0 r1 r2 r3 f0 f1 f2 f3
  have x0 := BK.out.arg.cell (j := 0) rfl; have x1 := BK.out.arg.cell (j := 1) rfl; have x2 := BK.out.arg.cell (j := 2) rfl; have x3 := BK.out.arg.cell (j := 3) rfl
  have r0 := BK.out.res.cell (j := 0) rfl; have r1 := BK.out.res.cell (j := 1) rfl; have r2 := BK.out.res.cell (j := 2) rfl; have r3 := BK.out.res.cell (j := 3) rfl
  have f0 := BK.out.res.free 0; have f1 := BK.out.res.free 1; have f2 := BK.out.res.free 2; have f3 := BK.out.res.free 3
  cases q0
  · have e : o = (zS, 1) := HO.out
    subst e
    go_wp2_with fail
    refine addC_ret (o := (zS, 1)) (R := R) ?_ ?_ ?_ BK.out.zero.1 (zero_at M _) BK.out.zero.2 <;> rfl
  · have HF : Hid (Fit s) := Lib.hid (right_fit HQ0.out.symm)
    have HO : Hid (o = if q1 = false then (zS, 1) else if m = 20000 then (zS, 3) else (⟨s.op ++ [r], s.st, s.last, s.out⟩, 0)) := Lib.hid HO.out
    have y0 := LI.out.cell (j := 0) rfl; have y1 := LI.out.cell (j := 1) rfl; have y2 := LI.out.cell (j := 2) rfl; have y3 := LI.out.cell (j := 3) rfl; have y4 := LI.out.cell (j := 4) rfl
    go_wp2_with fail
    refine (HRS.out _).mono ?_
    rintro e w2 ⟨rfl, hbw⟩
    have BK := Lib.hid (BK.out.next hbw)
    have LI := Lib.hid (LI.out.below hbw)
    clear hbw x0 x1 x2 x3 r0 r1 r2 r3 f0 f1 f2 f3 y0 y1 y2 y3 y4
    have x0 := BK.out.arg.cell (j := 0) rfl; have x1 := BK.out.arg.cell (j := 1) rfl; have x2 := BK.out.arg.cell (j := 2) rfl; have x3 := BK.out.arg.cell (j := 3) rfl
    have r0 := BK.out.res.cell (j := 0) rfl; have r1 := BK.out.res.cell (j := 1) rfl; have r2 := BK.out.res.cell (j := 2) rfl; have r3 := BK.out.res.cell (j := 3) rfl
    have f0 := BK.out.res.free 0; have f1 := BK.out.res.free 1; have f2 := BK.out.res.free 2; have f3 := BK.out.res.free 3
    cases q1
    · have e : o = (zS, 1) := HO.out
      subst e
      go_wp2_with fail
      refine addC_ret (o := (zS, 1)) (R := R) ?_ ?_ ?_ BK.out.zero.1 (zero_at M _) BK.out.zero.2 <;> rfl
    · have HO : Hid (o = if m = 20000 then (zS, 3) else (⟨s.op ++ [r], s.st, s.last, s.out⟩, 0)) := Lib.hid HO.out
      go_wp2_with fail
      refine (HCN.out _ BK.out.below (by rw [HLN.out]; exact HF.out.t)).mono ?_
      rintro e w3 ⟨rfl, hbw⟩
      have BK := Lib.hid (BK.out.next hbw)
      have LI := Lib.hid (LI.out.below hbw)
      clear hbw x0 x1 x2 x3 r0 r1 r2 r3 f0 f1 f2 f3
      have x0 := BK.out.arg.cell (j := 0) rfl; have x1 := BK.out.arg.cell (j := 1) rfl; have x2 := BK.out.arg.cell (j := 2) rfl; have x3 := BK.out.arg.cell (j := 3) rfl
      have r0 := BK.out.res.cell (j := 0) rfl; have r1 := BK.out.res.cell (j := 1) rfl; have r2 := BK.out.res.cell (j := 2) rfl; have r3 := BK.out.res.cell (j := 3) rfl
      have f0 := BK.out.res.free 0; have f1 := BK.out.res.free 1; have f2 := BK.out.res.free 2; have f3 := BK.out.res.free 3
      by_cases hm : m = 20000
      · have g0 : ((m : Int) == 20000) = true := eq_b (by omega)
        have e : o = (zS, 3) := HO.out.trans (if_pos hm)
        clear hm
        subst e
        go_wp2_with fail
        refine addC_ret (o := (zS, 3)) (R := R) ?_ ?_ ?_ BK.out.zero.1 (zero_at M _) BK.out.zero.2 <;> rfl
      · have g0 : ((m : Int) == 20000) = false := ne_b (by omega)
        have HOK : Hid (o = (⟨s.op ++ [r], s.st, s.last, s.out⟩, 0)) := Lib.hid (HO.out.trans (if_neg hm))
        clear hm HO
        have a0 := BK.out.arg.free 0; have a1 := BK.out.arg.free 1; have a2 := BK.out.arg.free 2; have a3 := BK.out.arg.free 3
        go_wp2_with fail
        refine (HCL.out _ BK.out.below HF.out).mono ?_
        rintro e w3 ⟨O', cO', S', cS', U', cU', sg, rfl, ow⟩
        have BK3 := Lib.hid (BK.out.next ow.below)
        have OW := Lib.hid (ow.rebase BK.out.below)
        have LI3 := Lib.hid ((LI.out.below ow.below).other (c := b1) HNE.out 0 (.slice O' no cO'))
        have LI3 := Lib.hid (((LI3.out.other (c := b1) HNE.out 1 (.slice S' ns cS')).other (c := b1) HNE.out 2 (.int .i64 s.last)).other (c := b1) HNE.out 3 (.slice U' nu cU'))
        clear ow x0 x1 x2 x3 r0 r1 r2 r3 f0 f1 f2 f3 a0 a1 a2 a3 BK
        have x0 := BK3.out.arg.cell (j := 0) rfl; have x1 := BK3.out.arg.cell (j := 1) rfl; have x2 := BK3.out.arg.cell (j := 2) rfl; have x3 := BK3.out.arg.cell (j := 3) rfl
        have a0 := BK3.out.arg.free 0; have a1 := BK3.out.arg.free 1; have a2 := BK3.out.arg.free 2; have a3 := BK3.out.arg.free 3
        go_upto_region 6 with fail
        have CN := Lib.hid (CnAt.of BK3.out.arg BK3.out.res BK3.out.lt OW.out)
        obtain ⟨W4, hW4⟩ : ∃ W, W = set4K w3 b1 (.slice O' no cO') (.slice S' ns cS') (.int .i64 s.last) (.slice U' nu cU') := ⟨_, rfl⟩
        rw [← hW4] at CN
        unfold set4K at hW4
        rw [← hW4]
        rw [← hW4] at LI3
        clear hW4 x0 x1 x2 x3 a0 a1 a2 a3 BK3 OW
        have x0 := CN.out.st.cell (j := 0) rfl
        have y0 := LI3.out.cell (j := 0) rfl; have y1 := LI3.out.cell (j := 1) rfl; have y2 := LI3.out.cell (j := 2) rfl; have y3 := LI3.out.cell (j := 3) rfl; have y4 := LI3.out.cell (j := 4) rfl
        go_wp2_with (at_builtin; refine hold_mk ?_)
        refine hold_out ?_
        have hro := one_rowR W4 r
        have C5 := Lib.hid (CN.out.next (below_al (o := .cells (reC r) 29) (Below.refl W4.heap.size W4)))
        refine wpPushR rfl _ _ rfl _ s.op rfl H1.out.lno C5.out.ow.oo C5.out.ow.below.size _ 1 r rfl hro (by have := HF.out.o; have := H1.out.lno; omega) ?_
        intro v9 w9 bt9 hg9 hl9
        obtain ⟨V9, c9, rfl, _⟩ := own_form bt9 (by omega)
        obtain ⟨c6, l9⟩ := C5.out.pushO hg9 bt9 hl9
        have C6 := Lib.hid c6
        have f0 := l9.free 0
        have x0 := l9.cell (j := 0) rfl
        clear c6 l9 bt9 hg9 hl9 hro y0 y1 y2 y3 y4 C5 CN
        go_upto_region 7 with fail
        obtain ⟨W6, hW6⟩ : ∃ W, W = w9.setCell ⟨b1, 0, none⟩ (.slice V9 (no + 1) c9) := ⟨_, rfl⟩
        rw [← hW6] at C6 ⊢
        clear hW6 x0 f0
        have e := HOK.out
        subst e
        have x0 := C6.out.st.cell (j := 0) rfl; have x1 := C6.out.st.cell (j := 1) rfl; have x2 := C6.out.st.cell (j := 2) rfl; have x3 := C6.out.st.cell (j := 3) rfl
        have r0 := C6.out.res.cell (j := 0) rfl; have r1 := C6.out.res.cell (j := 1) rfl; have r2 := C6.out.res.cell (j := 2) rfl; have r3 := C6.out.res.cell (j := 3) rfl
        have f0 := C6.out.res.free 0; have f1 := C6.out.res.free 1; have f2 := C6.out.res.free 2; have f3 := C6.out.res.free 3
        go_wp2_with fail
        refine addC_ret (o := (⟨s.op ++ [r], s.st, s.last, s.out⟩, 0)) (R := R) ?_ ?_ ?_ C6.out.fin.1 (C6.out.fin.2.skm HM.out) C6.out.fin.2.below <;> rfl
set_option maxRecDepth 100000 in
set_option maxHeartbeats 4000000 in
theorem ckStageM {M : Nat → Prop} {w : World} {s : Si} {no ns nu : Nat} {O : Option Addr} {cO : Nat} {S : Option Addr} {cS : Nat} {U : Option Addr} {cU : Nat} (h : SkM M w s no ns nu O cO S cS U cU) (hl : Lim s) (hM : ∀ k, M k → k < w.heap.size) (n : Int) :
    Calls Try.prog 11 #[skV O no cO S ns cS s.last U nu cU, .int .i64 n] w (GivesSkM M (stageO s n) w) := by
  obtain ⟨sg0, h1, _⟩ := h
  obtain ⟨q0, hq0⟩ : ∃ q, q = rightS s := ⟨_, rfl⟩
  have HRG := Lib.hid (fun w' (hb : Below w.heap.size w w') => ckRightH (h1.below hb) hl q0 hq0)
  have HCL := Lib.hid (fun w' (hb : Below w.heap.size w w') hf => ckCloneS (h1.below hb) hf)
  have H1 := Lib.hid h1
  have HL := Lib.hid hl
  have HM := Lib.hid hM
  have HQ0 := Lib.hid hq0
  have HLN : Hid (ns = s.st.length) := Lib.hid h1.lns
  obtain ⟨o, ho⟩ : ∃ o, o = stageO s n := ⟨_, rfl⟩
  have HNW := Lib.hid (fun w' (hb : Below w.heap.size w w') h8 => ckNewest (h1.below hb) h8)
  obtain ⟨la, hla⟩ : ∃ la, la = lastO s := ⟨_, rfl⟩
  rw [← hla] at HNW
  have HO : Hid (o = if q0 = false ∨ 1073741824 < n then (zS, 1) else if n ≤ la then (zS, 190) else if ns = 8 then (zS, 3) else (⟨[], s.st ++ [(n, s.op)], s.last, s.out⟩, 0)) := Lib.hid (by rw [ho, hq0, hla, h1.lns]; rfl)
  rw [← ho]
  clear hla ho
  have BK : Hid (SbAt w w.heap.size (w.heap.size + 1) (skC O no cO S ns cS s.last U nu cU) ((w.alloc (.cells (skC O no cO S ns cS s.last U nu cU) 25)).alloc (.cells (skC none 0 0 none 0 0 0 none 0 0) 25))) := Lib.hid ⟨(Lies.new w _ _).al, Gen.lies_new1 w _ _ _, by omega, below_al (below_al (Below.refl _ _))⟩
  clear h1 hl hM hq0
  go_enter Try.func11, Try.ntmps11
  go_upto_region 1 with fail
  obtain ⟨R, hR⟩ : ∃ b, b = w.heap.size + 1 := ⟨_, rfl⟩
  obtain ⟨b1, hb1⟩ : ∃ b, b = w.heap.size := ⟨_, rfl⟩
  obtain ⟨W, hW⟩ : ∃ W, W = (w.alloc (.cells (skC O no cO S ns cS s.last U nu cU) 25)).alloc (.cells (skC none 0 0 none 0 0 0 none 0 0) 25) := ⟨_, rfl⟩
  rw [← hW] at BK ⊢
  rw [← hR] at BK ⊢
  rw [show SbAt w w.heap.size = SbAt w b1 by rw [hb1]] at BK
  rw [← hb1]
  clear hW hR hb1
  have x0 := BK.out.arg.cell (j := 0) rfl; have x1 := BK.out.arg.cell (j := 1) rfl; have x2 := BK.out.arg.cell (j := 2) rfl; have x3 := BK.out.arg.cell (j := 3) rfl
  have r0 := BK.out.res.cell (j := 0) rfl; have r1 := BK.out.res.cell (j := 1) rfl; have r2 := BK.out.res.cell (j := 2) rfl; have r3 := BK.out.res.cell (j := 3) rfl
  have f0 := BK.out.res.free 0; have f1 := BK.out.res.free 1; have f2 := BK.out.res.free 2; have f3 := BK.out.res.free 3
  go_wp2_with fail
  refine (HRG.out _ BK.out.below).mono ?_
  rintro e w1 ⟨rfl, hbw⟩
  have BK := Lib.hid (BK.out.next hbw)
  clear hbw x0 x1 x2 x3 r0 r1 r2 r3 f0 f1 f2 f3
  have x0 := BK.out.arg.cell (j := 0) rfl; have x1 := BK.out.arg.cell (j := 1) rfl; have x2 := BK.out.arg.cell (j := 2) rfl; have x3 := BK.out.arg.cell (j := 3) rfl
  have r0 := BK.out.res.cell (j := 0) rfl; have r1 := BK.out.res.cell (j := 1) rfl; have r2 := BK.out.res.cell (j := 2) rfl; have r3 := BK.out.res.cell (j := 3) rfl
  have f0 := BK.out.res.free 0; have f1 := BK.out.res.free 1; have f2 := BK.out.res.free 2; have f3 := BK.out.res.free 3
  cases q0
  · have e : o = (zS, 1) := HO.out.trans (if_pos (.inl rfl))
    subst e
    go_wp2_with fail
    refine stageC_ret (o := (zS, 1)) (R := R) ?_ ?_ ?_ BK.out.zero.1 (zero_at M _) BK.out.zero.2 <;> rfl
  · have HF : Hid (Fit s) := Lib.hid (right_fit HQ0.out.symm)
    by_cases hn : 1073741824 < n
    · have g1 : decide (1073741824 < n) = true := decide_eq_true hn
      have e : o = (zS, 1) := HO.out.trans (if_pos (.inr hn))
      clear hn
      subst e
      go_wp2_with fail
      refine stageC_ret (o := (zS, 1)) (R := R) ?_ ?_ ?_ BK.out.zero.1 (zero_at M _) BK.out.zero.2 <;> rfl
    · have g1 : decide (1073741824 < n) = false := decide_eq_false hn
      have HO : Hid (o = if n ≤ la then (zS, 190) else if ns = 8 then (zS, 3) else (⟨[], s.st ++ [(n, s.op)], s.last, s.out⟩, 0)) := Lib.hid (HO.out.trans (if_neg (by simp; omega)))
      clear hn
      go_wp2_with fail
      refine (HNW.out _ BK.out.below (by rw [HLN.out]; exact HF.out.t)).mono ?_
      rintro e w2 ⟨rfl, hbw⟩
      have BK := Lib.hid (BK.out.next hbw)
      clear hbw x0 x1 x2 x3 r0 r1 r2 r3 f0 f1 f2 f3
      have x0 := BK.out.arg.cell (j := 0) rfl; have x1 := BK.out.arg.cell (j := 1) rfl; have x2 := BK.out.arg.cell (j := 2) rfl; have x3 := BK.out.arg.cell (j := 3) rfl
      have r0 := BK.out.res.cell (j := 0) rfl; have r1 := BK.out.res.cell (j := 1) rfl; have r2 := BK.out.res.cell (j := 2) rfl; have r3 := BK.out.res.cell (j := 3) rfl
      have f0 := BK.out.res.free 0; have f1 := BK.out.res.free 1; have f2 := BK.out.res.free 2; have f3 := BK.out.res.free 3
      by_cases hla : n ≤ la
      · have g2 : decide (n ≤ la) = true := decide_eq_true hla
        have e : o = (zS, 190) := HO.out.trans (if_pos hla)
        clear hla
        subst e
        go_wp2_with fail
        refine stageC_ret (o := (zS, 190)) (R := R) ?_ ?_ ?_ BK.out.zero.1 (zero_at M _) BK.out.zero.2 <;> rfl
      · have g2 : decide (n ≤ la) = false := decide_eq_false hla
        have HO : Hid (o = if ns = 8 then (zS, 3) else (⟨[], s.st ++ [(n, s.op)], s.last, s.out⟩, 0)) := Lib.hid (HO.out.trans (if_neg hla))
        clear hla
        by_cases h8 : ns = 8
        · have g0 : ((ns : Int) == 8) = true := eq_b (by omega)
          have e : o = (zS, 3) := HO.out.trans (if_pos h8)
          clear h8
          subst e
          go_wp2_with fail
          refine stageC_ret (o := (zS, 3)) (R := R) ?_ ?_ ?_ BK.out.zero.1 (zero_at M _) BK.out.zero.2 <;> rfl
        · have g0 : ((ns : Int) == 8) = false := ne_b (by omega)
          have HOK : Hid (o = (⟨[], s.st ++ [(n, s.op)], s.last, s.out⟩, 0)) := Lib.hid (HO.out.trans (if_neg h8))
          clear h8 HO
          have a0 := BK.out.arg.free 0; have a1 := BK.out.arg.free 1; have a2 := BK.out.arg.free 2; have a3 := BK.out.arg.free 3
          go_wp2_with fail
          refine (HCL.out _ BK.out.below HF.out).mono ?_
          rintro e w3 ⟨O', cO', S', cS', U', cU', sg, rfl, ow⟩
          have BK3 := Lib.hid (BK.out.next ow.below)
          have OW := Lib.hid (ow.rebase BK.out.below)
          clear ow x0 x1 x2 x3 r0 r1 r2 r3 f0 f1 f2 f3 a0 a1 a2 a3 BK
          have x0 := BK3.out.arg.cell (j := 0) rfl; have x1 := BK3.out.arg.cell (j := 1) rfl; have x2 := BK3.out.arg.cell (j := 2) rfl; have x3 := BK3.out.arg.cell (j := 3) rfl
          have a0 := BK3.out.arg.free 0; have a1 := BK3.out.arg.free 1; have a2 := BK3.out.arg.free 2; have a3 := BK3.out.arg.free 3
          go_upto_region 8 with fail
          have CN := Lib.hid (CnAt.of BK3.out.arg BK3.out.res BK3.out.lt OW.out)
          obtain ⟨W4, hW4⟩ : ∃ W, W = set4K w3 b1 (.slice O' no cO') (.slice S' ns cS') (.int .i64 s.last) (.slice U' nu cU') := ⟨_, rfl⟩
          rw [← hW4] at CN
          unfold set4K at hW4
          rw [← hW4]
          clear hW4 x0 x1 x2 x3 a0 a1 a2 a3 BK3 OW
          have x0 := CN.out.st.cell (j := 0) rfl; have x1 := CN.out.st.cell (j := 1) rfl
          go_wp2_with (at_builtin; refine hold_mk ?_)
          refine hold_out ?_
          have hro := one_rowG W4 (n, O', cO', s.op)
          simp only [sgC] at hro
          rw [← H1.out.lno] at hro
          have C5 := Lib.hid (CN.out.next (below_al (o := .cells #[.int .i64 n, .slice O' no cO'] 50) (Below.refl W4.heap.size W4)))
          have hos := C5.out.ow.os
          rw [List.append_nil] at hos
          have hsg : ns = sg.length := by have := hos.1; rw [lenG] at this; omega
          refine wpPushG (k := ns) rfl _ _ rfl _ sg rfl hsg hos C5.out.ow.below.size _ 1 (n, O', cO', s.op) rfl hro (by have := HF.out.t; have := HLN.out; omega) ?_
          intro v9 w9 bt9 hg9 hl9
          obtain ⟨V9, c9, rfl, _⟩ := own_form bt9 (by omega)
          obtain ⟨c6, l9⟩ := C5.out.pushS hg9 bt9
          have C6 := Lib.hid c6
          have f0 := l9.free 0; have f1 := l9.free 1
          have x0 := l9.cell (j := 0) rfl; have x1 := l9.cell (j := 1) rfl
          clear c6 l9 bt9 hg9 hl9 hro C5 CN hos hsg
          go_upto_region 9 with fail
          obtain ⟨W6, hW6⟩ : ∃ W, W = (w9.setCell ⟨b1, 1, none⟩ (.slice V9 (ns + 1) c9)).setCell ⟨b1, 0, none⟩ (.slice none 0 0) := ⟨_, rfl⟩
          rw [← hW6] at C6 ⊢
          clear hW6 x0 x1 f0 f1
          have e := HOK.out
          subst e
          have x0 := C6.out.st.cell (j := 0) rfl; have x1 := C6.out.st.cell (j := 1) rfl; have x2 := C6.out.st.cell (j := 2) rfl; have x3 := C6.out.st.cell (j := 3) rfl
          have r0 := C6.out.res.cell (j := 0) rfl; have r1 := C6.out.res.cell (j := 1) rfl; have r2 := C6.out.res.cell (j := 2) rfl; have r3 := C6.out.res.cell (j := 3) rfl
          have f0 := C6.out.res.free 0; have f1 := C6.out.res.free 1; have f2 := C6.out.res.free 2; have f3 := C6.out.res.free 3
          go_wp2_with fail
          refine stageC_ret (o := (⟨[], s.st ++ [(n, s.op)], s.last, s.out⟩, 0)) (R := R) ?_ ?_ ?_ C6.out.fin.1 (C6.out.fin.2.skm HM.out) C6.out.fin.2.below <;> rfl
end Sk
end Go.Proofs.Ytmkbdlailffjeaa
