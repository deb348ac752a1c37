/- The code's Commit, Abort. -/
import Derived.Test.YtmkbdlailffjeaaSinkCh
namespace Go.Proofs.Ytmkbdlailffjeaa
open Go.ChangeShapes Go.WideShapes Go.ChangeAt Go.RowKit
set_option linter.unusedVariables false
set_option maxRecDepth 8000
namespace Sk
open Gen (TellsB TellsI row_one flat_len flat_get Mine)
set_option maxRecDepth 100000 in
set_option maxHeartbeats 4000000 in
theorem ckCommitM {M : Nat → Prop} {w : World} {s : Si} {no ns nu : Nat} {O : Option Addr} {cO : Nat} {S : Option Addr} {cS : Nat} {U : Option Addr} {cU : Nat} (h : SkM M w s no ns nu O cO S cS U cU) (hl : Lim s) (hM : ∀ k, M k → k < w.heap.size) (n : Int) :
    Calls Try.prog 17 #[skV O no cO S ns cS s.last U nu cU, .int .i64 n] w (GivesSkM M (commitO s n) w) := by
  obtain ⟨sg0, h1, _⟩ := h
  obtain ⟨q0, hq0⟩ : ∃ q, q = rightS s := ⟨_, rfl⟩
  have HRG := Lib.hid (fun w' (hb : Below w.heap.size w w') => ckRightH (h1.below hb) hl q0 hq0)
  have HCL := Lib.hid (fun w' (hb : Below w.heap.size w w') hf => ckCloneS (h1.below hb) hf)
  have H1 := Lib.hid h1
  have HL := Lib.hid hl
  have HM := Lib.hid hM
  have HQ0 := Lib.hid hq0
  have HLN : Hid (ns = s.st.length) := Lib.hid h1.lns
  obtain ⟨i0, hi0, hz0, hz1, hz2⟩ := info_partsK InfoR
  have HI0 := Lib.hid hi0; have HZ0 := Lib.hid hz0; have HZ1 := Lib.hid hz1; have HZ2 := Lib.hid hz2
  clear hi0 hz0 hz1 hz2
  obtain ⟨o, ho⟩ : ∃ o, o = commitO s n := ⟨_, rfl⟩
  obtain ⟨th, hth⟩ : ∃ th, th = thereO n s.st := ⟨_, rfl⟩
  have HHA := Lib.hid (fun w' (hb : Below w.heap.size w w') => ckHas sg0 s.st h1.map n ns S cS th h1.lns hth w' (h1.rs.below hb) (by rw [h1.lns]; have := hl.t; omega) (fun x hx => by have := hl.e x hx; omega))
  have HO : Hid (o = if q0 = false then (zS, 1) else if n ≤ s.last then (s, 0) else if th = false then (zS, 190) else (⟨s.op, keepO n s.st, n, s.out ++ goesO n s.st⟩, 0)) := Lib.hid (by rw [ho, hq0, hth]; rfl)
  rw [← ho]
  clear hth ho
  have BK : Hid (SbAt w w.heap.size (w.heap.size + 1) (skC O no cO S ns cS s.last U nu cU) ((w.alloc (.cells (skC O no cO S ns cS s.last U nu cU) 25)).alloc (.cells (skC none 0 0 none 0 0 0 none 0 0) 25))) := Lib.hid ⟨(Lies.new w _ _).al, Gen.lies_new1 w _ _ _, by omega, below_al (below_al (Below.refl _ _))⟩
  clear h1 hl hM hq0
  go_enter Try.func17, Try.ntmps17
  go_upto_region 1 with fail
  obtain ⟨R, hR⟩ : ∃ b, b = w.heap.size + 1 := ⟨_, rfl⟩
  obtain ⟨b1, hb1⟩ : ∃ b, b = w.heap.size := ⟨_, rfl⟩
  obtain ⟨W, hW⟩ : ∃ W, W = (w.alloc (.cells (skC O no cO S ns cS s.last U nu cU) 25)).alloc (.cells (skC none 0 0 none 0 0 0 none 0 0) 25) := ⟨_, rfl⟩
  rw [← hW] at BK ⊢
  rw [← hR] at BK ⊢
  rw [show SbAt w w.heap.size = SbAt w b1 by rw [hb1]] at BK
  rw [← hb1]
  clear hW hR hb1
  have x0 := BK.out.arg.cell (j := 0) rfl; have x1 := BK.out.arg.cell (j := 1) rfl; have x2 := BK.out.arg.cell (j := 2) rfl; have x3 := BK.out.arg.cell (j := 3) rfl
  have r0 := BK.out.res.cell (j := 0) rfl; have r1 := BK.out.res.cell (j := 1) rfl; have r2 := BK.out.res.cell (j := 2) rfl; have r3 := BK.out.res.cell (j := 3) rfl
  have f0 := BK.out.res.free 0; have f1 := BK.out.res.free 1; have f2 := BK.out.res.free 2; have f3 := BK.out.res.free 3
  go_wp2_with fail
  refine (HRG.out _ BK.out.below).mono ?_
  rintro e w1 ⟨rfl, hbw⟩
  have BK := Lib.hid (BK.out.next hbw)
  clear hbw x0 x1 x2 x3 r0 r1 r2 r3 f0 f1 f2 f3
  have x0 := BK.out.arg.cell (j := 0) rfl; have x1 := BK.out.arg.cell (j := 1) rfl; have x2 := BK.out.arg.cell (j := 2) rfl; have x3 := BK.out.arg.cell (j := 3) rfl
  have r0 := BK.out.res.cell (j := 0) rfl; have r1 := BK.out.res.cell (j := 1) rfl; have r2 := BK.out.res.cell (j := 2) rfl; have r3 := BK.out.res.cell (j := 3) rfl
  have f0 := BK.out.res.free 0; have f1 := BK.out.res.free 1; have f2 := BK.out.res.free 2; have f3 := BK.out.res.free 3
  cases q0
  · have e : o = (zS, 1) := HO.out
    subst e
    go_wp2_with fail
    refine commitC_ret (o := (zS, 1)) (R := R) ?_ ?_ ?_ BK.out.zero.1 (zero_at M _) BK.out.zero.2 <;> rfl
  · have HF : Hid (Fit s) := Lib.hid (right_fit HQ0.out.symm)
    by_cases hn : n ≤ s.last
    · have g1 : decide (n ≤ s.last) = true := decide_eq_true hn
      have e : o = (s, 0) := by have := HO.out; simpa [hn] using this
      clear hn
      subst e
      go_wp2_with fail
      refine (HCL.out _ BK.out.below HF.out).mono ?_
      rintro e w3 ⟨O', cO', S', cS', U', cU', sg, rfl, ow⟩
      have BK3 := Lib.hid (BK.out.next ow.below)
      have OW := Lib.hid (ow.rebase BK.out.below)
      clear ow x0 x1 x2 x3 r0 r1 r2 r3 f0 f1 f2 f3 BK
      have r0 := BK3.out.res.cell (j := 0) rfl; have r1 := BK3.out.res.cell (j := 1) rfl; have r2 := BK3.out.res.cell (j := 2) rfl; have r3 := BK3.out.res.cell (j := 3) rfl
      have f0 := BK3.out.res.free 0; have f1 := BK3.out.res.free 1; have f2 := BK3.out.res.free 2; have f3 := BK3.out.res.free 3
      go_wp2_with fail
      refine commitC_ret (o := (s, 0)) (R := R) ?_ ?_ ?_ (lies_set4K BK3.out.res (.slice O' no cO') (.slice S' ns cS') (.int .i64 s.last) (.slice U' nu cU')) ((OW.out.put4 BK3.out.res BK3.out.lt.2.1 _ _ _ _).skm HM.out) (OW.out.put4 BK3.out.res BK3.out.lt.2.1 _ _ _ _).below <;> rfl
    · have g1 : decide (n ≤ s.last) = false := decide_eq_false hn
      have HO : Hid (o = if th = false then (zS, 190) else (⟨s.op, keepO n s.st, n, s.out ++ goesO n s.st⟩, 0)) := Lib.hid (by have := HO.out; simpa [hn] using this)
      clear hn
      go_wp2_with fail
      refine (HHA.out _ BK.out.below).mono ?_
      rintro e w2 ⟨rfl, hbw⟩
      have BK := Lib.hid (BK.out.next hbw)
      clear hbw x0 x1 x2 x3 r0 r1 r2 r3 f0 f1 f2 f3
      have x0 := BK.out.arg.cell (j := 0) rfl; have x1 := BK.out.arg.cell (j := 1) rfl; have x2 := BK.out.arg.cell (j := 2) rfl; have x3 := BK.out.arg.cell (j := 3) rfl
      have r0 := BK.out.res.cell (j := 0) rfl; have r1 := BK.out.res.cell (j := 1) rfl; have r2 := BK.out.res.cell (j := 2) rfl; have r3 := BK.out.res.cell (j := 3) rfl
      have f0 := BK.out.res.free 0; have f1 := BK.out.res.free 1; have f2 := BK.out.res.free 2; have f3 := BK.out.res.free 3
      cases th
      · have e : o = (zS, 190) := HO.out
        subst e
        go_wp2_with fail
        refine commitC_ret (o := (zS, 190)) (R := R) ?_ ?_ ?_ BK.out.zero.1 (zero_at M _) BK.out.zero.2 <;> rfl
      · have HOK : Hid (o = (⟨s.op, keepO n s.st, n, s.out ++ goesO n s.st⟩, 0)) := Lib.hid HO.out
        clear HO
        have a0 := BK.out.arg.free 0; have a1 := BK.out.arg.free 1; have a2 := BK.out.arg.free 2; have a3 := BK.out.arg.free 3
        go_wp2_with fail
        refine (HCL.out _ BK.out.below HF.out).mono ?_
        rintro e w3 ⟨O', cO', S', cS', U', cU', sg, rfl, ow⟩
        have BK3 := Lib.hid (BK.out.next ow.below)
        have OW := Lib.hid (ow.rebase BK.out.below)
        clear ow x0 x1 x2 x3 r0 r1 r2 r3 f0 f1 f2 f3 a0 a1 a2 a3 BK
        have x0 := BK3.out.arg.cell (j := 0) rfl; have x1 := BK3.out.arg.cell (j := 1) rfl; have x2 := BK3.out.arg.cell (j := 2) rfl; have x3 := BK3.out.arg.cell (j := 3) rfl
        have a0 := BK3.out.arg.free 0; have a1 := BK3.out.arg.free 1; have a2 := BK3.out.arg.free 2; have a3 := BK3.out.arg.free 3
        go_upto_region 8 with fail
        have CN := Lib.hid (CnAt.of BK3.out.arg BK3.out.res BK3.out.lt OW.out)
        obtain ⟨W4, hW4⟩ : ∃ W, W = set4K w3 b1 (.slice O' no cO') (.slice S' ns cS') (.int .i64 s.last) (.slice U' nu cU') := ⟨_, rfl⟩
        rw [← hW4] at CN
        unfold set4K at hW4
        rw [← hW4]
        clear hW4 x0 x1 x2 x3 a0 a1 a2 a3 BK3 OW
        have x1 := CN.out.st.cell (j := 1) rfl
        have HRM := Lib.hid (ckRemove sg s.st CN.out.ow.raw.map ns HLN.out (by rw [HLN.out]; exact HF.out.t) HF.out.e n S' cS' W4 CN.out.ow.raw.rs)
        go_wp2_with fail
        refine HRM.out.mono ?_
        rintro e w5 ⟨A, k, cA, B, m, dB, rfl, rv⟩
        have C5 := Lib.hid (CN.out.next rv.below)
        have HA := Lib.hid (own_base rv.os CN.out.ow.below.size)
        have HB := Lib.hid (own_rowR rv.ox)
        clear rv x1 HRM
        have x3 := C5.out.st.cell (j := 3) rfl
        go_wp2_with (at_builtin; refine hold_mk ?_)
        refine hold_out ?_
        refine Gen.wpAppRow rfl _ _ 22 rfl w.heap.size 29 i0 _ 5 48 Try.underlying22 HI0.out HZ0.out HZ1.out HZ2.out rfl (by omega) _ nu (rec_ s.out) rfl C5.out.ow.ou B m dB (rec_ (goesO n s.st)) rfl HB.out.1 (by rw [lenR, HB.out.2.2]) (onesR _)
          (by have h1 := goes_len n s.st 20000 HF.out.e; have h2 : s.st.length * 20000 ≤ 8 * 20000 := Nat.mul_le_mul_right _ HF.out.t; have := HF.out.u; have := H1.out.lnu; have := HB.out.2.2; unfold maxLen; omega)
          (by have h1 := goes_len n s.st 20000 HF.out.e; have h2 : s.st.length * 20000 ≤ 8 * 20000 := Nat.mul_le_mul_right _ HF.out.t; have := HF.out.u; have := H1.out.lnu; have := HB.out.2.2; omega) C5.out.ow.below.size ?_
        intro v9 w9 bt9 hg9 hl9
        obtain ⟨V9, c9, rfl, _⟩ := own_form bt9 (by omega)
        obtain ⟨c6, l9⟩ := C5.out.commit HA.out hg9 bt9 hl9
        have C6 := Lib.hid c6
        have f1 := l9.free 1; have f2 := l9.free 2; have f3 := l9.free 3
        have x1 := l9.cell (j := 1) rfl; have x2 := l9.cell (j := 2) rfl; have x3 := l9.cell (j := 3) rfl
        clear c6 l9 bt9 hg9 hl9 C5 CN HA HB
        go_upto_region 10 with fail
        obtain ⟨W6, hW6⟩ : ∃ W, W = ((w9.setCell ⟨b1, 1, none⟩ (.slice A k cA)).setCell ⟨b1, 3, none⟩ (.slice V9 (nu + m) c9)).setCell ⟨b1, 2, none⟩ (.int .i64 n) := ⟨_, rfl⟩
        rw [← hW6] at C6 ⊢
        clear hW6 x1 x2 x3 f1 f2 f3
        have e := HOK.out
        subst e
        have x0 := C6.out.st.cell (j := 0) rfl; have x1 := C6.out.st.cell (j := 1) rfl; have x2 := C6.out.st.cell (j := 2) rfl; have x3 := C6.out.st.cell (j := 3) rfl
        have r0 := C6.out.res.cell (j := 0) rfl; have r1 := C6.out.res.cell (j := 1) rfl; have r2 := C6.out.res.cell (j := 2) rfl; have r3 := C6.out.res.cell (j := 3) rfl
        have f0 := C6.out.res.free 0; have f1 := C6.out.res.free 1; have f2 := C6.out.res.free 2; have f3 := C6.out.res.free 3
        go_wp2_with fail
        refine commitC_ret (o := (⟨s.op, keepO n s.st, n, s.out ++ goesO n s.st⟩, 0)) (R := R) ?_ ?_ ?_ C6.out.fin.1 (C6.out.fin.2.skm HM.out) C6.out.fin.2.below <;> rfl
set_option maxRecDepth 100000 in
set_option maxHeartbeats 4000000 in
theorem ckAbortM {M : Nat → Prop} {w : World} {s : Si} {no ns nu : Nat} {O : Option Addr} {cO : Nat} {S : Option Addr} {cS : Nat} {U : Option Addr} {cU : Nat} (h : SkM M w s no ns nu O cO S cS U cU) (hl : Lim s) (hM : ∀ k, M k → k < w.heap.size) :
    Calls Try.prog 19 #[skV O no cO S ns cS s.last U nu cU] w (GivesSkM M (abortO s) w) := by
  obtain ⟨sg0, h1, _⟩ := h
  obtain ⟨q0, hq0⟩ : ∃ q, q = rightS s := ⟨_, rfl⟩
  have HRG := Lib.hid (fun w' (hb : Below w.heap.size w w') => ckRightH (h1.below hb) hl q0 hq0)
  have HCL := Lib.hid (fun w' (hb : Below w.heap.size w w') hf => ckCloneS (h1.below hb) hf)
  have H1 := Lib.hid h1
  have HL := Lib.hid hl
  have HM := Lib.hid hM
  have HQ0 := Lib.hid hq0
  have HLN : Hid (ns = s.st.length) := Lib.hid h1.lns
  obtain ⟨o, ho⟩ : ∃ o, o = abortO s := ⟨_, rfl⟩
  have HO : Hid (o = if q0 = false then (zS, 1) else (⟨[], [], s.last, s.out⟩, 0)) := Lib.hid (by rw [ho, hq0]; rfl)
  rw [← ho]
  clear ho
  have BK : Hid (SbAt w w.heap.size (w.heap.size + 1) (skC O no cO S ns cS s.last U nu cU) ((w.alloc (.cells (skC O no cO S ns cS s.last U nu cU) 25)).alloc (.cells (skC none 0 0 none 0 0 0 none 0 0) 25))) := Lib.hid ⟨(Lies.new w _ _).al, Gen.lies_new1 w _ _ _, by omega, below_al (below_al (Below.refl _ _))⟩
  clear h1 hl hM hq0
  go_enter Try.func19, Try.ntmps19
  go_upto_region 1 with fail
  obtain ⟨R, hR⟩ : ∃ b, b = w.heap.size + 1 := ⟨_, rfl⟩
  obtain ⟨b1, hb1⟩ : ∃ b, b = w.heap.size := ⟨_, rfl⟩
  obtain ⟨W, hW⟩ : ∃ W, W = (w.alloc (.cells (skC O no cO S ns cS s.last U nu cU) 25)).alloc (.cells (skC none 0 0 none 0 0 0 none 0 0) 25) := ⟨_, rfl⟩
  rw [← hW] at BK ⊢
  rw [← hR] at BK ⊢
  rw [show SbAt w w.heap.size = SbAt w b1 by rw [hb1]] at BK
  rw [← hb1]
  clear hW hR hb1
  have x0 := BK.out.arg.cell (j := 0) rfl; have x1 := BK.out.arg.cell (j := 1) rfl; have x2 := BK.out.arg.cell (j := 2) rfl; have x3 := BK.out.arg.cell (j := 3) rfl
  have r0 := BK.out.res.cell (j := 0) rfl; have r1 := BK.out.res.cell (j := 1) rfl; have r2 := BK.out.res.cell (j := 2) rfl; have r3 := BK.out.res.cell (j := 3) rfl
  have f0 := BK.out.res.free 0; have f1 := BK.out.res.free 1; have f2 := BK.out.res.free 2; have f3 := BK.out.res.free 3
  go_wp2_with fail
  refine (HRG.out _ BK.out.below).mono ?_
  rintro e w1 ⟨rfl, hbw⟩
  have BK := Lib.hid (BK.out.next hbw)
  clear hbw x0 x1 x2 x3 r0 r1 r2 r3 f0 f1 f2 f3
  have x0 := BK.out.arg.cell (j := 0) rfl; have x1 := BK.out.arg.cell (j := 1) rfl; have x2 := BK.out.arg.cell (j := 2) rfl; have x3 := BK.out.arg.cell (j := 3) rfl
  have r0 := BK.out.res.cell (j := 0) rfl; have r1 := BK.out.res.cell (j := 1) rfl; have r2 := BK.out.res.cell (j := 2) rfl; have r3 := BK.out.res.cell (j := 3) rfl
  have f0 := BK.out.res.free 0; have f1 := BK.out.res.free 1; have f2 := BK.out.res.free 2; have f3 := BK.out.res.free 3
  cases q0
  · have e : o = (zS, 1) := HO.out
    subst e
    go_wp2_with fail
    refine abortC_ret (o := (zS, 1)) (R := R) ?_ ?_ ?_ BK.out.zero.1 (zero_at M _) BK.out.zero.2 <;> rfl
  · have HF : Hid (Fit s) := Lib.hid (right_fit HQ0.out.symm)
    have HOK : Hid (o = (⟨[], [], s.last, s.out⟩, 0)) := Lib.hid HO.out
    clear HO
    have a0 := BK.out.arg.free 0; have a1 := BK.out.arg.free 1; have a2 := BK.out.arg.free 2; have a3 := BK.out.arg.free 3
    go_wp2_with fail
    refine (HCL.out _ BK.out.below HF.out).mono ?_
    rintro e w3 ⟨O', cO', S', cS', U', cU', sg, rfl, ow⟩
    have BK3 := Lib.hid (BK.out.next ow.below)
    have OW := Lib.hid (ow.rebase BK.out.below)
    clear ow x0 x1 x2 x3 r0 r1 r2 r3 f0 f1 f2 f3 a0 a1 a2 a3 BK
    have x0 := BK3.out.arg.cell (j := 0) rfl; have x1 := BK3.out.arg.cell (j := 1) rfl; have x2 := BK3.out.arg.cell (j := 2) rfl; have x3 := BK3.out.arg.cell (j := 3) rfl
    have a0 := BK3.out.arg.free 0; have a1 := BK3.out.arg.free 1; have a2 := BK3.out.arg.free 2; have a3 := BK3.out.arg.free 3
    go_upto_region 4 with fail
    have CN := Lib.hid (CnAt.of BK3.out.arg BK3.out.res BK3.out.lt OW.out)
    obtain ⟨W4, hW4⟩ : ∃ W, W = set4K w3 b1 (.slice O' no cO') (.slice S' ns cS') (.int .i64 s.last) (.slice U' nu cU') := ⟨_, rfl⟩
    rw [← hW4] at CN
    unfold set4K at hW4
    rw [← hW4]
    clear hW4 x0 x1 x2 x3 a0 a1 a2 a3 BK3 OW
    have x0 := CN.out.st.cell (j := 0) rfl
    have f0 := CN.out.st.free 0
    go_upto_region 5 with fail
    have C5 := Lib.hid CN.out.drop0
    have HMP := Lib.hid CN.out.ow.raw.map
    obtain ⟨W5, hW5⟩ : ∃ W, W = W4.setCell ⟨b1, 0, none⟩ (.slice none 0 0) := ⟨_, rfl⟩
    rw [← hW5] at C5 ⊢
    clear hW5 x0 f0 CN
    have x1 := C5.out.st.cell (j := 1) rfl
    have HRM := Lib.hid (ckRemove sg s.st HMP.out ns HLN.out (by rw [HLN.out]; exact HF.out.t) HF.out.e 1073741824 S' cS' W5 C5.out.ow.raw.rs)
    go_wp2_with fail
    refine HRM.out.mono ?_
    rintro e w6 ⟨A, k, cA, B, m, dB, rfl, rv⟩
    have C6 := Lib.hid (C5.out.next rv.below)
    have hos := own_base rv.os C5.out.ow.below.size
    rw [keep_most HQ0.out.symm HMP.out] at hos
    have C7 := Lib.hid (C6.out.drop1 hos)
    clear rv x1 HRM hos C5
    have x1 := C6.out.st.cell (j := 1) rfl
    have f1 := C6.out.st.free 1
    go_upto_region 6 with fail
    obtain ⟨W7, hW7⟩ : ∃ W, W = w6.setCell ⟨b1, 1, none⟩ (.slice A k cA) := ⟨_, rfl⟩
    rw [← hW7] at C7 ⊢
    clear hW7 x1 f1 C6
    have e := HOK.out
    subst e
    have x0 := C7.out.st.cell (j := 0) rfl; have x1 := C7.out.st.cell (j := 1) rfl; have x2 := C7.out.st.cell (j := 2) rfl; have x3 := C7.out.st.cell (j := 3) rfl
    have r0 := C7.out.res.cell (j := 0) rfl; have r1 := C7.out.res.cell (j := 1) rfl; have r2 := C7.out.res.cell (j := 2) rfl; have r3 := C7.out.res.cell (j := 3) rfl
    have f0 := C7.out.res.free 0; have f1 := C7.out.res.free 1; have f2 := C7.out.res.free 2; have f3 := C7.out.res.free 3
    go_wp2_with fail
    refine abortC_ret (o := (⟨[], [], s.last, s.out⟩, 0)) (R := R) ?_ ?_ ?_ C7.out.fin.1 (C7.out.fin.2.skm HM.out) C7.out.fin.2.below <;> rfl
end Sk
end Go.Proofs.Ytmkbdlailffjeaa
