/- The code's Set. -/
import Derived.Test.YtciagbeamphihaaMarkIdle
import Derived.Lib.MinMax
namespace Go.Proofs.Ytciagbeamphihaa
open Go.RowKit
set_option linter.unusedVariables false
set_option maxRecDepth 8000
namespace Wm
/-- Ahead of the store: marks of the call's own, the input that is read. -/
structure StIn (w0 : World) (m : Mk) (g c : Nat) (B : Option Addr) (d : Nat) (n : Nat) (x : In) (w : World) : Prop where
  cp : CpAt w0 m (some ⟨g, 0, none⟩) c B d w
  y0 : w.cell? ⟨g, n * 2, none⟩ = some (.int .i64 x.mark)
theorem StIn.next {w0 : World} {m : Mk} {g c : Nat} {B : Option Addr} {d : Nat} {n : Nat} {x : In} {w w' : World} (h : StIn w0 m g c B d n x w) (hb : Below w.heap.size w w') : StIn w0 m g c B d n x w' := ⟨h.cp.next hb, (hb.cell (lt_of_cell h.y0)).trans h.y0⟩
set_option maxRecDepth 100000 in
set_option maxHeartbeats 2000000 in
theorem ckSet (m : Mk) (A : Option Addr) (c : Nat) (B : Option Addr) (d : Nat) (i t : Int) (w : World) (h : Has m A c B d w) : Calls Try.prog 18 #[mv m A c B d, .int .i64 i, .int .i64 t] w (GivesM (setM m i t) w) := by
  have HI := Lib.hid (fun w' (hb : Below w.heap.size w w') => ckHas m A c B d i w' (h.next hb))
  have S0 := Lib.hid (SeAt.start w m A c B d)
  cases ht : there m i with
  | false =>
    have HO := Lib.hid (show setM m i t = (none_, 1) from by unfold setM; rw [ht]; rfl)
    rw [ht] at HI
    clear h ht
    go_enter Try.func18, Try.ntmps18
    go_wp2_with fail
    refine (HI.out _ S0.out.below).mono ?_
    rintro e w1 ⟨rfl, hb1⟩
    have S1 := Lib.hid (S0.out.next hb1)
    obtain ⟨⟨r0, r1, r2⟩, f0, f1, f2⟩ := S1.out.frees
    obtain ⟨z0, z1, z2⟩ := S1.out.ma.cells
    clear hb1
    go_wp2_with fail
    obtain ⟨d1, d2⟩ := S1.out.none
    rw [HO.out]
    exact setC_ret (o := (none_, 1)) (A := none) (c := 0) (B := none) (d := 0) rfl rfl rfl d1 (Has.zero _) d2
  | true =>
    obtain ⟨hr, hi1, hi2⟩ := (there_iff m i).1 ht
    obtain ⟨⟨hl0, hl8, hl32⟩, _⟩ := (right_iff m).1 hr
    have HC := Lib.hid (fun w' (hb : Below w.heap.size w w') => ckCopied m A c B d w' (h.next hb) (by omega) (by omega))
    obtain ⟨n, rfl⟩ : ∃ n : Nat, i = n := ⟨i.toNat, by omega⟩
    have hn : n < m.ins.length := by omega
    obtain ⟨x, hx⟩ : ∃ x, m.ins[n]? = some x := ⟨_, List.getElem?_eq_getElem hn⟩
    have hin : inAt m n = x := by unfold inAt; rw [List.getD_eq_getElem?_getD, Int.toNat_natCast, hx]; rfl
    have HCL := Lib.hid (fun w' => ckClamp t w')
    obtain ⟨ct, hct⟩ : ∃ ct, ct = clamp t := ⟨_, rfl⟩
    have HO := Lib.hid (show setM m n t = (⟨m.ins.set n ⟨max x.mark ct, false⟩, m.holds, m.out⟩, 0) from by
      unfold setM
      rw [if_pos ht, hin, Int.toNat_natCast, ← hct]
      have e : (if x.mark < ct then ct else x.mark) = max x.mark ct := by split <;> omega
      rw [e])
    rw [← hct] at HCL
    have HX := Lib.hid hx
    have HN := Lib.hid hn
    rw [ht] at HI
    clear h ht hr hx hin hi1 hct
    go_enter Try.func18, Try.ntmps18
    go_wp2_with fail
    refine (HI.out _ S0.out.below).mono ?_
    rintro e w1 ⟨rfl, hb1⟩
    have S1 := Lib.hid (S0.out.next hb1)
    obtain ⟨z0, z1, z2⟩ := S1.out.ma.cells
    clear hb1
    go_wp2_with fail
    refine (HC.out _ S1.out.below).mono ?_
    rintro e w2 ⟨A2, c2, B2, d2, rfl, fr2, hb2⟩
    have S2 := Lib.hid (S1.out.next hb2)
    have C3 := Lib.hid (CpAt.start S1.out fr2 hb2)
    obtain ⟨g, rfl, hg, _⟩ := own_at fr2.i (by omega)
    clear z0 z1 z2 hb2 fr2 hg
    obtain ⟨z0, z1, z2⟩ := S2.out.ma.cells
    have f0 := Lies.free S2.out.ma 0
    have f1 := Lies.free S2.out.ma 1
    have f2 := Lies.free S2.out.ma 2
    go_wp2_with fail
    obtain ⟨w3, hw3⟩ : ∃ w3, w3 = setM3 w2 w.heap.size (.slice (some ⟨g, 0, none⟩) m.ins.length c2) (.slice B2 m.holds.length d2) m.out := ⟨_, rfl⟩
    rw [← hw3] at C3
    unfold setM3 at hw3
    rw [← hw3]
    clear hw3 z0 z1 z2 f0 f1 f2
    have K3 := Lib.hid ((show StIn w m g c2 B2 d2 n x w3 from ⟨C3.out, (own_cellI2 C3.out.fr.i HX.out).1⟩).next (below_drewOf (Below.refl _ _)))
    refine wide_tail 14 (StIn w m g c2 B2 d2 n x) (by kernel_rfl) (by kernel_rfl) K3.out ?_
    simp only [List.take_succ_cons, List.take_zero, List.drop_succ_cons, List.drop_zero]
    repeat (first
    | go_big_quiet_skip
    | (go_big_quiet_want
       apply wide_op
       · (intro w5 h5; obtain ⟨z0, z1, z2⟩ := h5.cp.ma.cells; have y0 := h5.y0; go_simp; first | done | with_reducible rfl | (refine (HCL.out _).mono ?_; rintro e w6 ⟨rfl, rfl⟩; exact ⟨rfl, h5⟩))
       (try simp only [Act.put, List.setIfInBounds_toArray, List.set_cons_zero, List.set_cons_succ])
       go_big_quiet_on))
    refine wpQuiet_nil ?_
    intro w4 h4
    have C4 := Lib.hid h4.cp
    clear h4
    obtain ⟨z0, z1, z2⟩ := C4.out.ma.cells
    obtain ⟨y0, y1, y2, y3⟩ := own_cellI2 C4.out.fr.i HX.out
    have hq : w.heap.size < w4.heap.size := lt_of_block C4.out.ma
    have hgK : w.heap.size + 2 ≤ g := by
      obtain ⟨g', e, h1, h2⟩ := own_at C4.out.fr.i (by omega)
      cases e; omega
    have hne : ¬ w.heap.size = g := by omega
    have hne2 : ¬ w.heap.size + 1 = g := by omega
    have HK := Lib.hid hgK
    have r0 := C4.out.res.cell (j := 0) rfl
    have r1 := C4.out.res.cell (j := 1) rfl
    have r2 := C4.out.res.cell (j := 2) rfl
    have f0 := C4.out.res.free 0
    have f1 := C4.out.res.free 1
    have f2 := C4.out.res.free 2
    obtain ⟨y, hy⟩ : ∃ y, y = max x.mark ct := ⟨_, rfl⟩
    rw [← hy] at HO ⊢
    clear hy hgK
    go_wp2_with fail
    obtain ⟨us, hus⟩ : ∃ us, us = m.ins.set n (⟨y, false⟩ : In) := ⟨_, rfl⟩
    have hL : m.ins.length = us.length := by rw [hus, List.length_set]
    have hA := own_setI2 C4.out.fr.i (⟨y, false⟩ : In) HN.out
    rw [← hus] at hA
    have hO : setM m n t = (⟨us, m.holds, m.out⟩, 0) := by rw [HO.out, hus]
    rw [hO]
    rw [hL] at hA ⊢
    obtain ⟨t1, t2, t3⟩ := fin_own (m := ⟨us, m.holds, m.out⟩) ((C4.out.res.other hne2 (n * 2) (.int .i64 y)).other hne2 (n * 2 + 1) (.bool false)) hA
      (own_set (own_set C4.out.fr.h ⟨g, n * 2, none⟩ (fun e => C4.out.fr.apart g rfl e) (.int .i64 y)) ⟨g, n * 2 + 1, none⟩ (fun e => C4.out.fr.apart g rfl e) (.bool false))
      ((C4.out.below.setCell (p := ⟨g, n * 2, none⟩) (by have := HK.out; show w.heap.size ≤ g; omega) (.int .i64 y)).setCell (p := ⟨g, n * 2 + 1, none⟩) (by have := HK.out; show w.heap.size ≤ g; omega) (.bool false))
    exact setC_ret (o := (⟨us, m.holds, m.out⟩, 0)) rfl rfl rfl t1 t2 t3
end Wm
end Go.Proofs.Ytciagbeamphihaa
