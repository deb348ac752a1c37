/- The code's Idle. -/
import Derived.Test.YtciagbeamphihaaMarkCp
namespace Go.Proofs.Ytciagbeamphihaa
open Go.RowKit
set_option linter.unusedVariables false
set_option maxRecDepth 8000
namespace Wm
theorem set_same {α : Type} {l : List α} {i : Nat} {v : α} (h : l[i]? = some v) : l.set i v = l := by
  obtain ⟨hi, he⟩ := List.getElem?_eq_some_iff.1 h
  rw [← he, List.set_getElem_self]
set_option maxRecDepth 100000 in
set_option maxHeartbeats 1000000 in
theorem ckIdle (m : Mk) (A : Option Addr) (c : Nat) (B : Option Addr) (d : Nat) (i : Int) (w : World) (h : Has m A c B d w) : Calls Try.prog 19 #[mv m A c B d, .int .i64 i] w (GivesM (idleM m i) w) := by
  have HI := Lib.hid (fun w' (hb : Below w.heap.size w w') => ckHas m A c B d i w' (h.next hb))
  have S0 := Lib.hid (SeAt.start w m A c B d)
  cases ht : there m i with
  | false =>
    have HO := Lib.hid (show idleM m i = (none_, 1) from by unfold idleM; rw [ht]; rfl)
    rw [ht] at HI
    clear h ht
    go_enter Try.func19, Try.ntmps19
    go_wp2_with fail
    refine (HI.out _ S0.out.below).mono ?_
    rintro e w1 ⟨rfl, hb1⟩
    have S1 := Lib.hid (S0.out.next hb1)
    obtain ⟨⟨r0, r1, r2⟩, f0, f1, f2⟩ := S1.out.frees
    obtain ⟨z0, z1, z2⟩ := S1.out.ma.cells
    clear hb1
    go_wp2_with fail
    obtain ⟨d1, d2⟩ := S1.out.none
    rw [HO.out]
    exact idleC_ret (o := (none_, 1)) (A := none) (c := 0) (B := none) (d := 0) rfl rfl rfl d1 (Has.zero _) d2
  | true =>
    obtain ⟨hr, hi1, hi2⟩ := (there_iff m i).1 ht
    obtain ⟨⟨hl0, hl8, hl32⟩, _⟩ := (right_iff m).1 hr
    have HC := Lib.hid (fun w' (hb : Below w.heap.size w w') => ckCopied m A c B d w' (h.next hb) (by omega) (by omega))
    obtain ⟨n, rfl⟩ : ∃ n : Nat, i = n := ⟨i.toNat, by omega⟩
    have hn : n < m.ins.length := by omega
    obtain ⟨x, hx⟩ : ∃ x, m.ins[n]? = some x := ⟨_, List.getElem?_eq_getElem hn⟩
    have hin : inAt m n = x := by unfold inAt; rw [List.getD_eq_getElem?_getD, Int.toNat_natCast, hx]; rfl
    have HO := Lib.hid (show idleM m n = (⟨m.ins.set n ⟨x.mark, true⟩, m.holds, m.out⟩, 0) from by unfold idleM; rw [if_pos ht, hin, Int.toNat_natCast])
    have HX := Lib.hid hx
    have HN := Lib.hid hn
    rw [ht] at HI
    clear h ht hr hx hin hi1
    go_enter Try.func19, Try.ntmps19
    go_wp2_with fail
    refine (HI.out _ S0.out.below).mono ?_
    rintro e w1 ⟨rfl, hb1⟩
    have S1 := Lib.hid (S0.out.next hb1)
    obtain ⟨z0, z1, z2⟩ := S1.out.ma.cells
    clear hb1
    go_wp2_with fail
    refine (HC.out _ S1.out.below).mono ?_
    rintro e w2 ⟨A2, c2, B2, d2, rfl, fr2, hb2⟩
    have S2 := Lib.hid (S1.out.next hb2)
    have C3 := Lib.hid (CpAt.start S1.out fr2 hb2)
    obtain ⟨g, rfl, hg, _⟩ := own_at fr2.i (by omega)
    clear z0 z1 z2 hb2 fr2 hg
    obtain ⟨z0, z1, z2⟩ := S2.out.ma.cells
    have f0 := Lies.free S2.out.ma 0
    have f1 := Lies.free S2.out.ma 1
    have f2 := Lies.free S2.out.ma 2
    go_wp2_with (with_reducible refine hold_at 13 rfl ?_)
    refine hold_out ?_
    obtain ⟨w3, hw3⟩ : ∃ w3, w3 = setM3 w2 w.heap.size (.slice (some ⟨g, 0, none⟩) m.ins.length c2) (.slice B2 m.holds.length d2) m.out := ⟨_, rfl⟩
    rw [← hw3] at C3
    unfold setM3 at hw3
    rw [← hw3]
    clear hw3 z0 z1 z2 f0 f1 f2
    obtain ⟨z0, z1, z2⟩ := C3.out.ma.cells
    obtain ⟨y0, y1, y2, y3⟩ := own_cellI2 C3.out.fr.i HX.out
    have hq : w.heap.size < w3.heap.size := lt_of_block C3.out.ma
    have hne : ¬ w.heap.size = g := by
      obtain ⟨g', e, h1, h2⟩ := own_at C3.out.fr.i (by omega)
      cases e; omega
    have hne2 : ¬ w.heap.size + 1 = g := by
      obtain ⟨g', e, h1, h2⟩ := own_at C3.out.fr.i (by omega)
      cases e; omega
    have r0 := C3.out.res.cell (j := 0) rfl
    have r1 := C3.out.res.cell (j := 1) rfl
    have r2 := C3.out.res.cell (j := 2) rfl
    have f0 := C3.out.res.free 0
    have f1 := C3.out.res.free 1
    have f2 := C3.out.res.free 2
    go_wp2_with fail
    obtain ⟨us, hus⟩ : ∃ us, us = m.ins.set n (⟨x.mark, true⟩ : In) := ⟨_, rfl⟩
    have hL : m.ins.length = us.length := by rw [hus, List.length_set]
    have hA : (w3.setCell ⟨g, n * 2 + 1, none⟩ (.bool true)).ownsRow (w.heap.size + 2) 42 2 (.slice (some ⟨g, 0, none⟩) m.ins.length c2) m.ins.length (ic us) := by
      have h2 := (C3.out.fr.i.stored (n * 2 + 1) (.bool true)).1
      have e : (ic m.ins).set (n * 2 + 1) (.bool true) = ic us := by
        rw [hus, ← ic_set (x := ⟨x.mark, true⟩) HN.out]
        have e1 : (ic m.ins).set (n * 2) (.int .i64 x.mark) = ic m.ins := set_same ((fl_get iL (fun _ => rfl) (n := 2) (j := 0) HX.out (by omega)).trans rfl)
        show _ = ((ic m.ins).set (n * 2) (.int .i64 x.mark)).set (n * 2 + 1) (.bool true)
        rw [e1]
      rwa [e] at h2
    have hO : idleM m n = (⟨us, m.holds, m.out⟩, 0) := by rw [HO.out, hus]
    rw [hO]
    have hg : w.heap.size ≤ g := by
      obtain ⟨g', e, h1, h2⟩ := own_at C3.out.fr.i (by omega)
      cases e; omega
    rw [hL] at hA ⊢
    obtain ⟨t1, t2, t3⟩ := fin_own (m := ⟨us, m.holds, m.out⟩) (C3.out.res.other hne2 (n * 2 + 1) (.bool true)) hA
      (own_set C3.out.fr.h ⟨g, n * 2 + 1, none⟩ (fun e => C3.out.fr.apart g rfl e) (.bool true)) (C3.out.below.setCell (p := ⟨g, n * 2 + 1, none⟩) hg (.bool true))
    exact idleC_ret (o := (⟨us, m.holds, m.out⟩, 0)) rfl rfl rfl t1 t2 t3
end Wm
end Go.Proofs.Ytciagbeamphihaa
