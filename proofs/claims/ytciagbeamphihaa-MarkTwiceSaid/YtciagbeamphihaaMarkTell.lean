/- The code's Tell. -/
import Derived.Test.YtciagbeamphihaaMarkIdle
import Derived.Test.YtciagbeamphihaaMarkPerm
namespace Go.Proofs.Ytciagbeamphihaa
open Go.RowKit
set_option linter.unusedVariables false
set_option maxRecDepth 8000
namespace Wm
set_option maxRecDepth 100000 in
set_option maxHeartbeats 2000000 in
theorem ckTell (m : Mk) (A : Option Addr) (c : Nat) (B : Option Addr) (d : Nat) (w : World) (h : Has m A c B d w) : Calls Try.prog 16 #[mv m A c B d] w (GivesT (tell m) w) := by
  have HR := Lib.hid (fun w' (hb : Below w.heap.size w w') => ckRight m A c B d w' (h.next hb))
  have S0 := Lib.hid (SeAt.start w m A c B d)
  cases hr : right m with
  | false =>
    have HO := Lib.hid (show tell m = (none_, 0, false) from by unfold tell; rw [hr]; rfl)
    rw [hr] at HR
    clear h hr
    go_enter Try.func16, Try.ntmps16
    go_wp2_with fail
    refine (HR.out _ S0.out.below).mono ?_
    rintro e w1 ⟨rfl, hb1⟩
    have S1 := Lib.hid (S0.out.next hb1)
    obtain ⟨⟨r0, r1, r2⟩, f0, f1, f2⟩ := S1.out.frees
    obtain ⟨z0, z1, z2⟩ := S1.out.ma.cells
    clear hb1
    go_wp2_with fail
    obtain ⟨d1, d2⟩ := S1.out.none
    rw [HO.out]
    exact tellC_ret (o := (none_, 0, false)) (A := none) (c := 0) (B := none) (d := 0) rfl rfl rfl rfl d1 (Has.zero _) d2
  | true =>
    obtain ⟨⟨hl0, hl8, hl32⟩, _⟩ := (right_iff m).1 hr
    have HC := Lib.hid (fun w' (hb : Below w.heap.size w w') => ckCopied m A c B d w' (h.next hb) (by omega) (by omega))
    have HP := Lib.hid (fun (A : Option Addr) (c : Nat) (B : Option Addr) (d : Nat) (w : World) (h : Has m A c B d w) => ckPerm m A c B d w h)
    rw [perm_right hr] at HP
    obtain ⟨al, hal⟩ : ∃ al, al = allows m := ⟨_, rfl⟩
    have HO := Lib.hid (show tell m = (⟨m.ins, m.holds, max m.out al⟩, max m.out al, decide (m.out < max m.out al)) from by
      unfold tell
      rw [if_pos hr, ← hal]
      by_cases hle : al ≤ m.out
      · rw [if_pos hle, show max m.out al = m.out by omega, decide_eq_false (by omega)]
      · rw [if_neg hle, show max m.out al = al by omega, decide_eq_true (by omega)])
    rw [← hal] at HP
    rw [hr] at HR
    clear h hr hal
    go_enter Try.func16, Try.ntmps16
    go_wp2_with fail
    refine (HR.out _ S0.out.below).mono ?_
    rintro e w1 ⟨rfl, hb1⟩
    have S1 := Lib.hid (S0.out.next hb1)
    obtain ⟨z0, z1, z2⟩ := S1.out.ma.cells
    clear hb1
    go_wp2_with fail
    refine (HC.out _ S1.out.below).mono ?_
    rintro e w2 ⟨A2, c2, B2, d2, rfl, fr2, hb2⟩
    have S2 := Lib.hid (S1.out.next hb2)
    have C3 := Lib.hid (CpAt.start S1.out fr2 hb2)
    clear z0 z1 z2 hb2 fr2
    obtain ⟨z0, z1, z2⟩ := S2.out.ma.cells
    have f0 := Lies.free S2.out.ma 0
    have f1 := Lies.free S2.out.ma 1
    have f2 := Lies.free S2.out.ma 2
    go_wp2_with (with_reducible refine hold_at 15 rfl ?_)
    refine hold_out ?_
    obtain ⟨w3, hw3⟩ : ∃ w3, w3 = setM3 w2 w.heap.size (.slice A2 m.ins.length c2) (.slice B2 m.holds.length d2) m.out := ⟨_, rfl⟩
    rw [← hw3] at C3
    unfold setM3 at hw3
    rw [← hw3]
    clear hw3 z0 z1 z2 f0 f1 f2
    obtain ⟨z0, z1, z2⟩ := C3.out.ma.cells
    go_wp2_with fail
    refine (HP.out _ _ _ _ _ (Has.of_own C3.out.fr.i C3.out.fr.h)).mono ?_
    rintro e w4 ⟨rfl, hb4⟩
    have C4 := Lib.hid (C3.out.next hb4)
    clear z0 z1 z2 hb4
    obtain ⟨z0, z1, z2⟩ := C4.out.ma.cells
    have hq : w.heap.size < w4.heap.size := lt_of_block C4.out.ma
    have r0 := C4.out.res.cell (j := 0) rfl
    have r1 := C4.out.res.cell (j := 1) rfl
    have r2 := C4.out.res.cell (j := 2) rfl
    have f0 := C4.out.res.free 0
    have f1 := C4.out.res.free 1
    have f2 := C4.out.res.free 2
    have e0 := Lies.free C4.out.ma 2
    go_wp2_with fail
    all_goals (
      go_region
      all_goals (
        go_wp2_with fail
        rw [HO.out]
        have b5 := below_drewOf (below_next C4.out.below (Below.refl w4.heap.size w4))
        have hne : w.heap.size + 1 ≠ w.heap.size := by omega
        have hi := own_set C4.out.fr.i ⟨w.heap.size, 2, none⟩ (fun e => by have := (C4.out.fr.i.lt _ e).1; simp only at this; omega) (.int .i64 (max m.out al))
        have hh := own_set C4.out.fr.h ⟨w.heap.size, 2, none⟩ (fun e => by have := (C4.out.fr.h.lt _ e).1; simp only at this; omega) (.int .i64 (max m.out al))
        obtain ⟨t1, t2, t3⟩ := fin_own (wE := (w4.setCell ⟨w.heap.size, 2, none⟩ (.int .i64 (max m.out al))).drew) (m := ⟨m.ins, m.holds, max m.out al⟩) (C4.out.res.other hne 2 (.int .i64 (max m.out al))) hi.drew hh.drew
          (below_drewOf (C4.out.below.setCell (p := ⟨w.heap.size, 2, none⟩) (Nat.le_refl _) (.int .i64 (max m.out al))))
        exact tellC_ret (o := (⟨m.ins, m.holds, max m.out al⟩, max m.out al, decide (m.out < max m.out al))) rfl rfl rfl rfl t1 t2 t3))
end Wm
end Go.Proofs.Ytciagbeamphihaa
