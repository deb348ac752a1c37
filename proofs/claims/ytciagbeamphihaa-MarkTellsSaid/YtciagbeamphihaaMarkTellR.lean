/- Tell of the reference. -/
import Derived.Test.YtciagbeamphihaaMarkSetR
import Derived.Deep.RegionWith
namespace Go.Proofs.Ytciagbeamphihaa
open Go.RowKit
set_option linter.unusedVariables false
set_option maxRecDepth 8000
namespace Wm
theorem tell_ret {w wF : World} {R : Nat} {o : Mk × Int × Bool} {A : Option Addr} {c : Nat} {B : Option Addr} {d : Nat} {act : Act} (ht : act.tmps.getD 2 undef = .pointer (some ⟨R, 0, none⟩)) (hs : act.tmps.getD 3 undef = .int .i64 o.2.1) (hb : act.tmps.getD 4 undef = .bool o.2.2) (hd : act.defers = [])
    (hL : Lies R (mkC (.slice A o.1.ins.length c) (.slice B o.1.holds.length d) o.1.out) 25 wF) (hH : Has o.1 A c B d wF) (hB : Below w.heap.size w wF) :
    bodyPost Try.prog Try.f17 (GivesT o w) .ret act wF := by
  have c0 := hL.cell (j := 0) rfl
  have c1 := hL.cell (j := 1) rfl
  have c2 := hL.cell (j := 2) rfl
  refine bodyPost_ret (v := .tuple #[mv o.1 A c B d, .int .i64 o.2.1, .bool o.2.2]) ?_ hd ⟨A, c, B, d, rfl, hH, hB⟩
  have ht2 : act.tmps[2]?.getD undef = .pointer (some ⟨R, 0, none⟩) := by simpa using ht
  have hs2 : act.tmps[3]?.getD undef = .int .i64 o.2.1 := by simpa using hs
  have hb2 : act.tmps[4]?.getD undef = .bool o.2.2 := by simpa using hb
  simp [results, Try.results17, go_sem, ht2, hs2, hb2, c0, c1, c2]
set_option maxRecDepth 100000 in
set_option maxHeartbeats 800000 in
theorem rfTellM (m : Mk) (A : Option Addr) (c : Nat) (B : Option Addr) (d : Nat) (w : World) (h : Has m A c B d w) :
    Calls Try.prog 17 #[mv m A c B d] w (GivesT (tell m) w) := by
  have HR := Lib.hid (fun w' (hb : Below w.heap.size w w') => rfRightM m A c B d w' (h.next hb))
  have HA := Lib.hid (fun w' (hb : Below w.heap.size w w') => rfAllows m A c B d w' (h.next hb))
  have S0 := Lib.hid (SeAt.start w m A c B d)
  have H := Lib.hid h
  obtain ⟨al, hal⟩ : ∃ al, al = allows m := ⟨_, rfl⟩
  rw [← hal] at HA
  have hway : (right m = false ∧ tell m = (none_, 0, false)) ∨ (right m = true ∧ al ≤ m.out ∧ tell m = (m, m.out, false)) ∨ (right m = true ∧ ¬ al ≤ m.out ∧ tell m = (⟨m.ins, m.holds, al⟩, al, true)) := by
    unfold tell
    rw [← hal]
    cases hr : right m
    · left; exact ⟨rfl, rfl⟩
    · right
      by_cases hle : al ≤ m.out
      · left; exact ⟨rfl, hle, by rw [if_pos rfl, if_pos hle]⟩
      · right; exact ⟨rfl, hle, by rw [if_pos rfl, if_neg hle]⟩
  clear h hal
  rcases hway with ⟨h0, e⟩ | ⟨h0, a1, e⟩ | ⟨h0, a1, e⟩
  all_goals (
    have HO := Lib.hid e
    rw [h0] at HR
    clear h0 e
    go_enter Try.func17, Try.ntmps17
    go_wp2_with fail
    refine (HR.out _ S0.out.below).mono ?_
    rintro e w1 ⟨rfl, hb1⟩
    have S1 := Lib.hid (S0.out.next hb1)
    obtain ⟨⟨r0, r1, r2⟩, f0, f1, f2⟩ := S1.out.frees
    obtain ⟨z0, z1, z2⟩ := S1.out.ma.cells
    clear hb1
    go_wp2_with fail)
  · obtain ⟨d1, d2⟩ := S1.out.none
    rw [HO.out]
    exact tell_ret (o := (none_, 0, false)) (A := none) (c := 0) (B := none) (d := 0) rfl rfl rfl rfl d1 (Has.zero _) d2
  all_goals (
    refine (HA.out _ S1.out.below).mono ?_
    rintro e w2 ⟨rfl, hb2⟩
    have S2 := Lib.hid (S1.out.next hb2)
    clear hb2 r0 r1 r2 f0 f1 f2 z0 z1 z2
    obtain ⟨⟨r0, r1, r2⟩, f0, f1, f2⟩ := S2.out.frees
    obtain ⟨z0, z1, z2⟩ := S2.out.ma.cells
    have q0 : w.heap.size < w2.heap.size := lt_of_block S2.out.ma
    go_wp2_with fail)
  · go_region
    all_goals (
      go_wp2_with fail
      rw [HO.out]
      have hbF := below_drewOf (below_setM3 S2.out.below (R := w.heap.size + 1) (by omega) (.slice A m.ins.length c) (.slice B m.holds.length d) m.out)
      exact tell_ret (o := (m, m.out, false)) rfl rfl rfl rfl (lies_setM3 S2.out.res (.slice A m.ins.length c) (.slice B m.holds.length d) m.out) (H.out.next hbF) hbF)
  · rw [HO.out]
    have hbF := below_setM3 S2.out.below (R := w.heap.size + 1) (by omega) (.slice A m.ins.length c) (.slice B m.holds.length d) al
    exact tell_ret (o := (⟨m.ins, m.holds, al⟩, al, true)) rfl rfl rfl rfl (lies_setM3 S2.out.res (.slice A m.ins.length c) (.slice B m.holds.length d) al) ⟨H.out.ri.below hbF, H.out.rh.below hbF, H.out.l1, H.out.l2, H.out.l3, H.out.l4⟩ hbF
end Wm
end Go.Proofs.Ytciagbeamphihaa
