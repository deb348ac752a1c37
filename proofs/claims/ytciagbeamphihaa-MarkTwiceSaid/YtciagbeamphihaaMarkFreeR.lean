/- Free of the reference. -/
import Derived.Test.YtciagbeamphihaaMarkHoldsR
namespace Go.Proofs.Ytciagbeamphihaa
open Go.RowKit
set_option linter.unusedVariables false
set_option maxRecDepth 8000
namespace Wm
theorem free_ret {w wF : World} {R : Nat} {o : Mk × Nat} {A : Option Addr} {c : Nat} {B : Option Addr} {d : Nat} {act : Act} (ht : act.tmps.getD 4 undef = .pointer (some ⟨R, 0, none⟩)) (hs : act.tmps.getD 5 undef = .int .i64 (o.2 : Nat)) (hd : act.defers = [])
    (hL : Lies R (mkC (.slice A o.1.ins.length c) (.slice B o.1.holds.length d) o.1.out) 25 wF) (hH : Has o.1 A c B d wF) (hB : Below w.heap.size w wF) :
    bodyPost Try.prog Try.f29 (GivesM o w) .ret act wF := by
  have c0 := hL.cell (j := 0) rfl
  have c1 := hL.cell (j := 1) rfl
  have c2 := hL.cell (j := 2) rfl
  refine bodyPost_ret (v := .tuple #[mv o.1 A c B d, .int .i64 (o.2 : Nat)]) ?_ hd ⟨A, c, B, d, rfl, hH, hB⟩
  have ht2 : act.tmps[4]?.getD undef = .pointer (some ⟨R, 0, none⟩) := by simpa using ht
  have hs2 : act.tmps[5]?.getD undef = .int .i64 (o.2 : Nat) := by simpa using hs
  simp [results, Try.results29, go_sem, ht2, hs2, c0, c1, c2]
set_option maxRecDepth 100000 in
set_option maxHeartbeats 800000 in
theorem rfFreeM (m : Mk) (A : Option Addr) (c : Nat) (B : Option Addr) (d : Nat) (no : Int) (w : World) (h : Has m A c B d w) (hl : m.holds.length ≤ 100000) :
    Calls Try.prog 29 #[mv m A c B d, .int .i64 no] w (GivesM (freeM m no) w) := by
  have HR := Lib.hid (fun w' (hb : Below w.heap.size w w') => rfRightM m A c B d w' (h.next hb))
  have HW := Lib.hid (fun w' (hb : Below w.heap.size w w') => rfWithout m.holds B d no w' (h.rh.below hb) hl)
  have S0 := Lib.hid (SeAt.start w m A c B d)
  have H := Lib.hid h
  obtain ⟨us, hus⟩ : ∃ us, us = without m.holds no := ⟨_, rfl⟩
  obtain ⟨is, his⟩ : ∃ is, is = has m.holds no := ⟨_, rfl⟩
  rw [← hus, ← his] at HW
  have hway : (right m = false ∧ freeM m no = (none_, 1)) ∨ (right m = true ∧ is = false ∧ freeM m no = (none_, 1)) ∨ (right m = true ∧ is = true ∧ freeM m no = (⟨m.ins, us, m.out⟩, 0)) := by
    unfold freeM
    rw [← hus, ← his]
    cases hr : right m
    · left; exact ⟨rfl, rfl⟩
    · right
      cases is
      · left; exact ⟨rfl, rfl, rfl⟩
      · right; exact ⟨rfl, rfl, rfl⟩
  clear h hus his hl
  rcases hway with ⟨h0, e⟩ | ⟨h0, rfl, e⟩ | ⟨h0, rfl, e⟩
  all_goals (
    have HO := Lib.hid e
    rw [h0] at HR
    clear h0 e
    go_enter Try.func29, Try.ntmps29
    go_wp2_with fail
    refine (HW.out _ S0.out.below).mono ?_
    rintro e w1 ⟨B1, d1, rfl, R1, l1, m1, n1, hb1⟩
    have S1 := Lib.hid (S0.out.next hb1)
    have R1 := Lib.hid R1
    have L1 := Lib.hid (And.intro l1 m1)
    have N1 := Lib.hid (show ∀ a, B1 = some a → a.block ≠ w.heap.size + 1 from fun a ha => by have h1 := n1 a ha; have h2 := lt_of_block S0.out.res; omega)
    obtain ⟨z0, z1, z2⟩ := S1.out.ma.cells
    clear hb1 l1 m1 n1
    go_wp2_with fail
    refine (HR.out _ S1.out.below).mono ?_
    rintro e w2 ⟨rfl, hb2⟩
    have S2 := Lib.hid (S1.out.next hb2)
    have R2 := Lib.hid (R1.out.below hb2)
    clear hb2 z0 z1 z2
    obtain ⟨⟨r0, r1, r2⟩, f0, f1, f2⟩ := S2.out.frees
    obtain ⟨z0, z1, z2⟩ := S2.out.ma.cells
    go_wp2_with fail)
  · obtain ⟨d1, d2⟩ := S2.out.none
    rw [HO.out]
    exact free_ret (o := (none_, 1)) (A := none) (c := 0) (B := none) (d := 0) rfl rfl rfl d1 (Has.zero _) d2
  · obtain ⟨d1, d2⟩ := S2.out.none
    rw [HO.out]
    exact free_ret (o := (none_, 1)) (A := none) (c := 0) (B := none) (d := 0) rfl rfl rfl d1 (Has.zero _) d2
  · rw [HO.out]
    have hbF := below_setM3 S2.out.below (R := w.heap.size + 1) (by omega) (.slice A m.ins.length c) (.slice B1 us.length d1) m.out
    exact free_ret (o := (⟨m.ins, us, m.out⟩, 0)) rfl rfl rfl (lies_setM3 S2.out.res (.slice A m.ins.length c) (.slice B1 us.length d1) m.out) ⟨H.out.ri.below hbF, row_setM3 R2.out N1.out (.slice A m.ins.length c) (.slice B1 us.length d1) m.out, H.out.l1, H.out.l2, L1.out.1, L1.out.2⟩ hbF
end Wm
end Go.Proofs.Ytciagbeamphihaa
