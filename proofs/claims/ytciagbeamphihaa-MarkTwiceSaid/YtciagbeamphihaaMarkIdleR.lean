/- Idle of the reference. -/
import Derived.Test.YtciagbeamphihaaMarkSetR
namespace Go.Proofs.Ytciagbeamphihaa
open Go.RowKit
set_option linter.unusedVariables false
set_option maxRecDepth 8000
namespace Wm
theorem idle_ret {w wF : World} {R : Nat} {o : Mk × Nat} {A : Option Addr} {c : Nat} {B : Option Addr} {d : Nat} {act : Act} (ht : act.tmps.getD 4 undef = .pointer (some ⟨R, 0, none⟩)) (hs : act.tmps.getD 5 undef = .int .i64 (o.2 : Nat)) (hd : act.defers = [])
    (hL : Lies R (mkC (.slice A o.1.ins.length c) (.slice B o.1.holds.length d) o.1.out) 25 wF) (hH : Has o.1 A c B d wF) (hB : Below w.heap.size w wF) :
    bodyPost Try.prog Try.f27 (GivesM o w) .ret act wF := by
  have c0 := hL.cell (j := 0) rfl
  have c1 := hL.cell (j := 1) rfl
  have c2 := hL.cell (j := 2) rfl
  refine bodyPost_ret (v := .tuple #[mv o.1 A c B d, .int .i64 (o.2 : Nat)]) ?_ hd ⟨A, c, B, d, rfl, hH, hB⟩
  have ht2 : act.tmps[4]?.getD undef = .pointer (some ⟨R, 0, none⟩) := by simpa using ht
  have hs2 : act.tmps[5]?.getD undef = .int .i64 (o.2 : Nat) := by simpa using hs
  simp [results, Try.results27, go_sem, ht2, hs2, c0, c1, c2]
/-- The call's blocks and an input's cell. -/
structure IdAt (w0 : World) (m : Mk) (A : Option Addr) (c : Nat) (B : Option Addr) (d : Nat) (b o : Nat) (x : Int) (w : World) : Prop where
  se : SeAt w0 m A c B d w
  ce : w.cell? ⟨b, o, none⟩ = some (.int .i64 x)
theorem IdAt.next {w0 : World} {m : Mk} {A : Option Addr} {c : Nat} {B : Option Addr} {d b o : Nat} {x : Int} {w w' : World} (h : IdAt w0 m A c B d b o x w) (hb : Below w.heap.size w w') : IdAt w0 m A c B d b o x w' :=
  ⟨h.se.next hb, (hb.cell (lt_of_cell h.ce)).trans h.ce⟩
set_option maxRecDepth 100000 in
set_option maxHeartbeats 800000 in
theorem rfIdleM (m : Mk) (A : Option Addr) (c : Nat) (B : Option Addr) (d : Nat) (i : Int) (w : World) (h : Has m A c B d w) :
    Calls Try.prog 27 #[mv m A c B d, .int .i64 i] w (GivesM (idleM m i) w) := by
  have HR := Lib.hid (fun w' (hb : Below w.heap.size w w') => rfRightM m A c B d w' (h.next hb))
  have S0 := Lib.hid (SeAt.start w m A c B d)
  have hway : (right m = false) ∨ (right m = true ∧ i < 0) ∨ (right m = true ∧ ¬ i < 0 ∧ (m.ins.length : Int) ≤ i) ∨ (right m = true ∧ ¬ i < 0 ∧ ¬ (m.ins.length : Int) ≤ i) := by
    cases right m <;> simp <;> omega
  rcases hway with h0 | ⟨h0, a1⟩ | ⟨h0, a1, a2⟩ | ⟨h0, a1, a2⟩
  iterate 3
    have HO := Lib.hid (show idleM m i = (none_, 1) from by
      refine if_neg (fun hh => ?_)
      obtain ⟨q1, q2, q3⟩ := (there_iff m i).1 hh
      first | omega | (rw [h0] at q1; cases q1))
    rw [h0] at HR
    clear h h0
    go_enter Try.func27, Try.ntmps27
    go_wp2_with fail
    refine (HR.out _ S0.out.below).mono ?_
    rintro e w1 ⟨rfl, hb1⟩
    have S1 := Lib.hid (S0.out.next hb1)
    obtain ⟨⟨r0, r1, r2⟩, f0, f1, f2⟩ := S1.out.frees
    obtain ⟨z0, z1, z2⟩ := S1.out.ma.cells
    clear hb1
    go_wp2_with fail
    obtain ⟨d1, d2⟩ := S1.out.none
    rw [HO.out]
    exact idle_ret (o := (none_, 1)) (A := none) (c := 0) (B := none) (d := 0) rfl rfl rfl d1 (Has.zero _) d2
  · obtain ⟨n, rfl⟩ : ∃ n : Nat, i = n := ⟨i.toNat, by omega⟩
    have hn : n < m.ins.length := by omega
    obtain ⟨x, hx⟩ : ∃ x, m.ins[n]? = some x := ⟨_, List.getElem?_eq_getElem hn⟩
    have hin : inAt m n = x := by unfold inAt; rw [List.getD_eq_getElem?_getD, Int.toNat_natCast, hx]; rfl
    have hl8 := ((right_iff m).1 h0).1.2.1
    have HW := Lib.hid (fun w' (hb : Below w.heap.size w w') => rfWithM m A c B d n ⟨x.mark, true⟩ w' (h.next hb) hl8 hn)
    obtain ⟨us, hus⟩ : ∃ us, us = m.ins.set n (⟨x.mark, true⟩ : In) := ⟨_, rfl⟩
    rw [← hus] at HW
    have HO := Lib.hid (show idleM m n = (⟨us, m.holds, m.out⟩, 0) from by
      unfold idleM
      rw [if_pos ((there_iff m n).2 ⟨h0, by omega, by omega⟩), hin, Int.toNat_natCast, hus])
    have H := Lib.hid h
    have HX := Lib.hid hx
    rw [h0] at HR
    clear h h0 hx hin hus
    go_enter Try.func27, Try.ntmps27
    go_wp2_with fail
    refine (HR.out _ S0.out.below).mono ?_
    rintro e w1 ⟨rfl, hb1⟩
    have S1 := Lib.hid (S0.out.next hb1)
    obtain ⟨b, off, rfl, c0, c1⟩ := row_in (H.out.ri.below S1.out.below) HX.out
    obtain ⟨z0, z1, z2⟩ := S1.out.ma.cells
    have I1 := Lib.hid (show IdAt w m (some ⟨b, off, none⟩) c B d b (off + n * 2) x.mark w1.drew from
      (show IdAt w m (some ⟨b, off, none⟩) c B d b (off + n * 2) x.mark w1 from ⟨S1.out, c0⟩).next (below_drewOf (Below.refl _ _)))
    clear hb1
    go_wp2_with fail
    clear z0 z1 z2 c0 c1
    refine wide_tail 9 (IdAt w m (some ⟨b, off, none⟩) c B d b (off + n * 2) x.mark) (by kernel_rfl) (by kernel_rfl) I1.out ?_
    simp only [List.take_succ_cons, List.take_zero, List.drop_succ_cons, List.drop_zero]
    repeat (first
    | go_big_quiet_skip
    | (go_big_quiet_want
       apply wide_op
       · (intro w5 h5; obtain ⟨z0, z1, z2⟩ := h5.se.ma.cells; have c0 := h5.ce; go_simp; first | done | with_reducible rfl)
       (try simp only [Act.put, List.setIfInBounds_toArray, List.set_cons_zero, List.set_cons_succ])
       go_big_quiet_on))
    refine wpQuiet_nil ?_
    intro w2 h2
    have I2 := Lib.hid h2
    clear h2
    go_wp2_with fail
    refine (HW.out _ I2.out.se.below).mono ?_
    rintro e w3 ⟨A3, c3, rfl, R3, l3, m3, n3, hb3⟩
    have S3 := Lib.hid (I2.out.se.next hb3)
    have G3 := Lib.hid (show Row w3 A3 (ic us) ∧ us.length ≤ c3 ∧ c3 ≤ maxLen ∧ ∀ a, A3 = some a → a.block ≠ w.heap.size + 1 from ⟨R3, l3, m3, fun a ha => by have h1 := n3 a ha; have h2 := lt_of_block I2.out.se.res; omega⟩)
    obtain ⟨⟨r0, r1, r2⟩, f0, f1, f2⟩ := S3.out.frees
    clear hb3 R3 l3 m3 n3
    go_wp2_with fail
    rw [HO.out]
    obtain ⟨g1, g2, g3, g4⟩ := G3.out
    have hbF := below_setM3 S3.out.below (R := w.heap.size + 1) (by omega) (.slice A3 us.length c3) (.slice B m.holds.length d) m.out
    exact idle_ret (o := (⟨us, m.holds, m.out⟩, 0)) rfl rfl rfl (lies_setM3 S3.out.res (.slice A3 us.length c3) (.slice B m.holds.length d) m.out) ⟨row_setM3 g1 g4 (.slice A3 us.length c3) (.slice B m.holds.length d) m.out, H.out.rh.below hbF, g2, g3, H.out.l3, H.out.l4⟩ hbF
end Wm
end Go.Proofs.Ytciagbeamphihaa
