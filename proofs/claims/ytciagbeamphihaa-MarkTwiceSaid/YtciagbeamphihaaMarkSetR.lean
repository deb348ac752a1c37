/- Set and Idle of the reference. -/
import Derived.Test.YtciagbeamphihaaMarkWithR
import Derived.Test.YtciagbeamphihaaMarkRightR
namespace Go.Proofs.Ytciagbeamphihaa
open Go.RowKit
set_option linter.unusedVariables false
set_option maxRecDepth 8000
namespace Wm
theorem row_other {w : World} {A : Option Addr} {cs : List Value} (h : Row w A cs) {p : Addr} (hne : ∀ a, A = some a → a.block ≠ p.block) (v : Value) : Row (w.setCell p v) A cs := by
  rcases h with h | ⟨b, off, rfl, h⟩
  · exact .inl h
  · refine .inr ⟨b, off, rfl, fun j u hu => ?_⟩
    have e := Below.heap_setCell w p v b (hne _ rfl)
    have := h j u hu
    unfold World.cell? at this ⊢
    rw [show (w.setCell p v).heap[b]? = w.heap[b]? from e]
    exact this
theorem row_setM3 {w : World} {A : Option Addr} {cs : List Value} (h : Row w A cs) {R : Nat} (hne : ∀ a, A = some a → a.block ≠ R) (a b : Value) (o : Int) : Row (setM3 w R a b o) A cs :=
  row_other (row_other (row_other h (p := ⟨R, 0, none⟩) hne _) (p := ⟨R, 1, none⟩) hne _) (p := ⟨R, 2, none⟩) hne _
theorem set_ret {w wF : World} {R : Nat} {o : Mk × Nat} {A : Option Addr} {c : Nat} {B : Option Addr} {d : Nat} {act : Act} (ht : act.tmps.getD 6 undef = .pointer (some ⟨R, 0, none⟩)) (hs : act.tmps.getD 7 undef = .int .i64 (o.2 : Nat)) (hd : act.defers = [])
    (hL : Lies R (mkC (.slice A o.1.ins.length c) (.slice B o.1.holds.length d) o.1.out) 25 wF) (hH : Has o.1 A c B d wF) (hB : Below w.heap.size w wF) :
    bodyPost Try.prog Try.f26 (GivesM o w) .ret act wF := by
  have c0 := hL.cell (j := 0) rfl
  have c1 := hL.cell (j := 1) rfl
  have c2 := hL.cell (j := 2) rfl
  refine bodyPost_ret (v := .tuple #[mv o.1 A c B d, .int .i64 (o.2 : Nat)]) ?_ hd ⟨A, c, B, d, rfl, hH, hB⟩
  have ht2 : act.tmps[6]?.getD undef = .pointer (some ⟨R, 0, none⟩) := by simpa using ht
  have hs2 : act.tmps[7]?.getD undef = .int .i64 (o.2 : Nat) := by simpa using hs
  simp [results, Try.results26, go_sem, ht2, hs2, c0, c1, c2]
/-- The call's blocks: the marks, the answer. -/
structure SeAt (w0 : World) (m : Mk) (A : Option Addr) (c : Nat) (B : Option Addr) (d : Nat) (w : World) : Prop where
  ma : MkAt w0.heap.size m A c B d w
  res : Lies (w0.heap.size + 1) (mkC (.slice none 0 0) (.slice none 0 0) 0) 25 w
  below : Below w0.heap.size w0 w
theorem SeAt.next {w0 : World} {m : Mk} {A : Option Addr} {c : Nat} {B : Option Addr} {d : Nat} {w w' : World} (h : SeAt w0 m A c B d w) (hb : Below w.heap.size w w') : SeAt w0 m A c B d w' :=
  ⟨h.ma.next hb, (hb.block _ (lt_of_block h.res)).trans h.res, below_next h.below hb⟩
theorem SeAt.start (w : World) (m : Mk) (A : Option Addr) (c : Nat) (B : Option Addr) (d : Nat) : SeAt w m A c B d ((w.alloc (.cells (mkC (.slice A m.ins.length c) (.slice B m.holds.length d) m.out) 25)).alloc (.cells (mkC (.slice none 0 0) (.slice none 0 0) 0) 25)) :=
  ⟨(Lies.new w _ _).al, lies_at (by simp) _ _, below_al (al_below _ _)⟩
theorem SeAt.frees {w0 : World} {m : Mk} {A : Option Addr} {c : Nat} {B : Option Addr} {d : Nat} {w : World} (h : SeAt w0 m A c B d w) :
    (w.cell? ⟨w0.heap.size + 1, 0, none⟩ = some (.slice none 0 0) ∧ w.cell? ⟨w0.heap.size + 1, 1, none⟩ = some (.slice none 0 0) ∧ w.cell? ⟨w0.heap.size + 1, 2, none⟩ = some (.int .i64 0)) ∧
    w.frozen? ⟨w0.heap.size + 1, 0, none⟩ = false ∧ w.frozen? ⟨w0.heap.size + 1, 1, none⟩ = false ∧ w.frozen? ⟨w0.heap.size + 1, 2, none⟩ = false :=
  ⟨⟨h.res.cell (j := 0) rfl, h.res.cell (j := 1) rfl, h.res.cell (j := 2) rfl⟩, h.res.free 0, h.res.free 1, h.res.free 2⟩
theorem SeAt.none {w0 : World} {m : Mk} {A : Option Addr} {c : Nat} {B : Option Addr} {d : Nat} {w : World} (h : SeAt w0 m A c B d w) :
    Lies (w0.heap.size + 1) (mkC (.slice none 0 0) (.slice none 0 0) 0) 25 (setM3 w (w0.heap.size + 1) (.slice none 0 0) (.slice none 0 0) 0) ∧ Below w0.heap.size w0 (setM3 w (w0.heap.size + 1) (.slice none 0 0) (.slice none 0 0) 0) :=
  ⟨lies_setM3 h.res _ _ _, below_setM3 h.below (by omega) _ _ _⟩
set_option maxRecDepth 100000 in
set_option maxHeartbeats 800000 in
theorem rfSetM (m : Mk) (A : Option Addr) (c : Nat) (B : Option Addr) (d : Nat) (i t : Int) (w : World) (h : Has m A c B d w) :
    Calls Try.prog 26 #[mv m A c B d, .int .i64 i, .int .i64 t] w (GivesM (setM m i t) w) := by
  have HR := Lib.hid (fun w' (hb : Below w.heap.size w w') => rfRightM m A c B d w' (h.next hb))
  have S0 := Lib.hid (SeAt.start w m A c B d)
  have hway : (right m = false) ∨ (right m = true ∧ i < 0) ∨ (right m = true ∧ ¬ i < 0 ∧ (m.ins.length : Int) ≤ i) ∨ (right m = true ∧ ¬ i < 0 ∧ ¬ (m.ins.length : Int) ≤ i) := by
    cases right m <;> simp <;> omega
  rcases hway with h0 | ⟨h0, a1⟩ | ⟨h0, a1, a2⟩ | ⟨h0, a1, a2⟩
  iterate 3
    have HO := Lib.hid (show setM m i t = (none_, 1) from by
      refine if_neg (fun hh => ?_)
      obtain ⟨q1, q2, q3⟩ := (there_iff m i).1 hh
      first | omega | (rw [h0] at q1; cases q1))
    rw [h0] at HR
    clear h h0
    go_enter Try.func26, Try.ntmps26
    go_wp2_with fail
    refine (HR.out _ S0.out.below).mono ?_
    rintro e w1 ⟨rfl, hb1⟩
    have S1 := Lib.hid (S0.out.next hb1)
    obtain ⟨⟨r0, r1, r2⟩, f0, f1, f2⟩ := S1.out.frees
    obtain ⟨z0, z1, z2⟩ := S1.out.ma.cells
    clear hb1
    go_wp2_with fail
    obtain ⟨d1, d2⟩ := S1.out.none
    rw [HO.out]
    exact set_ret (o := (none_, 1)) (A := none) (c := 0) (B := none) (d := 0) rfl rfl rfl d1 (Has.zero _) d2
  · obtain ⟨n, rfl⟩ : ∃ n : Nat, i = n := ⟨i.toNat, by omega⟩
    have hn : n < m.ins.length := by omega
    obtain ⟨x, hx⟩ : ∃ x, m.ins[n]? = some x := ⟨_, List.getElem?_eq_getElem hn⟩
    have hin : inAt m n = x := by unfold inAt; rw [List.getD_eq_getElem?_getD, Int.toNat_natCast, hx]; rfl
    obtain ⟨z, hz⟩ : ∃ z : In, z = ⟨if x.mark < clamp t then clamp t else x.mark, false⟩ := ⟨_, rfl⟩
    have HO := Lib.hid (show setM m n t = (⟨m.ins.set n z, m.holds, m.out⟩, 0) from by
      unfold setM
      rw [if_pos ((there_iff m n).2 ⟨h0, by omega, by omega⟩), hin, ← hz, Int.toNat_natCast])
    have hl8 := ((right_iff m).1 h0).1.2.1
    have HW := Lib.hid (fun w' (hb : Below w.heap.size w w') => rfWithM m A c B d n z w' (h.next hb) hl8 hn)
    have H := Lib.hid h
    have HX := Lib.hid hx
    have HN := Lib.hid (And.intro hl8 hn)
    rw [h0] at HR
    clear h h0 hx hin hl8
    go_enter Try.func26, Try.ntmps26
    go_wp2_with fail
    refine (HR.out _ S0.out.below).mono ?_
    rintro e w1 ⟨rfl, hb1⟩
    have S1 := Lib.hid (S0.out.next hb1)
    obtain ⟨b, off, rfl, c0, c1⟩ := row_in (H.out.ri.below S1.out.below) HX.out
    obtain ⟨z0, z1, z2⟩ := S1.out.ma.cells
    have q0 : w.heap.size < w1.heap.size := lt_of_block S1.out.ma
    clear hb1
    go_wp2_with fail
    go_quiet (first | (go_at_call 38; refine Calls.quiet_of_same (rfClampM _ _)))
    have HCL := Lib.hid (fun w' => rfClampM t w')
    obtain ⟨ct, hct⟩ : ∃ ct, ct = clamp t := ⟨_, rfl⟩
    rw [← hct] at hz HCL ⊢
    clear hct
    by_cases hlt : x.mark < ct
    · have hzz := Lib.hid (show z = ⟨ct, false⟩ by rw [hz, if_pos hlt])
      rw [hzz.out] at HW HO
      obtain ⟨us, hus⟩ : ∃ us, us = m.ins.set n (⟨ct, false⟩ : In) := ⟨_, rfl⟩
      rw [← hus] at HW HO
      clear hz hzz hus
      go_wp2_with fail
      refine (HCL.out _).mono ?_
      rintro e w2 ⟨rfl, rfl⟩
      go_wp2_with fail
      have hbW := (below_drewN (n := nq) (al_below w1 (.cells (inC ⟨x.mark, false⟩) 42))).setCell (p := ⟨w1.heap.size, 0, none⟩) (Nat.le_refl _) (.int .i64 ct)
      have SW := Lib.hid (S1.out.next hbW)
      refine (HW.out _ (below_next S1.out.below hbW)).mono ?_
      rintro e w3 ⟨A3, c3, rfl, R3, l3, m3, n3, hb3⟩
      have S3 := Lib.hid (SW.out.next hb3)
      have H3 := Lib.hid (show Row w3 B (hc m.holds) from H.out.rh.below S3.out.below)
      have G3 := Lib.hid (show Row w3 A3 (ic us) ∧ us.length ≤ c3 ∧ c3 ≤ maxLen ∧ ∀ a, A3 = some a → a.block ≠ w.heap.size + 1 from ⟨R3, l3, m3, fun a ha => by have h1 := n3 a ha; have h2 := lt_of_block SW.out.res; omega⟩)
      obtain ⟨⟨r0, r1, r2⟩, f0, f1, f2⟩ := S3.out.frees
      clear hbW hb3 R3 l3 m3 n3
      go_wp2_with fail
      rw [HO.out]
      obtain ⟨g1, g2, g3, g4⟩ := G3.out
      have hbF := below_setM3 S3.out.below (R := w.heap.size + 1) (by omega) (.slice A3 us.length c3) (.slice B m.holds.length d) m.out
      exact set_ret (o := (⟨us, m.holds, m.out⟩, 0)) rfl rfl rfl (lies_setM3 S3.out.res (.slice A3 us.length c3) (.slice B m.holds.length d) m.out) ⟨row_setM3 g1 g4 (.slice A3 us.length c3) (.slice B m.holds.length d) m.out, H.out.rh.below hbF, g2, g3, H.out.l3, H.out.l4⟩ hbF
    · have hzz := Lib.hid (show z = ⟨x.mark, false⟩ by rw [hz, if_neg hlt])
      rw [hzz.out] at HW HO
      obtain ⟨us, hus⟩ : ∃ us, us = m.ins.set n (⟨x.mark, false⟩ : In) := ⟨_, rfl⟩
      rw [← hus] at HW HO
      clear hz hzz hus
      go_wp2_with fail
      have hbW := below_drewN (n := nq) (al_below w1 (.cells (inC ⟨x.mark, false⟩) 42))
      have SW := Lib.hid (S1.out.next hbW)
      refine (HW.out _ (below_next S1.out.below hbW)).mono ?_
      rintro e w3 ⟨A3, c3, rfl, R3, l3, m3, n3, hb3⟩
      have S3 := Lib.hid (SW.out.next hb3)
      have H3 := Lib.hid (show Row w3 B (hc m.holds) from H.out.rh.below S3.out.below)
      have G3 := Lib.hid (show Row w3 A3 (ic us) ∧ us.length ≤ c3 ∧ c3 ≤ maxLen ∧ ∀ a, A3 = some a → a.block ≠ w.heap.size + 1 from ⟨R3, l3, m3, fun a ha => by have h1 := n3 a ha; have h2 := lt_of_block SW.out.res; omega⟩)
      obtain ⟨⟨r0, r1, r2⟩, f0, f1, f2⟩ := S3.out.frees
      clear hbW hb3 R3 l3 m3 n3
      go_wp2_with fail
      rw [HO.out]
      obtain ⟨g1, g2, g3, g4⟩ := G3.out
      have hbF := below_setM3 S3.out.below (R := w.heap.size + 1) (by omega) (.slice A3 us.length c3) (.slice B m.holds.length d) m.out
      exact set_ret (o := (⟨us, m.holds, m.out⟩, 0)) rfl rfl rfl (lies_setM3 S3.out.res (.slice A3 us.length c3) (.slice B m.holds.length d) m.out) ⟨row_setM3 g1 g4 (.slice A3 us.length c3) (.slice B m.holds.length d) m.out, H.out.rh.below hbF, g2, g3, H.out.l3, H.out.l4⟩ hbF
end Wm
end Go.Proofs.Ytciagbeamphihaa
