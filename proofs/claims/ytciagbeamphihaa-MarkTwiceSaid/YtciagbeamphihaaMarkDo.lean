/- do of the law: a call of the code and of the document. -/
import Derived.Test.YtciagbeamphihaaMarkNew
import Derived.Test.YtciagbeamphihaaMarkSet
import Derived.Test.YtciagbeamphihaaMarkFree
import Derived.Test.YtciagbeamphihaaMarkTell
import Derived.Test.YtciagbeamphihaaMarkIdleR
import Derived.Test.YtciagbeamphihaaMarkFreeR
import Derived.Test.YtciagbeamphihaaMarkHoldR
import Derived.RegionTactic
namespace Go.Proofs.Ytciagbeamphihaa
open Go.RowKit
set_option linter.unusedVariables false
set_option maxRecDepth 8000
namespace Wm
/-- A row of inputs or of holds lies in no block of marks. -/
theorem row_keepI {w : World} {A A0 B0 : Option Addr} {n0 c0 k0 d0 R : Nat} {o0 : Int} {xs : List In} {T : TypeId} (h : Row w A (ic xs)) (hl : Lies R (mkC (.slice A0 n0 c0) (.slice B0 k0 d0) o0) T w) (x y : Value) (o : Int) : Row (setM3 w R x y o) A (ic xs) := by
  cases xs with
  | nil => exact .inl rfl
  | cons u r =>
    obtain ⟨b, off, rfl, c0', c1'⟩ := row_in h (k := 0) rfl
    refine row_setM3 h (fun a ha e => ?_) x y o
    cases ha
    simp only at e
    subst e
    unfold Lies at hl
    simp only [World.cell?, hl] at c0' c1'
    rcases off with _ | _ | _ | off
    · simp at c0'
    · simp at c0'
    · simp at c1'
    · simp at c0'
theorem row_keepH {w : World} {A A0 B0 : Option Addr} {n0 c0 k0 d0 R : Nat} {o0 : Int} {xs : List Ho} {T : TypeId} (h : Row w A (hc xs)) (hl : Lies R (mkC (.slice A0 n0 c0) (.slice B0 k0 d0) o0) T w) (x y : Value) (o : Int) : Row (setM3 w R x y o) A (hc xs) := by
  cases xs with
  | nil => exact .inl rfl
  | cons u r =>
    obtain ⟨b, off, rfl, c0', c1'⟩ := row_ho h (k := 0) rfl
    refine row_setM3 h (fun a ha e => ?_) x y o
    cases ha
    simp only at e
    subst e
    unfold Lies at hl
    simp only [World.cell?, hl] at c0' c1'
    rcases off with _ | _ | _ | off
    · simp at c0'
    · simp at c0'
    · simp at c1'
    · simp at c0'
theorem Has.put {m : Mk} {A B A0 B0 : Option Addr} {c d n0 c0 k0 d0 R : Nat} {o0 : Int} {T : TypeId} {w : World} (h : Has m A c B d w) (hl : Lies R (mkC (.slice A0 n0 c0) (.slice B0 k0 d0) o0) T w) (x y : Value) (o : Int) : Has m A c B d (setM3 w R x y o) :=
  ⟨row_keepI h.ri hl x y o, row_keepH h.rh hl x y o, h.l1, h.l2, h.l3, h.l4⟩
theorem setM3_def (w : World) (R : Nat) (a b : Value) (o : Int) : ((w.setCell ⟨R, 0, none⟩ a).setCell ⟨R, 1, none⟩ b).setCell ⟨R, 2, none⟩ (.int .i64 o) = setM3 w R a b o := rfl
theorem lies_drew {b : Nat} {C : Array Value} {T : TypeId} {w : World} (h : Lies b C T w) : Lies b C T w.drew := h
abbrev acC (wh no t : Int) : Array Value := #[.int .i64 wh, .int .i64 no, .int .i64 t]
abbrev acV (wh no t : Int) : Value := .agg #[.int .i64 wh, .int .i64 no, .int .i64 t]
abbrev zeM : Array Value := mkC (.slice none 0 0) (.slice none 0 0) 0
def doM (m : Mk) (wh no t : Int) : Mk × Nat := if wh = 0 then setM m no t else if wh = 1 then idleM m no else if wh = 2 then holdM m no t else freeM m no
def GivesD (o : Mk × Nat) (w : World) (e : Ending) (w' : World) : Prop := ∃ A c B d A' c' B' d', e = .returned (.tuple #[mv o.1 A c B d, .int .i64 (o.2 : Nat), mv o.1 A' c' B' d', .int .i64 (o.2 : Nat)]) ∧ Has o.1 A c B d w' ∧ Has o.1 A' c' B' d' w' ∧ Below w.heap.size w w'
theorem do_ret {w wF : World} {R S : Nat} {o : Mk × Nat} {A : Option Addr} {c : Nat} {B : Option Addr} {d : Nat} {A' : Option Addr} {c' : Nat} {B' : Option Addr} {d' : Nat} {act : Act} (ht : act.tmps.getD 4 undef = .pointer (some ⟨R, 0, none⟩)) (hs : act.tmps.getD 5 undef = .int .i64 (o.2 : Nat)) (hu : act.tmps.getD 6 undef = .pointer (some ⟨S, 0, none⟩)) (hv : act.tmps.getD 7 undef = .int .i64 (o.2 : Nat)) (hd : act.defers = [])
    (hL : Lies R (mkC (.slice A o.1.ins.length c) (.slice B o.1.holds.length d) o.1.out) 25 wF) (hM : Lies S (mkC (.slice A' o.1.ins.length c') (.slice B' o.1.holds.length d') o.1.out) 25 wF) (hH : Has o.1 A c B d wF) (hH' : Has o.1 A' c' B' d' wF) (hB : Below w.heap.size w wF) :
    bodyPost Try.prog Try.f15 (GivesD o w) .ret act wF := by
  have c0 := hL.cell (j := 0) rfl
  have c1 := hL.cell (j := 1) rfl
  have c2 := hL.cell (j := 2) rfl
  have e0 := hM.cell (j := 0) rfl
  have e1 := hM.cell (j := 1) rfl
  have e2 := hM.cell (j := 2) rfl
  refine bodyPost_ret (v := .tuple #[mv o.1 A c B d, .int .i64 (o.2 : Nat), mv o.1 A' c' B' d', .int .i64 (o.2 : Nat)]) ?_ hd ⟨A, c, B, d, A', c', B', d', rfl, hH, hH', hB⟩
  have ht2 : act.tmps[4]?.getD undef = .pointer (some ⟨R, 0, none⟩) := by simpa using ht
  have hs2 : act.tmps[5]?.getD undef = .int .i64 (o.2 : Nat) := by simpa using hs
  have hu2 : act.tmps[6]?.getD undef = .pointer (some ⟨S, 0, none⟩) := by simpa using hu
  have hv2 : act.tmps[7]?.getD undef = .int .i64 (o.2 : Nat) := by simpa using hv
  simp [results, Try.results15, go_sem, ht2, hs2, hu2, hv2, c0, c1, c2, e0, e1, e2]
/-- do's blocks. -/
structure DoAt (w0 : World) (m : Mk) (A : Option Addr) (c : Nat) (B : Option Addr) (d : Nat) (wh no t : Int) (vx vy : Array Value) (w : World) : Prop where
  ma : MkAt w0.heap.size m A c B d w
  ac : Lies (w0.heap.size + 1) (acC wh no t) 34 w
  r4 : Lies (w0.heap.size + 2) zeM 25 w
  r6 : Lies (w0.heap.size + 3) zeM 25 w
  x : Lies (w0.heap.size + 4) vx 25 w
  y : Lies (w0.heap.size + 5) vy 25 w
  below : Below w0.heap.size w0 w
section
variable {w0 w w' : World} {m : Mk} {A : Option Addr} {c : Nat} {B : Option Addr} {d : Nat} {wh no t : Int} {vx vy : Array Value}
theorem DoAt.next (h : DoAt w0 m A c B d wh no t vx vy w) (hb : Below w.heap.size w w') : DoAt w0 m A c B d wh no t vx vy w' :=
  ⟨h.ma.next hb, lies_up h.ac hb, lies_up h.r4 hb, lies_up h.r6 hb, lies_up h.x hb, lies_up h.y hb, below_next h.below hb⟩
theorem DoAt.start (w0 : World) (m : Mk) (A : Option Addr) (c : Nat) (B : Option Addr) (d : Nat) (wh no t : Int) :
    DoAt w0 m A c B d wh no t zeM zeM ((((((w0.alloc (.cells (mkC (.slice A m.ins.length c) (.slice B m.holds.length d) m.out) 25)).alloc (.cells (acC wh no t) 34)).alloc (.cells zeM 25)).alloc (.cells zeM 25)).alloc (.cells zeM 25)).alloc (.cells zeM 25)) :=
  ⟨(((((Lies.new w0 _ _).al).al).al).al).al, (((((lies_at (by simp) _ _ : Lies _ _ _ _).al).al).al).al), ((((lies_at (by simp) _ _ : Lies _ _ _ _).al).al).al), (((lies_at (by simp) _ _ : Lies _ _ _ _).al).al), ((lies_at (by simp) _ _ : Lies _ _ _ _).al), lies_at (by simp) _ _, below_al (below_al (below_al (below_al (below_al (al_below _ _)))))⟩
theorem DoAt.putX (h : DoAt w0 m A c B d wh no t vx vy w) {a0 b0 : Value} {o0 : Int} (e : vx = mkC a0 b0 o0) (a b : Value) (o : Int) : DoAt w0 m A c B d wh no t (mkC a b o) vy (setM3 w (w0.heap.size + 4) a b o) := by
  subst e
  exact ⟨lies_otherM h.ma (by omega) _ _ _, lies_otherM h.ac (by omega) _ _ _, lies_otherM h.r4 (by omega) _ _ _, lies_otherM h.r6 (by omega) _ _ _, lies_setM3 h.x _ _ _, lies_otherM h.y (by omega) _ _ _, below_setM3 h.below (by omega) _ _ _⟩
theorem DoAt.putY (h : DoAt w0 m A c B d wh no t vx vy w) {a0 b0 : Value} {o0 : Int} (e : vy = mkC a0 b0 o0) (a b : Value) (o : Int) : DoAt w0 m A c B d wh no t vx (mkC a b o) (setM3 w (w0.heap.size + 5) a b o) := by
  subst e
  exact ⟨lies_otherM h.ma (by omega) _ _ _, lies_otherM h.ac (by omega) _ _ _, lies_otherM h.r4 (by omega) _ _ _, lies_otherM h.r6 (by omega) _ _ _, lies_otherM h.x (by omega) _ _ _, lies_setM3 h.y _ _ _, below_setM3 h.below (by omega) _ _ _⟩
end
set_option maxRecDepth 100000 in
set_option maxHeartbeats 2000000 in
theorem lawDo (m : Mk) (A : Option Addr) (c : Nat) (B : Option Addr) (d : Nat) (wh no t : Int) (w : World) (h : Has m A c B d w) (hl : m.holds.length ≤ 100000) : Calls Try.prog 15 #[mv m A c B d, acV wh no t] w (GivesD (doM m wh no t) w) := by
  have D0 := Lib.hid (DoAt.start w m A c B d wh no t)
  have hway : wh = 0 ∨ (wh ≠ 0 ∧ wh = 1) ∨ (wh ≠ 0 ∧ wh ≠ 1 ∧ wh = 2) ∨ (wh ≠ 0 ∧ wh ≠ 1 ∧ wh ≠ 2) := by omega
  rcases hway with h0 | ⟨h0, h1⟩ | ⟨h0, h1, h2⟩ | ⟨h0, h1, h2⟩
  · have HX := Lib.hid (fun w' (hb : Below w.heap.size w w') => ckSet m A c B d no t w' (h.next hb))
    have HY := Lib.hid (fun w' (hb : Below w.heap.size w w') => rfSetM m A c B d no t w' (h.next hb))
    have hO : doM m wh no t = setM m no t := by unfold doM; rw [if_pos h0]
    obtain ⟨o, ho⟩ : ∃ o, o = setM m no t := ⟨_, rfl⟩
    rw [← ho] at HX HY hO
    rw [hO]
    clear ho hO h hl
    have e0 : (wh == 0) = true := eq_b h0
    clear h0
    go_enter Try.func15, Try.ntmps15
    go_wp2_with fail
    refine (HX.out _ D0.out.below).mono ?_
    rintro e w1 ⟨A1, c1, B1, d1, rfl, h1, hb1⟩
    have D1 := Lib.hid (D0.out.next hb1)
    have H1 := Lib.hid h1
    obtain ⟨z0, z1, z2⟩ := D1.out.ma.cells
    have y0 := D1.out.ac.cell (j := 0) rfl
    have y1 := D1.out.ac.cell (j := 1) rfl
    have y2 := D1.out.ac.cell (j := 2) rfl
    have x0 := D1.out.x.cell (j := 0) rfl
    have x1 := D1.out.x.cell (j := 1) rfl
    have x2 := D1.out.x.cell (j := 2) rfl
    have f0 := D1.out.x.free 0
    have f1 := D1.out.x.free 1
    have f2 := D1.out.x.free 2
    clear hb1 h1
    go_wp2_with fail
    have D2 := Lib.hid (D1.out.putX rfl (.slice A1 o.1.ins.length c1) (.slice B1 o.1.holds.length d1) o.1.out)
    have H2 := Lib.hid (H1.out.put D1.out.x (.slice A1 o.1.ins.length c1) (.slice B1 o.1.holds.length d1) o.1.out)
    clear z0 z1 z2 y0 y1 y2 x0 x1 x2 f0 f1 f2
    refine (HY.out _ D2.out.below).mono ?_
    rintro e w3 ⟨A2, c2, B2, d2, rfl, h3, hb3⟩
    have D3 := Lib.hid (D2.out.next hb3)
    have H3 := Lib.hid h3
    have H3' := Lib.hid (H2.out.next hb3)
    have x0 := D3.out.y.cell (j := 0) rfl
    have x1 := D3.out.y.cell (j := 1) rfl
    have x2 := D3.out.y.cell (j := 2) rfl
    have f0 := D3.out.y.free 0
    have f1 := D3.out.y.free 1
    have f2 := D3.out.y.free 2
    clear hb3 h3
    go_wp2_with fail
    obtain ⟨w4, hw4⟩ : ∃ w4, w4 = setM3 w3 (w.heap.size + 5) (.slice A2 o.1.ins.length c2) (.slice B2 o.1.holds.length d2) o.1.out := ⟨_, rfl⟩
    have D4 := Lib.hid (D3.out.putY rfl (.slice A2 o.1.ins.length c2) (.slice B2 o.1.holds.length d2) o.1.out)
    have H4 := Lib.hid (H3.out.put D3.out.y (.slice A2 o.1.ins.length c2) (.slice B2 o.1.holds.length d2) o.1.out)
    have H4' := Lib.hid (H3'.out.put D3.out.y (.slice A2 o.1.ins.length c2) (.slice B2 o.1.holds.length d2) o.1.out)
    rw [← hw4] at D4 H4 H4'
    unfold setM3 at hw4
    rw [← hw4]
    clear hw4 x0 x1 x2 f0 f1 f2
    have x0 := D4.out.x.cell (j := 0) rfl
    have x1 := D4.out.x.cell (j := 1) rfl
    have x2 := D4.out.x.cell (j := 2) rfl
    have y0 := D4.out.y.cell (j := 0) rfl
    have y1 := D4.out.y.cell (j := 1) rfl
    have y2 := D4.out.y.cell (j := 2) rfl
    have q0 := D4.out.r4.cell (j := 0) rfl
    have q1 := D4.out.r4.cell (j := 1) rfl
    have q2 := D4.out.r4.cell (j := 2) rfl
    have p0 := D4.out.r6.cell (j := 0) rfl
    have p1 := D4.out.r6.cell (j := 1) rfl
    have p2 := D4.out.r6.cell (j := 2) rfl
    have f0 := D4.out.r4.free 0
    have f1 := D4.out.r4.free 1
    have f2 := D4.out.r4.free 2
    have g0 := D4.out.r6.free 0
    have g1 := D4.out.r6.free 1
    have g2 := D4.out.r6.free 2
    go_region
    all_goals (
      go_wp2_with fail
      simp only [Nat.add_assoc, Nat.reduceAdd, setM3_def]
      have L6 := lies_otherM D4.out.r6 (show w.heap.size + 3 ≠ w.heap.size + 2 by omega) (.slice A1 o.1.ins.length c1) (.slice B1 o.1.holds.length d1) o.1.out
      have X1 := (H4'.out.put D4.out.r4 (.slice A1 o.1.ins.length c1) (.slice B1 o.1.holds.length d1) o.1.out).put L6 (.slice A2 o.1.ins.length c2) (.slice B2 o.1.holds.length d2) o.1.out
      have X2 := (H4.out.put D4.out.r4 (.slice A1 o.1.ins.length c1) (.slice B1 o.1.holds.length d1) o.1.out).put L6 (.slice A2 o.1.ins.length c2) (.slice B2 o.1.holds.length d2) o.1.out
      have B5 := below_setM3 (below_setM3 D4.out.below (show w.heap.size ≤ w.heap.size + 2 by omega) (.slice A1 o.1.ins.length c1) (.slice B1 o.1.holds.length d1) o.1.out) (show w.heap.size ≤ w.heap.size + 3 by omega) (.slice A2 o.1.ins.length c2) (.slice B2 o.1.holds.length d2) o.1.out
      have L4 := lies_otherM (lies_setM3 D4.out.r4 (.slice A1 o.1.ins.length c1) (.slice B1 o.1.holds.length d1) o.1.out) (show w.heap.size + 2 ≠ w.heap.size + 3 by omega) (.slice A2 o.1.ins.length c2) (.slice B2 o.1.holds.length d2) o.1.out
      have L7 := lies_setM3 L6 (.slice A2 o.1.ins.length c2) (.slice B2 o.1.holds.length d2) o.1.out
      refine do_ret (R := w.heap.size + 2) (S := w.heap.size + 3) (o := o) (A := A1) (c := c1) (B := B1) (d := d1) (A' := A2) (c' := c2) (B' := B2) (d' := d2) ?_ ?_ ?_ ?_ ?_ ?_ ?_ ?_ ?_ ?_
      · rfl
      · rfl
      · rfl
      · rfl
      · rfl
      · exact lies_drew L4
      · exact lies_drew L7
      · exact X1.next (below_drewOf (Below.refl _ _))
      · exact X2.next (below_drewOf (Below.refl _ _))
      · exact below_drewOf B5)
  · have HX := Lib.hid (fun w' (hb : Below w.heap.size w w') => ckIdle m A c B d no w' (h.next hb))
    have HY := Lib.hid (fun w' (hb : Below w.heap.size w w') => rfIdleM m A c B d no w' (h.next hb))
    have hO : doM m wh no t = idleM m no := by unfold doM; rw [if_neg h0, if_pos h1]
    obtain ⟨o, ho⟩ : ∃ o, o = idleM m no := ⟨_, rfl⟩
    rw [← ho] at HX HY hO
    rw [hO]
    clear ho hO h hl
    have e0 : (wh == 0) = false := ne_b h0
    have e1 : (wh == 1) = true := eq_b h1
    clear h0 h1
    go_enter Try.func15, Try.ntmps15
    go_wp2_with fail
    refine (HX.out _ D0.out.below).mono ?_
    rintro e w1 ⟨A1, c1, B1, d1, rfl, h1, hb1⟩
    have D1 := Lib.hid (D0.out.next hb1)
    have H1 := Lib.hid h1
    obtain ⟨z0, z1, z2⟩ := D1.out.ma.cells
    have y0 := D1.out.ac.cell (j := 0) rfl
    have y1 := D1.out.ac.cell (j := 1) rfl
    have y2 := D1.out.ac.cell (j := 2) rfl
    have x0 := D1.out.x.cell (j := 0) rfl
    have x1 := D1.out.x.cell (j := 1) rfl
    have x2 := D1.out.x.cell (j := 2) rfl
    have f0 := D1.out.x.free 0
    have f1 := D1.out.x.free 1
    have f2 := D1.out.x.free 2
    clear hb1 h1
    go_wp2_with fail
    have D2 := Lib.hid (D1.out.putX rfl (.slice A1 o.1.ins.length c1) (.slice B1 o.1.holds.length d1) o.1.out)
    have H2 := Lib.hid (H1.out.put D1.out.x (.slice A1 o.1.ins.length c1) (.slice B1 o.1.holds.length d1) o.1.out)
    clear z0 z1 z2 y0 y1 y2 x0 x1 x2 f0 f1 f2
    refine (HY.out _ D2.out.below).mono ?_
    rintro e w3 ⟨A2, c2, B2, d2, rfl, h3, hb3⟩
    have D3 := Lib.hid (D2.out.next hb3)
    have H3 := Lib.hid h3
    have H3' := Lib.hid (H2.out.next hb3)
    have x0 := D3.out.y.cell (j := 0) rfl
    have x1 := D3.out.y.cell (j := 1) rfl
    have x2 := D3.out.y.cell (j := 2) rfl
    have f0 := D3.out.y.free 0
    have f1 := D3.out.y.free 1
    have f2 := D3.out.y.free 2
    clear hb3 h3
    go_wp2_with fail
    obtain ⟨w4, hw4⟩ : ∃ w4, w4 = setM3 w3 (w.heap.size + 5) (.slice A2 o.1.ins.length c2) (.slice B2 o.1.holds.length d2) o.1.out := ⟨_, rfl⟩
    have D4 := Lib.hid (D3.out.putY rfl (.slice A2 o.1.ins.length c2) (.slice B2 o.1.holds.length d2) o.1.out)
    have H4 := Lib.hid (H3.out.put D3.out.y (.slice A2 o.1.ins.length c2) (.slice B2 o.1.holds.length d2) o.1.out)
    have H4' := Lib.hid (H3'.out.put D3.out.y (.slice A2 o.1.ins.length c2) (.slice B2 o.1.holds.length d2) o.1.out)
    rw [← hw4] at D4 H4 H4'
    unfold setM3 at hw4
    rw [← hw4]
    clear hw4 x0 x1 x2 f0 f1 f2
    have x0 := D4.out.x.cell (j := 0) rfl
    have x1 := D4.out.x.cell (j := 1) rfl
    have x2 := D4.out.x.cell (j := 2) rfl
    have y0 := D4.out.y.cell (j := 0) rfl
    have y1 := D4.out.y.cell (j := 1) rfl
    have y2 := D4.out.y.cell (j := 2) rfl
    have q0 := D4.out.r4.cell (j := 0) rfl
    have q1 := D4.out.r4.cell (j := 1) rfl
    have q2 := D4.out.r4.cell (j := 2) rfl
    have p0 := D4.out.r6.cell (j := 0) rfl
    have p1 := D4.out.r6.cell (j := 1) rfl
    have p2 := D4.out.r6.cell (j := 2) rfl
    have f0 := D4.out.r4.free 0
    have f1 := D4.out.r4.free 1
    have f2 := D4.out.r4.free 2
    have g0 := D4.out.r6.free 0
    have g1 := D4.out.r6.free 1
    have g2 := D4.out.r6.free 2
    go_region
    all_goals (
      go_wp2_with fail
      simp only [Nat.add_assoc, Nat.reduceAdd, setM3_def]
      have L6 := lies_otherM D4.out.r6 (show w.heap.size + 3 ≠ w.heap.size + 2 by omega) (.slice A1 o.1.ins.length c1) (.slice B1 o.1.holds.length d1) o.1.out
      have X1 := (H4'.out.put D4.out.r4 (.slice A1 o.1.ins.length c1) (.slice B1 o.1.holds.length d1) o.1.out).put L6 (.slice A2 o.1.ins.length c2) (.slice B2 o.1.holds.length d2) o.1.out
      have X2 := (H4.out.put D4.out.r4 (.slice A1 o.1.ins.length c1) (.slice B1 o.1.holds.length d1) o.1.out).put L6 (.slice A2 o.1.ins.length c2) (.slice B2 o.1.holds.length d2) o.1.out
      have B5 := below_setM3 (below_setM3 D4.out.below (show w.heap.size ≤ w.heap.size + 2 by omega) (.slice A1 o.1.ins.length c1) (.slice B1 o.1.holds.length d1) o.1.out) (show w.heap.size ≤ w.heap.size + 3 by omega) (.slice A2 o.1.ins.length c2) (.slice B2 o.1.holds.length d2) o.1.out
      have L4 := lies_otherM (lies_setM3 D4.out.r4 (.slice A1 o.1.ins.length c1) (.slice B1 o.1.holds.length d1) o.1.out) (show w.heap.size + 2 ≠ w.heap.size + 3 by omega) (.slice A2 o.1.ins.length c2) (.slice B2 o.1.holds.length d2) o.1.out
      have L7 := lies_setM3 L6 (.slice A2 o.1.ins.length c2) (.slice B2 o.1.holds.length d2) o.1.out
      refine do_ret (R := w.heap.size + 2) (S := w.heap.size + 3) (o := o) (A := A1) (c := c1) (B := B1) (d := d1) (A' := A2) (c' := c2) (B' := B2) (d' := d2) ?_ ?_ ?_ ?_ ?_ ?_ ?_ ?_ ?_ ?_
      · rfl
      · rfl
      · rfl
      · rfl
      · rfl
      · exact lies_drew L4
      · exact lies_drew L7
      · exact X1.next (below_drewOf (Below.refl _ _))
      · exact X2.next (below_drewOf (Below.refl _ _))
      · exact below_drewOf B5)
  · have HX := Lib.hid (fun w' (hb : Below w.heap.size w w') => ckHold m A c B d no t w' (h.next hb))
    have HY := Lib.hid (fun w' (hb : Below w.heap.size w w') => rfHoldM m A c B d no t w' (h.next hb))
    have hO : doM m wh no t = holdM m no t := by unfold doM; rw [if_neg h0, if_neg h1, if_pos h2]
    obtain ⟨o, ho⟩ : ∃ o, o = holdM m no t := ⟨_, rfl⟩
    rw [← ho] at HX HY hO
    rw [hO]
    clear ho hO h hl
    have e0 : (wh == 0) = false := ne_b h0
    have e1 : (wh == 1) = false := ne_b h1
    have e2 : (wh == 2) = true := eq_b h2
    clear h0 h1 h2
    go_enter Try.func15, Try.ntmps15
    go_wp2_with fail
    refine (HX.out _ D0.out.below).mono ?_
    rintro e w1 ⟨A1, c1, B1, d1, rfl, h1, hb1⟩
    have D1 := Lib.hid (D0.out.next hb1)
    have H1 := Lib.hid h1
    obtain ⟨z0, z1, z2⟩ := D1.out.ma.cells
    have y0 := D1.out.ac.cell (j := 0) rfl
    have y1 := D1.out.ac.cell (j := 1) rfl
    have y2 := D1.out.ac.cell (j := 2) rfl
    have x0 := D1.out.x.cell (j := 0) rfl
    have x1 := D1.out.x.cell (j := 1) rfl
    have x2 := D1.out.x.cell (j := 2) rfl
    have f0 := D1.out.x.free 0
    have f1 := D1.out.x.free 1
    have f2 := D1.out.x.free 2
    clear hb1 h1
    go_wp2_with fail
    have D2 := Lib.hid (D1.out.putX rfl (.slice A1 o.1.ins.length c1) (.slice B1 o.1.holds.length d1) o.1.out)
    have H2 := Lib.hid (H1.out.put D1.out.x (.slice A1 o.1.ins.length c1) (.slice B1 o.1.holds.length d1) o.1.out)
    clear z0 z1 z2 y0 y1 y2 x0 x1 x2 f0 f1 f2
    refine (HY.out _ D2.out.below).mono ?_
    rintro e w3 ⟨A2, c2, B2, d2, rfl, h3, hb3⟩
    have D3 := Lib.hid (D2.out.next hb3)
    have H3 := Lib.hid h3
    have H3' := Lib.hid (H2.out.next hb3)
    have x0 := D3.out.y.cell (j := 0) rfl
    have x1 := D3.out.y.cell (j := 1) rfl
    have x2 := D3.out.y.cell (j := 2) rfl
    have f0 := D3.out.y.free 0
    have f1 := D3.out.y.free 1
    have f2 := D3.out.y.free 2
    clear hb3 h3
    go_wp2_with fail
    obtain ⟨w4, hw4⟩ : ∃ w4, w4 = setM3 w3 (w.heap.size + 5) (.slice A2 o.1.ins.length c2) (.slice B2 o.1.holds.length d2) o.1.out := ⟨_, rfl⟩
    have D4 := Lib.hid (D3.out.putY rfl (.slice A2 o.1.ins.length c2) (.slice B2 o.1.holds.length d2) o.1.out)
    have H4 := Lib.hid (H3.out.put D3.out.y (.slice A2 o.1.ins.length c2) (.slice B2 o.1.holds.length d2) o.1.out)
    have H4' := Lib.hid (H3'.out.put D3.out.y (.slice A2 o.1.ins.length c2) (.slice B2 o.1.holds.length d2) o.1.out)
    rw [← hw4] at D4 H4 H4'
    unfold setM3 at hw4
    rw [← hw4]
    clear hw4 x0 x1 x2 f0 f1 f2
    have x0 := D4.out.x.cell (j := 0) rfl
    have x1 := D4.out.x.cell (j := 1) rfl
    have x2 := D4.out.x.cell (j := 2) rfl
    have y0 := D4.out.y.cell (j := 0) rfl
    have y1 := D4.out.y.cell (j := 1) rfl
    have y2 := D4.out.y.cell (j := 2) rfl
    have q0 := D4.out.r4.cell (j := 0) rfl
    have q1 := D4.out.r4.cell (j := 1) rfl
    have q2 := D4.out.r4.cell (j := 2) rfl
    have p0 := D4.out.r6.cell (j := 0) rfl
    have p1 := D4.out.r6.cell (j := 1) rfl
    have p2 := D4.out.r6.cell (j := 2) rfl
    have f0 := D4.out.r4.free 0
    have f1 := D4.out.r4.free 1
    have f2 := D4.out.r4.free 2
    have g0 := D4.out.r6.free 0
    have g1 := D4.out.r6.free 1
    have g2 := D4.out.r6.free 2
    go_region
    all_goals (
      go_wp2_with fail
      simp only [Nat.add_assoc, Nat.reduceAdd, setM3_def]
      have L6 := lies_otherM D4.out.r6 (show w.heap.size + 3 ≠ w.heap.size + 2 by omega) (.slice A1 o.1.ins.length c1) (.slice B1 o.1.holds.length d1) o.1.out
      have X1 := (H4'.out.put D4.out.r4 (.slice A1 o.1.ins.length c1) (.slice B1 o.1.holds.length d1) o.1.out).put L6 (.slice A2 o.1.ins.length c2) (.slice B2 o.1.holds.length d2) o.1.out
      have X2 := (H4.out.put D4.out.r4 (.slice A1 o.1.ins.length c1) (.slice B1 o.1.holds.length d1) o.1.out).put L6 (.slice A2 o.1.ins.length c2) (.slice B2 o.1.holds.length d2) o.1.out
      have B5 := below_setM3 (below_setM3 D4.out.below (show w.heap.size ≤ w.heap.size + 2 by omega) (.slice A1 o.1.ins.length c1) (.slice B1 o.1.holds.length d1) o.1.out) (show w.heap.size ≤ w.heap.size + 3 by omega) (.slice A2 o.1.ins.length c2) (.slice B2 o.1.holds.length d2) o.1.out
      have L4 := lies_otherM (lies_setM3 D4.out.r4 (.slice A1 o.1.ins.length c1) (.slice B1 o.1.holds.length d1) o.1.out) (show w.heap.size + 2 ≠ w.heap.size + 3 by omega) (.slice A2 o.1.ins.length c2) (.slice B2 o.1.holds.length d2) o.1.out
      have L7 := lies_setM3 L6 (.slice A2 o.1.ins.length c2) (.slice B2 o.1.holds.length d2) o.1.out
      refine do_ret (R := w.heap.size + 2) (S := w.heap.size + 3) (o := o) (A := A1) (c := c1) (B := B1) (d := d1) (A' := A2) (c' := c2) (B' := B2) (d' := d2) ?_ ?_ ?_ ?_ ?_ ?_ ?_ ?_ ?_ ?_
      · rfl
      · rfl
      · rfl
      · rfl
      · rfl
      · exact lies_drew L4
      · exact lies_drew L7
      · exact X1.next (below_drewOf (Below.refl _ _))
      · exact X2.next (below_drewOf (Below.refl _ _))
      · exact below_drewOf B5)
  · have HX := Lib.hid (fun w' (hb : Below w.heap.size w w') => ckFree m A c B d no w' (h.next hb) hl)
    have HY := Lib.hid (fun w' (hb : Below w.heap.size w w') => rfFreeM m A c B d no w' (h.next hb) hl)
    have hO : doM m wh no t = freeM m no := by unfold doM; rw [if_neg h0, if_neg h1, if_neg h2]
    obtain ⟨o, ho⟩ : ∃ o, o = freeM m no := ⟨_, rfl⟩
    rw [← ho] at HX HY hO
    rw [hO]
    clear ho hO h hl
    have e0 : (wh == 0) = false := ne_b h0
    have e1 : (wh == 1) = false := ne_b h1
    have e2 : (wh == 2) = false := ne_b h2
    clear h0 h1 h2
    go_enter Try.func15, Try.ntmps15
    go_wp2_with fail
    refine (HX.out _ D0.out.below).mono ?_
    rintro e w1 ⟨A1, c1, B1, d1, rfl, h1, hb1⟩
    have D1 := Lib.hid (D0.out.next hb1)
    have H1 := Lib.hid h1
    obtain ⟨z0, z1, z2⟩ := D1.out.ma.cells
    have y0 := D1.out.ac.cell (j := 0) rfl
    have y1 := D1.out.ac.cell (j := 1) rfl
    have y2 := D1.out.ac.cell (j := 2) rfl
    have x0 := D1.out.x.cell (j := 0) rfl
    have x1 := D1.out.x.cell (j := 1) rfl
    have x2 := D1.out.x.cell (j := 2) rfl
    have f0 := D1.out.x.free 0
    have f1 := D1.out.x.free 1
    have f2 := D1.out.x.free 2
    clear hb1 h1
    go_wp2_with fail
    have D2 := Lib.hid (D1.out.putX rfl (.slice A1 o.1.ins.length c1) (.slice B1 o.1.holds.length d1) o.1.out)
    have H2 := Lib.hid (H1.out.put D1.out.x (.slice A1 o.1.ins.length c1) (.slice B1 o.1.holds.length d1) o.1.out)
    clear z0 z1 z2 y0 y1 y2 x0 x1 x2 f0 f1 f2
    refine (HY.out _ D2.out.below).mono ?_
    rintro e w3 ⟨A2, c2, B2, d2, rfl, h3, hb3⟩
    have D3 := Lib.hid (D2.out.next hb3)
    have H3 := Lib.hid h3
    have H3' := Lib.hid (H2.out.next hb3)
    have x0 := D3.out.y.cell (j := 0) rfl
    have x1 := D3.out.y.cell (j := 1) rfl
    have x2 := D3.out.y.cell (j := 2) rfl
    have f0 := D3.out.y.free 0
    have f1 := D3.out.y.free 1
    have f2 := D3.out.y.free 2
    clear hb3 h3
    go_wp2_with fail
    obtain ⟨w4, hw4⟩ : ∃ w4, w4 = setM3 w3 (w.heap.size + 5) (.slice A2 o.1.ins.length c2) (.slice B2 o.1.holds.length d2) o.1.out := ⟨_, rfl⟩
    have D4 := Lib.hid (D3.out.putY rfl (.slice A2 o.1.ins.length c2) (.slice B2 o.1.holds.length d2) o.1.out)
    have H4 := Lib.hid (H3.out.put D3.out.y (.slice A2 o.1.ins.length c2) (.slice B2 o.1.holds.length d2) o.1.out)
    have H4' := Lib.hid (H3'.out.put D3.out.y (.slice A2 o.1.ins.length c2) (.slice B2 o.1.holds.length d2) o.1.out)
    rw [← hw4] at D4 H4 H4'
    unfold setM3 at hw4
    rw [← hw4]
    clear hw4 x0 x1 x2 f0 f1 f2
    have x0 := D4.out.x.cell (j := 0) rfl
    have x1 := D4.out.x.cell (j := 1) rfl
    have x2 := D4.out.x.cell (j := 2) rfl
    have y0 := D4.out.y.cell (j := 0) rfl
    have y1 := D4.out.y.cell (j := 1) rfl
    have y2 := D4.out.y.cell (j := 2) rfl
    have q0 := D4.out.r4.cell (j := 0) rfl
    have q1 := D4.out.r4.cell (j := 1) rfl
    have q2 := D4.out.r4.cell (j := 2) rfl
    have p0 := D4.out.r6.cell (j := 0) rfl
    have p1 := D4.out.r6.cell (j := 1) rfl
    have p2 := D4.out.r6.cell (j := 2) rfl
    have f0 := D4.out.r4.free 0
    have f1 := D4.out.r4.free 1
    have f2 := D4.out.r4.free 2
    have g0 := D4.out.r6.free 0
    have g1 := D4.out.r6.free 1
    have g2 := D4.out.r6.free 2
    go_region
    all_goals (
      go_wp2_with fail
      simp only [Nat.add_assoc, Nat.reduceAdd, setM3_def]
      have L6 := lies_otherM D4.out.r6 (show w.heap.size + 3 ≠ w.heap.size + 2 by omega) (.slice A1 o.1.ins.length c1) (.slice B1 o.1.holds.length d1) o.1.out
      have X1 := (H4'.out.put D4.out.r4 (.slice A1 o.1.ins.length c1) (.slice B1 o.1.holds.length d1) o.1.out).put L6 (.slice A2 o.1.ins.length c2) (.slice B2 o.1.holds.length d2) o.1.out
      have X2 := (H4.out.put D4.out.r4 (.slice A1 o.1.ins.length c1) (.slice B1 o.1.holds.length d1) o.1.out).put L6 (.slice A2 o.1.ins.length c2) (.slice B2 o.1.holds.length d2) o.1.out
      have B5 := below_setM3 (below_setM3 D4.out.below (show w.heap.size ≤ w.heap.size + 2 by omega) (.slice A1 o.1.ins.length c1) (.slice B1 o.1.holds.length d1) o.1.out) (show w.heap.size ≤ w.heap.size + 3 by omega) (.slice A2 o.1.ins.length c2) (.slice B2 o.1.holds.length d2) o.1.out
      have L4 := lies_otherM (lies_setM3 D4.out.r4 (.slice A1 o.1.ins.length c1) (.slice B1 o.1.holds.length d1) o.1.out) (show w.heap.size + 2 ≠ w.heap.size + 3 by omega) (.slice A2 o.1.ins.length c2) (.slice B2 o.1.holds.length d2) o.1.out
      have L7 := lies_setM3 L6 (.slice A2 o.1.ins.length c2) (.slice B2 o.1.holds.length d2) o.1.out
      refine do_ret (R := w.heap.size + 2) (S := w.heap.size + 3) (o := o) (A := A1) (c := c1) (B := B1) (d := d1) (A' := A2) (c' := c2) (B' := B2) (d' := d2) ?_ ?_ ?_ ?_ ?_ ?_ ?_ ?_ ?_ ?_
      · rfl
      · rfl
      · rfl
      · rfl
      · rfl
      · exact lies_drew L4
      · exact lies_drew L7
      · exact X1.next (below_drewOf (Below.refl _ _))
      · exact X2.next (below_drewOf (Below.refl _ _))
      · exact below_drewOf B5)
end Wm
end Go.Proofs.Ytciagbeamphihaa
