/- Parse of the reference. -/
import Derived.Test.YtileonenphmkkaaDoorJobRefF
import Derived.Test.YtileonenphmkkaaDoorJobRef
import Derived.Test.YtileonenphmkkaaDoorJobParse
import Derived.Deep.RegionHeld3
namespace Go.Proofs.YtileonenphmkkaaDoor
open Go.RowKit
set_option linter.unusedVariables false
set_option maxRecDepth 8000
namespace Jo
open Gen
theorem rparse_ret {j : Jb} {er k : Int} {rb : Nat} {w : World} {act : Act} {Q : Ending → World → Prop} (ht : act.tmps.getD 2 undef = .pointer (some ⟨rb, 0, none⟩)) (h3 : act.tmps.getD 3 undef = .int .i64 er) (h4 : act.tmps.getD 4 undef = .int .i64 k) (hd : act.defers = []) (hl : Lies rb (jbC j) 23 w) (h : Q (.returned (.tuple #[jbV j, .int .i64 er, .int .i64 k])) w) :
    bodyPost Tryd.prog Tryd.f13 Q Exit.ret act w := by
  have c0 : w.cell? ⟨rb, 0, none⟩ = some (.int .i64 j.groups) := hl.cell (j := 0) rfl
  have c1 : w.cell? ⟨rb, 1, none⟩ = some (.int .i64 j.size) := hl.cell (j := 1) rfl
  have c2 : w.cell? ⟨rb, 2, none⟩ = some (.int .i64 j.slide) := hl.cell (j := 2) rfl
  have c3 : w.cell? ⟨rb, 3, none⟩ = some (.int .i64 j.fold) := hl.cell (j := 3) rfl
  have c4 : w.cell? ⟨rb, 4, none⟩ = some (.int .i64 j.fuel) := hl.cell (j := 4) rfl
  have c5 : w.cell? ⟨rb, 5, none⟩ = some (.int .i64 j.limit) := hl.cell (j := 5) rfl
  have c6 : w.cell? ⟨rb, 6, none⟩ = some (.int .i64 j.delay) := hl.cell (j := 6) rfl
  have c7 : w.cell? ⟨rb, 7, none⟩ = some (.int .i64 j.idle) := hl.cell (j := 7) rfl
  have ht2 : act.tmps[2]?.getD undef = .pointer (some ⟨rb, 0, none⟩) := by simpa using ht
  have ht3 : act.tmps[3]?.getD undef = .int .i64 er := by simpa using h3
  have ht4 : act.tmps[4]?.getD undef = .int .i64 k := by simpa using h4
  exact bodyPost_ret (v := .tuple #[jbV j, .int .i64 er, .int .i64 k]) (by simp [results, Tryd.results13, go_sem, ht2, ht3, ht4, c0, c1, c2, c3, c4, c5, c6, c7]) hd h
/-- The two blocks of a call of Parse, and what was stays. -/
structure Ps (w0 w : World) : Prop where
  a : Lies w0.heap.size zJb 23 w
  b : Lies (w0.heap.size + 1) zJb 23 w
  bl : Below w0.heap.size w0 w
theorem Ps.next {w0 w w' : World} (h : Ps w0 w) (hb : Below w.heap.size w w') : Ps w0 w' :=
  ⟨(hb.block _ (lt_of_block h.a)).trans h.a, (hb.block _ (lt_of_block h.b)).trans h.b, below_next h.bl hb⟩
/-- One number in a row, two numbers. -/
theorem row1 {w : World} {A : Option Addr} {n : Int} (h : Row w A (iv [n])) : ∃ b o, A = some ⟨b, o, none⟩ ∧ w.cell? ⟨b, o, none⟩ = some (.int .i64 n) := by
  obtain ⟨b, o, rfl, h1⟩ := h.at_ (k := 0) (by simp)
  exact ⟨b, o, rfl, by simpa using h1⟩
theorem row2 {w : World} {A : Option Addr} {n m : Int} (h : Row w A (iv [n, m])) : ∃ b o, A = some ⟨b, o, none⟩ ∧ w.cell? ⟨b, o, none⟩ = some (.int .i64 n) ∧ w.cell? ⟨b, o + 1, none⟩ = some (.int .i64 m) := by
  obtain ⟨b, o, rfl, h1⟩ := h.at_ (k := 0) (by simp)
  obtain ⟨b', o', e, h2⟩ := h.at_ (k := 1) (by simp)
  cases e
  exact ⟨b, o, rfl, by simpa using h1, by simpa using h2⟩
theorem cell_up {w w' : World} {p : Addr} {u : Value} (h : w.cell? p = some u) (hb : Below w.heap.size w w') : w'.cell? p = some u := (hb.cell (lt_of_cell h)).trans h
theorem rd7 {WW : World} {b1 o1 b2 o2 b4 o4 b5 o5 b6 o6 g a c l f d i : Nat} {w w' : World} (h : w.cell? ⟨b1, o1, none⟩ = some (.int .i64 (g : Int)) ∧ w.cell? ⟨b2, o2, none⟩ = some (.int .i64 (a : Int)) ∧ w.cell? ⟨b2, o2 + 1, none⟩ = some (.int .i64 (c : Int)) ∧ w.cell? ⟨b4, o4, none⟩ = some (.int .i64 (l : Int)) ∧ w.cell? ⟨b4, o4 + 1, none⟩ = some (.int .i64 (f : Int)) ∧ w.cell? ⟨b5, o5, none⟩ = some (.int .i64 (d : Int)) ∧ w.cell? ⟨b6, o6, none⟩ = some (.int .i64 (i : Int)) ∧ Below WW.heap.size WW w) (hb : Below w.heap.size w w') : w'.cell? ⟨b1, o1, none⟩ = some (.int .i64 (g : Int)) ∧ w'.cell? ⟨b2, o2, none⟩ = some (.int .i64 (a : Int)) ∧ w'.cell? ⟨b2, o2 + 1, none⟩ = some (.int .i64 (c : Int)) ∧ w'.cell? ⟨b4, o4, none⟩ = some (.int .i64 (l : Int)) ∧ w'.cell? ⟨b4, o4 + 1, none⟩ = some (.int .i64 (f : Int)) ∧ w'.cell? ⟨b5, o5, none⟩ = some (.int .i64 (d : Int)) ∧ w'.cell? ⟨b6, o6, none⟩ = some (.int .i64 (i : Int)) ∧ Below WW.heap.size WW w' :=
  ⟨cell_up h.1 hb, cell_up h.2.1 hb, cell_up h.2.2.1 hb, cell_up h.2.2.2.1 hb, cell_up h.2.2.2.2.1 hb, cell_up h.2.2.2.2.2.1 hb, cell_up h.2.2.2.2.2.2.1 hb, below_next h.2.2.2.2.2.2.2 hb⟩
theorem rd7d {WW : World} {b1 o1 b2 o2 b4 o4 b5 o5 b6 o6 g a c l f d i : Nat} {w : World} {o : Obj} (h : w.drew.cell? ⟨b1, o1, none⟩ = some (.int .i64 (g : Int)) ∧ w.drew.cell? ⟨b2, o2, none⟩ = some (.int .i64 (a : Int)) ∧ w.drew.cell? ⟨b2, o2 + 1, none⟩ = some (.int .i64 (c : Int)) ∧ w.drew.cell? ⟨b4, o4, none⟩ = some (.int .i64 (l : Int)) ∧ w.drew.cell? ⟨b4, o4 + 1, none⟩ = some (.int .i64 (f : Int)) ∧ w.drew.cell? ⟨b5, o5, none⟩ = some (.int .i64 (d : Int)) ∧ w.drew.cell? ⟨b6, o6, none⟩ = some (.int .i64 (i : Int)) ∧ Below WW.heap.size WW w.drew) : (w.alloc o).drew.cell? ⟨b1, o1, none⟩ = some (.int .i64 (g : Int)) ∧ (w.alloc o).drew.cell? ⟨b2, o2, none⟩ = some (.int .i64 (a : Int)) ∧ (w.alloc o).drew.cell? ⟨b2, o2 + 1, none⟩ = some (.int .i64 (c : Int)) ∧ (w.alloc o).drew.cell? ⟨b4, o4, none⟩ = some (.int .i64 (l : Int)) ∧ (w.alloc o).drew.cell? ⟨b4, o4 + 1, none⟩ = some (.int .i64 (f : Int)) ∧ (w.alloc o).drew.cell? ⟨b5, o5, none⟩ = some (.int .i64 (d : Int)) ∧ (w.alloc o).drew.cell? ⟨b6, o6, none⟩ = some (.int .i64 (i : Int)) ∧ Below WW.heap.size WW (w.alloc o).drew := rd7 h (below_al (b := w.drew) (o := o) (Below.refl _ _))
theorem rd7s {WW : World} {b1 o1 b2 o2 b4 o4 b5 o5 b6 o6 g a c l f d i : Nat} {w : World} (B : Nat) (h : w.cell? ⟨b1, o1, none⟩ = some (.int .i64 (g : Int)) ∧ w.cell? ⟨b2, o2, none⟩ = some (.int .i64 (a : Int)) ∧ w.cell? ⟨b2, o2 + 1, none⟩ = some (.int .i64 (c : Int)) ∧ w.cell? ⟨b4, o4, none⟩ = some (.int .i64 (l : Int)) ∧ w.cell? ⟨b4, o4 + 1, none⟩ = some (.int .i64 (f : Int)) ∧ w.cell? ⟨b5, o5, none⟩ = some (.int .i64 (d : Int)) ∧ w.cell? ⟨b6, o6, none⟩ = some (.int .i64 (i : Int)) ∧ Below WW.heap.size WW w) (hB : WW.heap.size ≤ B) (l1 : b1 < WW.heap.size) (l2 : b2 < WW.heap.size) (l4 : b4 < WW.heap.size) (l5 : b5 < WW.heap.size) (l6 : b6 < WW.heap.size) (v0 v1 v2 v3 v4 v5 v6 v7 : Value) : (set8 w B v0 v1 v2 v3 v4 v5 v6 v7).cell? ⟨b1, o1, none⟩ = some (.int .i64 (g : Int)) ∧ (set8 w B v0 v1 v2 v3 v4 v5 v6 v7).cell? ⟨b2, o2, none⟩ = some (.int .i64 (a : Int)) ∧ (set8 w B v0 v1 v2 v3 v4 v5 v6 v7).cell? ⟨b2, o2 + 1, none⟩ = some (.int .i64 (c : Int)) ∧ (set8 w B v0 v1 v2 v3 v4 v5 v6 v7).cell? ⟨b4, o4, none⟩ = some (.int .i64 (l : Int)) ∧ (set8 w B v0 v1 v2 v3 v4 v5 v6 v7).cell? ⟨b4, o4 + 1, none⟩ = some (.int .i64 (f : Int)) ∧ (set8 w B v0 v1 v2 v3 v4 v5 v6 v7).cell? ⟨b5, o5, none⟩ = some (.int .i64 (d : Int)) ∧ (set8 w B v0 v1 v2 v3 v4 v5 v6 v7).cell? ⟨b6, o6, none⟩ = some (.int .i64 (i : Int)) ∧ Below WW.heap.size WW (set8 w B v0 v1 v2 v3 v4 v5 v6 v7) := by
  have hm := mine8 (b := B) w v0 v1 v2 v3 v4 v5 v6 v7
  refine ⟨hm.cell h.1 (by show ¬ b1 = B; omega), hm.cell h.2.1 (by show ¬ b2 = B; omega), hm.cell h.2.2.1 (by show ¬ b2 = B; omega), hm.cell h.2.2.2.1 (by show ¬ b4 = B; omega), hm.cell h.2.2.2.2.1 (by show ¬ b4 = B; omega), hm.cell h.2.2.2.2.2.1 (by show ¬ b5 = B; omega), hm.cell h.2.2.2.2.2.2.1 (by show ¬ b6 = B; omega), ?_⟩
  exact Mine.below h.2.2.2.2.2.2.2 hm (fun k hk => by subst hk; exact hB) h.2.2.2.2.2.2.2.size
set_option maxHeartbeats 4000000 in
theorem rParse (s : List UInt8) (hs : s.length ≤ 140737488355328) (w : World) :
    Calls Tryd.prog 13 #[strv s] w (TellsP (parse s) w) := by
  have HN := Lib.hid (fun wd s m hm hs w => rNumbers wd s m hm hs w)
  have HFo := Lib.hid (fun s hs w => rFoldL s hs w)
  have HSm := Lib.hid (fun n w => rSmall n w)
  have HR := Lib.hid (fun j w => rRight j w)
  have P0 := Lib.hid (show Ps w ((w.alloc (.cells zJb 23)).alloc (.cells zJb 23)) from
    ⟨Lies.al (Lies.new w zJb 23), by have := Lies.new (w.alloc (.cells zJb 23)) zJb 23; simpa using this, below_al (below_al (Below.refl _ _))⟩)
  have L0 := Lib.hid hs
  obtain ⟨p, hp⟩ : ∃ p, p = parse s := ⟨_, rfl⟩
  have HP := Lib.hid hp
  rw [← hp]
  clear hs hp
  go_enter Tryd.func13, Tryd.ntmps13
  go_wp2_with fail
  refine (HN.out wGroups s 1 (by omega) L0.out _).mono ?_
  rintro e w1 ⟨v1, s1, q1, rfl, hb1, hc1⟩
  have P1 := Lib.hid (P0.out.next hb1)
  clear hb1
  rcases hc1 with ⟨hx1, rfl⟩ | ⟨ns1, A1, c1, hx1, rfl, rfl, hl1, hr1⟩
  · have hpp : p = .line 1 := by
      rw [HP.out]; unfold parse
      simp only [lnN1_none hx1]
    have PP := Lib.hid hpp
    clear hpp hx1
    have LA := Lib.hid P1.out.a
    have LB := Lib.hid P1.out.b
    have z0 := LA.out.cell (j := 0) rfl
    have f0 := LA.out.free 0
    have z1 := LA.out.cell (j := 1) rfl
    have f1 := LA.out.free 1
    have z2 := LA.out.cell (j := 2) rfl
    have f2 := LA.out.free 2
    have z3 := LA.out.cell (j := 3) rfl
    have f3 := LA.out.free 3
    have z4 := LA.out.cell (j := 4) rfl
    have f4 := LA.out.free 4
    have z5 := LA.out.cell (j := 5) rfl
    have f5 := LA.out.free 5
    have z6 := LA.out.cell (j := 6) rfl
    have f6 := LA.out.free 6
    have z7 := LA.out.cell (j := 7) rfl
    have f7 := LA.out.free 7
    have y0 := LB.out.cell (j := 0) rfl
    have y1 := LB.out.cell (j := 1) rfl
    have y2 := LB.out.cell (j := 2) rfl
    have y3 := LB.out.cell (j := 3) rfl
    have y4 := LB.out.cell (j := 4) rfl
    have y5 := LB.out.cell (j := 5) rfl
    have y6 := LB.out.cell (j := 6) rfl
    have y7 := LB.out.cell (j := 7) rfl
    go_wp2_with fail
    refine rparse_ret (j := zJ) (er := 131) (k := 1) (rb := w.heap.size) rfl rfl rfl rfl (lies8 LA.out _ _ _ _ _ _ _ _) ?_
    rw [PP.out]
    exact ⟨rfl, below8 P1.out.bl (Nat.le_refl _) _ _ _ _ _ _ _ _⟩
  obtain ⟨g, hy1, rfl⟩ := lnN1_some hx1
  obtain ⟨b1, o1, rfl, hz1⟩ := row1 hr1
  have H1 := Lib.hid hy1
  have L1 := Lib.hid (Nat.le_trans (ln1_len hy1) L0.out)
  have C10w1 := Lib.hid hz1
  clear hx1 hy1 hr1 hz1 hl1
  go_wp2_with fail
  refine (HN.out wWindow s1 2 (by omega) L1.out _).mono ?_
  rintro e w2 ⟨v2, s2, q2, rfl, hb2, hc2⟩
  have P2 := Lib.hid (P1.out.next hb2)
  have C10w2 := Lib.hid (cell_up C10w1.out hb2)
  clear hb2
  rcases hc2 with ⟨hx2, rfl⟩ | ⟨ns2, A2, c2, hx2, rfl, rfl, hl2, hr2⟩
  · have hpp : p = .line 2 := by
      rw [HP.out]; unfold parse
      simp only [H1.out, lnN2_none hx2]
    have PP := Lib.hid hpp
    clear hpp hx2
    have LA := Lib.hid P2.out.a
    have LB := Lib.hid P2.out.b
    have z0 := LA.out.cell (j := 0) rfl
    have f0 := LA.out.free 0
    have z1 := LA.out.cell (j := 1) rfl
    have f1 := LA.out.free 1
    have z2 := LA.out.cell (j := 2) rfl
    have f2 := LA.out.free 2
    have z3 := LA.out.cell (j := 3) rfl
    have f3 := LA.out.free 3
    have z4 := LA.out.cell (j := 4) rfl
    have f4 := LA.out.free 4
    have z5 := LA.out.cell (j := 5) rfl
    have f5 := LA.out.free 5
    have z6 := LA.out.cell (j := 6) rfl
    have f6 := LA.out.free 6
    have z7 := LA.out.cell (j := 7) rfl
    have f7 := LA.out.free 7
    have y0 := LB.out.cell (j := 0) rfl
    have y1 := LB.out.cell (j := 1) rfl
    have y2 := LB.out.cell (j := 2) rfl
    have y3 := LB.out.cell (j := 3) rfl
    have y4 := LB.out.cell (j := 4) rfl
    have y5 := LB.out.cell (j := 5) rfl
    have y6 := LB.out.cell (j := 6) rfl
    have y7 := LB.out.cell (j := 7) rfl
    go_wp2_with fail
    refine rparse_ret (j := zJ) (er := 131) (k := 2) (rb := w.heap.size) rfl rfl rfl rfl (lies8 LA.out _ _ _ _ _ _ _ _) ?_
    rw [PP.out]
    exact ⟨rfl, below8 P2.out.bl (Nat.le_refl _) _ _ _ _ _ _ _ _⟩
  obtain ⟨a, c, hy2, rfl⟩ := lnN2_some hx2
  obtain ⟨b2, o2, rfl, hz2, hu2⟩ := row2 hr2
  have H2 := Lib.hid hy2
  have L2 := Lib.hid (Nat.le_trans (ln2_len hy2) L1.out)
  have C20w2 := Lib.hid hz2
  have C21w2 := Lib.hid hu2
  clear hx2 hy2 hr2 hz2 hu2 hl2
  go_wp2_with fail
  refine (HFo.out s2 L2.out _).mono ?_
  rintro e w3 ⟨hw3, hc3⟩
  have hb3 : Below w2.heap.size w2 w3 := hw3 ▸ Below.refl _ _
  clear hw3
  have P3 := Lib.hid (P2.out.next hb3)
  have C10w3 := Lib.hid (cell_up C10w2.out hb3)
  have C20w3 := Lib.hid (cell_up C20w2.out hb3)
  have C21w3 := Lib.hid (cell_up C21w2.out hb3)
  clear hb3
  have hc3' : (∃ n r, lnF s2 = some (n, r) ∧ e = .returned (.tuple #[.int .i64 (n : Int), strv r, .bool true])) ∨ (lnF s2 = none ∧ e = .returned (.tuple #[.int .i64 0, strv s2, .bool false])) := hc3
  clear hc3
  rcases hc3'.symm with ⟨hx3, rfl⟩ | ⟨k, s3, hx3, rfl⟩
  · have hpp : p = .line 3 := by
      rw [HP.out]; unfold parse
      simp only [H1.out, H2.out, hx3]
    have PP := Lib.hid hpp
    clear hpp hx3
    have LA := Lib.hid P3.out.a
    have LB := Lib.hid P3.out.b
    have z0 := LA.out.cell (j := 0) rfl
    have f0 := LA.out.free 0
    have z1 := LA.out.cell (j := 1) rfl
    have f1 := LA.out.free 1
    have z2 := LA.out.cell (j := 2) rfl
    have f2 := LA.out.free 2
    have z3 := LA.out.cell (j := 3) rfl
    have f3 := LA.out.free 3
    have z4 := LA.out.cell (j := 4) rfl
    have f4 := LA.out.free 4
    have z5 := LA.out.cell (j := 5) rfl
    have f5 := LA.out.free 5
    have z6 := LA.out.cell (j := 6) rfl
    have f6 := LA.out.free 6
    have z7 := LA.out.cell (j := 7) rfl
    have f7 := LA.out.free 7
    have y0 := LB.out.cell (j := 0) rfl
    have y1 := LB.out.cell (j := 1) rfl
    have y2 := LB.out.cell (j := 2) rfl
    have y3 := LB.out.cell (j := 3) rfl
    have y4 := LB.out.cell (j := 4) rfl
    have y5 := LB.out.cell (j := 5) rfl
    have y6 := LB.out.cell (j := 6) rfl
    have y7 := LB.out.cell (j := 7) rfl
    go_wp2_with fail
    refine rparse_ret (j := zJ) (er := 131) (k := 3) (rb := w.heap.size) rfl rfl rfl rfl (lies8 LA.out _ _ _ _ _ _ _ _) ?_
    rw [PP.out]
    exact ⟨rfl, below8 P3.out.bl (Nat.le_refl _) _ _ _ _ _ _ _ _⟩
  have H3 := Lib.hid hx3
  have L3 := Lib.hid (Nat.le_trans (lnF_len hx3) L2.out)
  clear hx3 hc3'
  go_wp2_with fail
  refine (HN.out wLoop s3 2 (by omega) L3.out _).mono ?_
  rintro e w4 ⟨v4, s4, q4, rfl, hb4, hc4⟩
  have P4 := Lib.hid (P3.out.next hb4)
  have C10w4 := Lib.hid (cell_up C10w3.out hb4)
  have C20w4 := Lib.hid (cell_up C20w3.out hb4)
  have C21w4 := Lib.hid (cell_up C21w3.out hb4)
  clear hb4
  rcases hc4 with ⟨hx4, rfl⟩ | ⟨ns4, A4, c4, hx4, rfl, rfl, hl4, hr4⟩
  · have hpp : p = .line 4 := by
      rw [HP.out]; unfold parse
      simp only [H1.out, H2.out, H3.out, lnN2_none hx4]
    have PP := Lib.hid hpp
    clear hpp hx4
    have LA := Lib.hid P4.out.a
    have LB := Lib.hid P4.out.b
    have z0 := LA.out.cell (j := 0) rfl
    have f0 := LA.out.free 0
    have z1 := LA.out.cell (j := 1) rfl
    have f1 := LA.out.free 1
    have z2 := LA.out.cell (j := 2) rfl
    have f2 := LA.out.free 2
    have z3 := LA.out.cell (j := 3) rfl
    have f3 := LA.out.free 3
    have z4 := LA.out.cell (j := 4) rfl
    have f4 := LA.out.free 4
    have z5 := LA.out.cell (j := 5) rfl
    have f5 := LA.out.free 5
    have z6 := LA.out.cell (j := 6) rfl
    have f6 := LA.out.free 6
    have z7 := LA.out.cell (j := 7) rfl
    have f7 := LA.out.free 7
    have y0 := LB.out.cell (j := 0) rfl
    have y1 := LB.out.cell (j := 1) rfl
    have y2 := LB.out.cell (j := 2) rfl
    have y3 := LB.out.cell (j := 3) rfl
    have y4 := LB.out.cell (j := 4) rfl
    have y5 := LB.out.cell (j := 5) rfl
    have y6 := LB.out.cell (j := 6) rfl
    have y7 := LB.out.cell (j := 7) rfl
    go_wp2_with fail
    refine rparse_ret (j := zJ) (er := 131) (k := 4) (rb := w.heap.size) rfl rfl rfl rfl (lies8 LA.out _ _ _ _ _ _ _ _) ?_
    rw [PP.out]
    exact ⟨rfl, below8 P4.out.bl (Nat.le_refl _) _ _ _ _ _ _ _ _⟩
  obtain ⟨l, f, hy4, rfl⟩ := lnN2_some hx4
  obtain ⟨b4, o4, rfl, hz4, hu4⟩ := row2 hr4
  have H4 := Lib.hid hy4
  have L4 := Lib.hid (Nat.le_trans (ln2_len hy4) L3.out)
  have C40w4 := Lib.hid hz4
  have C41w4 := Lib.hid hu4
  clear hx4 hy4 hr4 hz4 hu4 hl4
  go_wp2_with fail
  refine (HN.out wDelay s4 1 (by omega) L4.out _).mono ?_
  rintro e w5 ⟨v5, s5, q5, rfl, hb5, hc5⟩
  have P5 := Lib.hid (P4.out.next hb5)
  have C10w5 := Lib.hid (cell_up C10w4.out hb5)
  have C20w5 := Lib.hid (cell_up C20w4.out hb5)
  have C21w5 := Lib.hid (cell_up C21w4.out hb5)
  have C40w5 := Lib.hid (cell_up C40w4.out hb5)
  have C41w5 := Lib.hid (cell_up C41w4.out hb5)
  clear hb5
  rcases hc5 with ⟨hx5, rfl⟩ | ⟨ns5, A5, c5, hx5, rfl, rfl, hl5, hr5⟩
  · have hpp : p = .line 5 := by
      rw [HP.out]; unfold parse
      simp only [H1.out, H2.out, H3.out, H4.out, lnN1_none hx5]
    have PP := Lib.hid hpp
    clear hpp hx5
    have LA := Lib.hid P5.out.a
    have LB := Lib.hid P5.out.b
    have z0 := LA.out.cell (j := 0) rfl
    have f0 := LA.out.free 0
    have z1 := LA.out.cell (j := 1) rfl
    have f1 := LA.out.free 1
    have z2 := LA.out.cell (j := 2) rfl
    have f2 := LA.out.free 2
    have z3 := LA.out.cell (j := 3) rfl
    have f3 := LA.out.free 3
    have z4 := LA.out.cell (j := 4) rfl
    have f4 := LA.out.free 4
    have z5 := LA.out.cell (j := 5) rfl
    have f5 := LA.out.free 5
    have z6 := LA.out.cell (j := 6) rfl
    have f6 := LA.out.free 6
    have z7 := LA.out.cell (j := 7) rfl
    have f7 := LA.out.free 7
    have y0 := LB.out.cell (j := 0) rfl
    have y1 := LB.out.cell (j := 1) rfl
    have y2 := LB.out.cell (j := 2) rfl
    have y3 := LB.out.cell (j := 3) rfl
    have y4 := LB.out.cell (j := 4) rfl
    have y5 := LB.out.cell (j := 5) rfl
    have y6 := LB.out.cell (j := 6) rfl
    have y7 := LB.out.cell (j := 7) rfl
    go_wp2_with fail
    refine rparse_ret (j := zJ) (er := 131) (k := 5) (rb := w.heap.size) rfl rfl rfl rfl (lies8 LA.out _ _ _ _ _ _ _ _) ?_
    rw [PP.out]
    exact ⟨rfl, below8 P5.out.bl (Nat.le_refl _) _ _ _ _ _ _ _ _⟩
  obtain ⟨d, hy5, rfl⟩ := lnN1_some hx5
  obtain ⟨b5, o5, rfl, hz5⟩ := row1 hr5
  have H5 := Lib.hid hy5
  have L5 := Lib.hid (Nat.le_trans (ln1_len hy5) L4.out)
  have C50w5 := Lib.hid hz5
  clear hx5 hy5 hr5 hz5 hl5
  go_wp2_with fail
  refine (HN.out wIdle s5 1 (by omega) L5.out _).mono ?_
  rintro e w6 ⟨v6, s6, q6, rfl, hb6, hc6⟩
  have P6 := Lib.hid (P5.out.next hb6)
  have C10w6 := Lib.hid (cell_up C10w5.out hb6)
  have C20w6 := Lib.hid (cell_up C20w5.out hb6)
  have C21w6 := Lib.hid (cell_up C21w5.out hb6)
  have C40w6 := Lib.hid (cell_up C40w5.out hb6)
  have C41w6 := Lib.hid (cell_up C41w5.out hb6)
  have C50w6 := Lib.hid (cell_up C50w5.out hb6)
  clear hb6
  rcases hc6 with ⟨hx6, rfl⟩ | ⟨ns6, A6, c6, hx6, rfl, rfl, hl6, hr6⟩
  · have hpp : p = .line 6 := by
      rw [HP.out]; unfold parse
      simp only [H1.out, H2.out, H3.out, H4.out, H5.out, lnN1_none hx6]
    have PP := Lib.hid hpp
    clear hpp hx6
    have LA := Lib.hid P6.out.a
    have LB := Lib.hid P6.out.b
    have z0 := LA.out.cell (j := 0) rfl
    have f0 := LA.out.free 0
    have z1 := LA.out.cell (j := 1) rfl
    have f1 := LA.out.free 1
    have z2 := LA.out.cell (j := 2) rfl
    have f2 := LA.out.free 2
    have z3 := LA.out.cell (j := 3) rfl
    have f3 := LA.out.free 3
    have z4 := LA.out.cell (j := 4) rfl
    have f4 := LA.out.free 4
    have z5 := LA.out.cell (j := 5) rfl
    have f5 := LA.out.free 5
    have z6 := LA.out.cell (j := 6) rfl
    have f6 := LA.out.free 6
    have z7 := LA.out.cell (j := 7) rfl
    have f7 := LA.out.free 7
    have y0 := LB.out.cell (j := 0) rfl
    have y1 := LB.out.cell (j := 1) rfl
    have y2 := LB.out.cell (j := 2) rfl
    have y3 := LB.out.cell (j := 3) rfl
    have y4 := LB.out.cell (j := 4) rfl
    have y5 := LB.out.cell (j := 5) rfl
    have y6 := LB.out.cell (j := 6) rfl
    have y7 := LB.out.cell (j := 7) rfl
    go_wp2_with fail
    refine rparse_ret (j := zJ) (er := 131) (k := 6) (rb := w.heap.size) rfl rfl rfl rfl (lies8 LA.out _ _ _ _ _ _ _ _) ?_
    rw [PP.out]
    exact ⟨rfl, below8 P6.out.bl (Nat.le_refl _) _ _ _ _ _ _ _ _⟩
  obtain ⟨i, hy6, rfl⟩ := lnN1_some hx6
  obtain ⟨b6, o6, rfl, hz6⟩ := row1 hr6
  have H6 := Lib.hid hy6
  have L6 := Lib.hid (Nat.le_trans (ln1_len hy6) L5.out)
  have C60w6 := Lib.hid hz6
  clear hx6 hy6 hr6 hz6 hl6
  have hpp : p = if s6 = [] then (if right ⟨small g, a, c, k, small f, l, d, small i⟩ then .ok ⟨small g, a, c, k, small f, l, d, small i⟩ else .job) else .line 7 := by
    rw [HP.out]; unfold parse
    simp only [H1.out, H2.out, H3.out, H4.out, H5.out, H6.out]
  by_cases hs6 : s6 = []
  · rw [if_pos hs6] at hpp
    obtain ⟨rq, hrq⟩ : ∃ rq, rq = right ⟨small g, a, c, k, small f, l, d, small i⟩ := ⟨_, rfl⟩
    have HRJ := Lib.hid (fun w => hrq ▸ HR.out ⟨small g, a, c, k, small f, l, d, small i⟩ w)
    rw [← hrq] at hpp
    have PP := Lib.hid hpp
    subst hs6
    clear hpp hrq
    obtain ⟨WW, hWW⟩ : ∃ WW, WW = w6 := ⟨_, rfl⟩
    have R0 : w6.drew.cell? ⟨b1, o1, none⟩ = some (.int .i64 (g : Int)) ∧ w6.drew.cell? ⟨b2, o2, none⟩ = some (.int .i64 (a : Int)) ∧ w6.drew.cell? ⟨b2, o2 + 1, none⟩ = some (.int .i64 (c : Int)) ∧ w6.drew.cell? ⟨b4, o4, none⟩ = some (.int .i64 (l : Int)) ∧ w6.drew.cell? ⟨b4, o4 + 1, none⟩ = some (.int .i64 (f : Int)) ∧ w6.drew.cell? ⟨b5, o5, none⟩ = some (.int .i64 (d : Int)) ∧ w6.drew.cell? ⟨b6, o6, none⟩ = some (.int .i64 (i : Int)) ∧ Below WW.heap.size WW w6.drew := by
      subst hWW
      exact rd7 ⟨C10w6.out, C20w6.out, C21w6.out, C40w6.out, C41w6.out, C50w6.out, C60w6.out, Below.refl _ _⟩ (below_drewOf (Below.refl _ _))
    have HW6 := Lib.hid hWW
    clear hWW
    go_wp2_with fail
    go_region_held3 (fun w' => w'.cell? ⟨b1, o1, none⟩ = some (.int .i64 (g : Int)) ∧ w'.cell? ⟨b2, o2, none⟩ = some (.int .i64 (a : Int)) ∧ w'.cell? ⟨b2, o2 + 1, none⟩ = some (.int .i64 (c : Int)) ∧ w'.cell? ⟨b4, o4, none⟩ = some (.int .i64 (l : Int)) ∧ w'.cell? ⟨b4, o4 + 1, none⟩ = some (.int .i64 (f : Int)) ∧ w'.cell? ⟨b5, o5, none⟩ = some (.int .i64 (d : Int)) ∧ w'.cell? ⟨b6, o6, none⟩ = some (.int .i64 (i : Int)) ∧ Below WW.heap.size WW w') (first | with_reducible assumption | ((with_reducible refine rd7d ?_); with_reducible assumption) | ((with_reducible refine rd7 ?_ (below_al (Below.refl _ _))); with_reducible assumption)) ((go_at_call 26; refine (HSm.out _ _).mono ?_; rintro e w7 ⟨rfl, rfl⟩))
    all_goals (
      go_wp2_with fail
      refine (HRJ.out _).mono ?_
      rintro e w7 ⟨rfl, hb7⟩
      have P7 := Lib.hid (P6.out.next (below_next (below_drewOf (below_al (Below.refl _ _))) hb7))
      have J7 := Lib.hid (show Lies w6.heap.size (jbC ⟨small g, a, c, k, small f, l, d, small i⟩) 23 w7 from (hb7.block _ (by simp)).trans (Lies.new w6 _ _).drew)
      have LA := Lib.hid P7.out.a
      have LB := Lib.hid P7.out.b
      clear hb7 R0
      have z0 := LA.out.cell (j := 0) rfl
      have f0 := LA.out.free 0
      have z1 := LA.out.cell (j := 1) rfl
      have f1 := LA.out.free 1
      have z2 := LA.out.cell (j := 2) rfl
      have f2 := LA.out.free 2
      have z3 := LA.out.cell (j := 3) rfl
      have f3 := LA.out.free 3
      have z4 := LA.out.cell (j := 4) rfl
      have f4 := LA.out.free 4
      have z5 := LA.out.cell (j := 5) rfl
      have f5 := LA.out.free 5
      have z6 := LA.out.cell (j := 6) rfl
      have f6 := LA.out.free 6
      have z7 := LA.out.cell (j := 7) rfl
      have f7 := LA.out.free 7
      have y0 := LB.out.cell (j := 0) rfl
      have y1 := LB.out.cell (j := 1) rfl
      have y2 := LB.out.cell (j := 2) rfl
      have y3 := LB.out.cell (j := 3) rfl
      have y4 := LB.out.cell (j := 4) rfl
      have y5 := LB.out.cell (j := 5) rfl
      have y6 := LB.out.cell (j := 6) rfl
      have y7 := LB.out.cell (j := 7) rfl
      have x0 := J7.out.cell (j := 0) rfl
      have x1 := J7.out.cell (j := 1) rfl
      have x2 := J7.out.cell (j := 2) rfl
      have x3 := J7.out.cell (j := 3) rfl
      have x4 := J7.out.cell (j := 4) rfl
      have x5 := J7.out.cell (j := 5) rfl
      have x6 := J7.out.cell (j := 6) rfl
      have x7 := J7.out.cell (j := 7) rfl
      cases rq
      · go_wp2_with fail
        refine rparse_ret (j := zJ) (er := 130) (k := 0) (rb := w.heap.size) rfl rfl rfl rfl (lies8 LA.out _ _ _ _ _ _ _ _) ?_
        rw [PP.out]
        exact ⟨rfl, below8 P7.out.bl (Nat.le_refl _) _ _ _ _ _ _ _ _⟩
      · go_wp2_with fail
        refine rparse_ret (j := ⟨small g, a, c, k, small f, l, d, small i⟩) (er := 0) (k := 0) (rb := w.heap.size) rfl rfl rfl rfl (lies8 LA.out _ _ _ _ _ _ _ _) ?_
        rw [PP.out]
        exact ⟨rfl, below8 P7.out.bl (Nat.le_refl _) _ _ _ _ _ _ _ _⟩)
  · rw [if_neg hs6] at hpp
    have hr2 : (s6 == []) = false := by cases s6 with | nil => exact absurd rfl hs6 | cons x l => rfl
    have hr3 : s6.isEmpty = false := by cases s6 with | nil => exact absurd rfl hs6 | cons x l => rfl
    have PP := Lib.hid hpp
    clear hpp hs6
    have LA := Lib.hid P6.out.a
    have LB := Lib.hid P6.out.b
    have z0 := LA.out.cell (j := 0) rfl
    have f0 := LA.out.free 0
    have z1 := LA.out.cell (j := 1) rfl
    have f1 := LA.out.free 1
    have z2 := LA.out.cell (j := 2) rfl
    have f2 := LA.out.free 2
    have z3 := LA.out.cell (j := 3) rfl
    have f3 := LA.out.free 3
    have z4 := LA.out.cell (j := 4) rfl
    have f4 := LA.out.free 4
    have z5 := LA.out.cell (j := 5) rfl
    have f5 := LA.out.free 5
    have z6 := LA.out.cell (j := 6) rfl
    have f6 := LA.out.free 6
    have z7 := LA.out.cell (j := 7) rfl
    have f7 := LA.out.free 7
    have y0 := LB.out.cell (j := 0) rfl
    have y1 := LB.out.cell (j := 1) rfl
    have y2 := LB.out.cell (j := 2) rfl
    have y3 := LB.out.cell (j := 3) rfl
    have y4 := LB.out.cell (j := 4) rfl
    have y5 := LB.out.cell (j := 5) rfl
    have y6 := LB.out.cell (j := 6) rfl
    have y7 := LB.out.cell (j := 7) rfl
    go_wp2_with fail
    refine rparse_ret (j := zJ) (er := 131) (k := 7) (rb := w.heap.size) rfl rfl rfl rfl (lies8 LA.out _ _ _ _ _ _ _ _) ?_
    rw [PP.out]
    exact ⟨rfl, below8 P6.out.bl (Nat.le_refl _) _ _ _ _ _ _ _ _⟩
end Jo
end Go.Proofs.YtileonenphmkkaaDoor
