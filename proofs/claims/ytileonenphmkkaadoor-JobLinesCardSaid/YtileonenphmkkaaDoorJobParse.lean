/- Parse of the code. -/
import Derived.Test.YtileonenphmkkaaDoorJobJob
import Derived.Test.YtileonenphmkkaaDoorJobBack
namespace Go.Proofs.YtileonenphmkkaaDoor
open Go.RowKit
set_option linter.unusedVariables false
set_option maxRecDepth 8000
namespace Jo
open Gen
theorem few_small (n : Nat) : (few n = small n ∧ small n = n) ∨ (1073741824 < few n ∧ small n = 1073741824) := by
  unfold few small
  by_cases h : n > 1073741824
  · rw [if_pos h]
    right
    refine ⟨?_, rfl⟩
    rw [Int.min_def]
    split <;> omega
  · rw [if_neg h]
    left
    refine ⟨?_, rfl⟩
    rw [Int.min_def]
    split <;> omega
theorem few_right (g a b k f l d i : Nat) :
    (right ⟨few g, a, b, k, few f, l, d, few i⟩ = right ⟨small g, a, b, k, small f, l, d, small i⟩) ∧ (right ⟨few g, a, b, k, few f, l, d, few i⟩ = true → (⟨few g, a, b, k, few f, l, d, few i⟩ : Jb) = ⟨small g, a, b, k, small f, l, d, small i⟩) := by
  have hg := few_small g
  have hf := few_small f
  have hi := few_small i
  have h1 := right_iff ⟨few g, a, b, k, few f, l, d, few i⟩
  have h2 := right_iff ⟨small g, a, b, k, small f, l, d, small i⟩
  simp only at h1 h2
  constructor
  · rw [Bool.eq_iff_iff, h1, h2]
    constructor
    · rintro ⟨q1, q2, q3, q4, q5, q6, q7⟩
      exact ⟨by omega, q2, q3, by omega, q5, q6, by omega⟩
    · rintro ⟨q1, q2, q3, q4, q5, q6, q7⟩
      exact ⟨by omega, q2, q3, by omega, q5, q6, by omega⟩
  · intro h
    obtain ⟨q1, q2, q3, q4, q5, q6, q7⟩ := h1.1 h
    rw [show few g = small g by omega, show few f = small f by omega, show few i = small i by omega]
theorem parse_way {s : List UInt8} {n1 n2 m2 n3 n4 m4 n5 n6 : Nat} (T : Told s n1 n2 m2 n3 n4 m4 n5 n6) :
    (x6 s = none ∧ k6 s ≤ 6 ∧ parse s = .line (k6 s)) ∨ ∃ r, x6 s = some r ∧ k6 s = 6 ∧ ((r ≠ [] ∧ parse s = .line 7) ∨
      (r = [] ∧ right (jbOf n1 n2 m2 n3 n4 m4 n5 n6) = false ∧ parse s = .job) ∨ (r = [] ∧ right (jbOf n1 n2 m2 n3 n4 m4 n5 n6) = true ∧ parse s = .ok (jbOf n1 n2 m2 n3 n4 m4 n5 n6))) := by
  obtain ⟨t1, t2, t3, t4, t5, t6⟩ := T
  have e1 : y1 s = ln1 wGroups s := rfl
  cases h1 : ln1 wGroups s with
  | none =>
    left
    simp [x6, y6, x5, y5, x4, y4, x3, y3, x2, y2, x1, e1, h1, k6, kx, parse]
  | some q1 =>
    obtain ⟨g, r1⟩ := q1
    rw [t1 g r1 (e1.trans h1)]
    have f1 : x1 s = some r1 := by unfold x1; rw [e1, h1]; rfl
    have e2 : y2 s = ln2 wWindow r1 := by unfold y2; rw [f1]; rfl
    cases h2 : ln2 wWindow r1 with
    | none =>
      left
      simp [x6, y6, x5, y5, x4, y4, x3, y3, x2, e2, h2, f1, h1, k6, kx, parse]
    | some q2 =>
      obtain ⟨a, b, r2⟩ := q2
      obtain ⟨g2, g2'⟩ := t2 a b r2 (e2.trans h2)
      rw [g2, g2']
      have f2 : x2 s = some r2 := by unfold x2; rw [e2, h2]; rfl
      have e3 : y3 s = lnF r2 := by unfold y3; rw [f2]; rfl
      cases h3 : lnF r2 with
      | none =>
        left
        simp [x6, y6, x5, y5, x4, y4, x3, e3, h3, f2, f1, h1, h2, k6, kx, parse]
      | some q3 =>
        obtain ⟨k, r3⟩ := q3
        rw [t3 k r3 (e3.trans h3)]
        have f3 : x3 s = some r3 := by unfold x3; rw [e3, h3]; rfl
        have e4 : y4 s = ln2 wLoop r3 := by unfold y4; rw [f3]; rfl
        cases h4 : ln2 wLoop r3 with
        | none =>
          left
          simp [x6, y6, x5, y5, x4, e4, h4, f3, f2, f1, h1, h2, h3, k6, kx, parse]
        | some q4 =>
          obtain ⟨l, f, r4⟩ := q4
          obtain ⟨g4, g4'⟩ := t4 l f r4 (e4.trans h4)
          rw [g4, g4']
          have f4 : x4 s = some r4 := by unfold x4; rw [e4, h4]; rfl
          have e5 : y5 s = ln1 wDelay r4 := by unfold y5; rw [f4]; rfl
          cases h5 : ln1 wDelay r4 with
          | none =>
            left
            simp [x6, y6, x5, e5, h5, f4, f3, f2, f1, h1, h2, h3, h4, k6, kx, parse]
          | some q5 =>
            obtain ⟨d, r5⟩ := q5
            rw [t5 d r5 (e5.trans h5)]
            have f5 : x5 s = some r5 := by unfold x5; rw [e5, h5]; rfl
            have e6 : y6 s = ln1 wIdle r5 := by unfold y6; rw [f5]; rfl
            cases h6 : ln1 wIdle r5 with
            | none =>
              left
              simp [x6, e6, h6, f5, f4, f3, f2, f1, h1, h2, h3, h4, h5, k6, kx, parse]
            | some q6 =>
              obtain ⟨i, r6⟩ := q6
              rw [t6 i r6 (e6.trans h6)]
              right
              obtain ⟨w1, w2⟩ := few_right g a b k f l d i
              refine ⟨r6, by unfold x6; rw [e6, h6]; rfl, by simp [k6, kx, f5, f4, f3, f2, f1], ?_⟩
              have hp : parse s = if r6 = [] then (if right ⟨small g, a, b, k, small f, l, d, small i⟩ then .ok ⟨small g, a, b, k, small f, l, d, small i⟩ else .job) else .line 7 := by
                unfold parse
                rw [h1]
                simp only [h2, h3, h4, h5, h6]
              by_cases hr : r6 = []
              · right
                rw [if_pos hr, ← w1] at hp
                cases hq : right ⟨few g, a, b, k, few f, l, d, few i⟩ with
                | false =>
                  left
                  rw [hq] at hp
                  exact ⟨hr, rfl, hp⟩
                | true =>
                  right
                  rw [hq] at hp
                  refine ⟨hr, rfl, ?_⟩
                  rw [hp, ← w2 hq]
                  rfl
              · left
                rw [if_neg hr] at hp
                exact ⟨hr, hp⟩
abbrev zJ : Jb := ⟨0, 0, 0, 0, 0, 0, 0, 0⟩
def outJ : Res → Jb | .ok j => j | _ => zJ
def outE : Res → Int | .ok _ => 0 | .job => 130 | .line _ => 131
def outK : Res → Int | .line k => k | _ => 0
/-- What Parse hands back. -/
def TellsP (r : Res) (w : World) (e : Ending) (w' : World) : Prop := e = .returned (.tuple #[jbV (outJ r), .int .i64 (outE r), .int .i64 (outK r)]) ∧ Below w.heap.size w w'
theorem parse_ret {j : Jb} {er k : Int} {rb : Nat} {w : World} {act : Act} {Q : Ending → World → Prop} (ht : act.tmps.getD 2 undef = .pointer (some ⟨rb, 0, none⟩)) (h3 : act.tmps.getD 3 undef = .int .i64 er) (h4 : act.tmps.getD 4 undef = .int .i64 k) (hd : act.defers = []) (hl : Lies rb (jbC j) 23 w) (h : Q (.returned (.tuple #[jbV j, .int .i64 er, .int .i64 k])) w) :
    bodyPost Tryd.prog Tryd.f12 Q Exit.ret act w := by
  have c0 : w.cell? ⟨rb, 0, none⟩ = some (.int .i64 j.groups) := hl.cell (j := 0) rfl
  have c1 : w.cell? ⟨rb, 1, none⟩ = some (.int .i64 j.size) := hl.cell (j := 1) rfl
  have c2 : w.cell? ⟨rb, 2, none⟩ = some (.int .i64 j.slide) := hl.cell (j := 2) rfl
  have c3 : w.cell? ⟨rb, 3, none⟩ = some (.int .i64 j.fold) := hl.cell (j := 3) rfl
  have c4 : w.cell? ⟨rb, 4, none⟩ = some (.int .i64 j.fuel) := hl.cell (j := 4) rfl
  have c5 : w.cell? ⟨rb, 5, none⟩ = some (.int .i64 j.limit) := hl.cell (j := 5) rfl
  have c6 : w.cell? ⟨rb, 6, none⟩ = some (.int .i64 j.delay) := hl.cell (j := 6) rfl
  have c7 : w.cell? ⟨rb, 7, none⟩ = some (.int .i64 j.idle) := hl.cell (j := 7) rfl
  have ht2 : act.tmps[2]?.getD undef = .pointer (some ⟨rb, 0, none⟩) := by simpa using ht
  have ht3 : act.tmps[3]?.getD undef = .int .i64 er := by simpa using h3
  have ht4 : act.tmps[4]?.getD undef = .int .i64 k := by simpa using h4
  exact bodyPost_ret (v := .tuple #[jbV j, .int .i64 er, .int .i64 k]) (by simp [results, Tryd.results12, go_sem, ht2, ht3, ht4, c0, c1, c2, c3, c4, c5, c6, c7]) hd h
theorem below8 {w w1 : World} {b : Nat} (h : Below w.heap.size w w1) (hb : w.heap.size ≤ b) (v0 v1 v2 v3 v4 v5 v6 v7 : Value) : Below w.heap.size w (set8 w1 b v0 v1 v2 v3 v4 v5 v6 v7) :=
  Mine.below h (mine8 _ _ _ _ _ _ _ _ _) (fun k hk => hk ▸ hb) h.size
set_option maxHeartbeats 8000000 in
theorem jParse (s : List UInt8) (hs : s.length ≤ 140737488355328) (w : World) (hw : Vr w) :
    Calls Tryd.prog 12 #[strv s] w (TellsP (parse s) w) := by
  have HJ := Lib.hid (fun b w1 h => sJob w b s w1 h)
  have HR := Lib.hid (fun j w => jRight j w)
  have A0 : Below w.heap.size w ((w.alloc (.cells zJb 23)).alloc (.cells (rdC s 0 false) 41)) := below_al (below_al (Below.refl _ _))
  have S0 := Lib.hid (show Sta w (w.heap.size + 1) (some s) 0 ((w.alloc (.cells zJb 23)).alloc (.cells (rdC s 0 false) 41)) from
    ⟨by have := Lies.new (w.alloc (.cells zJb 23)) (rdC s 0 false) 41; unfold St; simpa using this, ⟨hw, by omega, A0⟩, hs⟩)
  have L0 := Lib.hid (Lies.al (o := .cells (rdC s 0 false) 41) (Lies.new w zJb 23))
  have B0 := Lib.hid A0
  have hpw := Lib.hid (fun n1 n2 m2 n3 n4 m4 n5 n6 h => parse_way (s := s) (n1 := n1) (n2 := n2) (m2 := m2) (n3 := n3) (n4 := n4) (m4 := m4) (n5 := n5) (n6 := n6) h)
  obtain ⟨p, hp⟩ : ∃ p, p = parse s := ⟨_, rfl⟩
  rw [← hp] at hpw ⊢
  clear A0 hw hs hp
  go_enter Tryd.func12, Tryd.ntmps12
  go_wp2_with fail
  refine (HJ.out _ _ S0.out).mono ?_
  rintro e w1 ⟨n1, n2, m2, n3, n4, m4, n5, n6, rfl, T, s1, mm1⟩
  have hway := hpw.out n1 n2 m2 n3 n4 m4 n5 n6 T
  obtain ⟨J, hJ⟩ : ∃ J, J = jbOf n1 n2 m2 n3 n4 m4 n5 n6 := ⟨_, rfl⟩
  rw [← hJ] at hway ⊢
  have A1 := below_al (o := .cells (jbC J) 23) (Below.refl w1.heap.size w1)
  have S1 := Lib.hid s1
  have B1 := Lib.hid (show Below w.heap.size w w1 from Mine.below B0.out mm1 (fun k hk => by omega) B0.out.size)
  have L1 := Lib.hid (mm1.lies L0.out (fun e => by omega))
  have hlt : w.heap.size < w1.heap.size := lt_of_block L1.out
  have hlt2 : w.heap.size + 1 < w1.heap.size := s1.lt
  have z0 := L1.out.cell (j := 0) rfl
  have z1 := L1.out.cell (j := 1) rfl
  have z2 := L1.out.cell (j := 2) rfl
  have z3 := L1.out.cell (j := 3) rfl
  have z4 := L1.out.cell (j := 4) rfl
  have z5 := L1.out.cell (j := 5) rfl
  have z6 := L1.out.cell (j := 6) rfl
  have z7 := L1.out.cell (j := 7) rfl
  have f0 := L1.out.free 0
  have f1 := L1.out.free 1
  have f2 := L1.out.free 2
  have f3 := L1.out.free 3
  have f4 := L1.out.free 4
  have f5 := L1.out.free 5
  have f6 := L1.out.free 6
  have f7 := L1.out.free 7
  clear hJ T s1 mm1 A1
  rcases hway with ⟨hx, hk, hpp⟩ | ⟨r, hx, hk, hpp⟩
  · have S1 := S1.out
    rw [hx] at S1
    obtain ⟨s2, S1⟩ := S1
    have c1 := S1.st.cells.2.1
    have c2 := S1.st.cells.2.2
    have SS := Lib.hid S1
    have PP := Lib.hid hpp
    clear S1 hpp hx hk
    go_wp2_with fail
    go_region
    go_wp2_with fail
    refine parse_ret (j := zJ) (er := 131) (k := (k6 s : Int)) (rb := w.heap.size) rfl rfl rfl rfl (lies8 L1.out _ _ _ _ _ _ _ _).al.drew ?_
    rw [PP.out]
    exact ⟨rfl, below_drewOf (below_al (below8 B1.out (Nat.le_refl _) _ _ _ _ _ _ _ _))⟩
  · have S1 := S1.out
    rw [hx, hk] at S1
    have c0 := (Good.st S1).cells.1
    have c1 := (Good.st S1).cells.2.1
    have c2 := (Good.st S1).cells.2.2
    clear S1 hx hk
    rcases hpp with ⟨hr, hpp⟩ | ⟨hr, hq, hpp⟩ | ⟨hr, hq, hpp⟩
    · have PP := Lib.hid hpp
      have hr2 : (r == []) = false := by cases r with | nil => exact absurd rfl hr | cons x l => rfl
      have hr3 : r.isEmpty = false := by cases r with | nil => exact absurd rfl hr | cons x l => rfl
      clear hpp hr
      go_wp2_with fail
      go_region
      go_wp2_with fail
      refine parse_ret (j := zJ) (er := 131) (k := 7) (rb := w.heap.size) rfl rfl rfl rfl (lies8 L1.out _ _ _ _ _ _ _ _).al.drew ?_
      rw [PP.out]
      exact ⟨rfl, below_drewOf (below_al (below8 B1.out (Nat.le_refl _) _ _ _ _ _ _ _ _))⟩
    · subst hr
      have PP := Lib.hid hpp
      have HRJ := Lib.hid (fun w => hq ▸ HR.out J w)
      clear hpp hq z0 z1 z2 z3 z4 z5 z6 z7 f0 f1 f2 f3 f4 f5 f6 f7
      go_wp2_with fail
      refine (HRJ.out _).mono ?_
      rintro e w5 ⟨rfl, hb5⟩
      have L5 := Lib.hid (show Lies w.heap.size zJb 23 w5 from (hb5.block _ (by simp; omega)).trans L1.out.al)
      have B5 := Lib.hid (below_next (below_al B1.out) hb5)
      clear hb5
      have z0 := L5.out.cell (j := 0) rfl
      have f0 := L5.out.free 0
      have z1 := L5.out.cell (j := 1) rfl
      have f1 := L5.out.free 1
      have z2 := L5.out.cell (j := 2) rfl
      have f2 := L5.out.free 2
      have z3 := L5.out.cell (j := 3) rfl
      have f3 := L5.out.free 3
      have z4 := L5.out.cell (j := 4) rfl
      have f4 := L5.out.free 4
      have z5 := L5.out.cell (j := 5) rfl
      have f5 := L5.out.free 5
      have z6 := L5.out.cell (j := 6) rfl
      have f6 := L5.out.free 6
      have z7 := L5.out.cell (j := 7) rfl
      have f7 := L5.out.free 7
      go_wp2_with fail
      refine parse_ret (j := zJ) (er := 130) (k := 0) (rb := w.heap.size) rfl rfl rfl rfl (lies8 L5.out _ _ _ _ _ _ _ _) ?_
      rw [PP.out]
      exact ⟨rfl, below8 B5.out (Nat.le_refl _) _ _ _ _ _ _ _ _⟩
    · subst hr
      have PP := Lib.hid hpp
      have HRJ := Lib.hid (fun w => hq ▸ HR.out J w)
      have J1 := Lib.hid (Lies.new w1 (jbC J) 23)
      clear hpp hq z0 z1 z2 z3 z4 z5 z6 z7 f0 f1 f2 f3 f4 f5 f6 f7
      go_wp2_with fail
      refine (HRJ.out _).mono ?_
      rintro e w5 ⟨rfl, hb5⟩
      have L5 := Lib.hid (show Lies w.heap.size zJb 23 w5 from (hb5.block _ (by simp; omega)).trans L1.out.al)
      have J5 := Lib.hid (show Lies w1.heap.size (jbC J) 23 w5 from (hb5.block _ (by simp)).trans J1.out)
      have B5 := Lib.hid (below_next (below_al B1.out) hb5)
      clear hb5
      have z0 := L5.out.cell (j := 0) rfl
      have f0 := L5.out.free 0
      have z1 := L5.out.cell (j := 1) rfl
      have f1 := L5.out.free 1
      have z2 := L5.out.cell (j := 2) rfl
      have f2 := L5.out.free 2
      have z3 := L5.out.cell (j := 3) rfl
      have f3 := L5.out.free 3
      have z4 := L5.out.cell (j := 4) rfl
      have f4 := L5.out.free 4
      have z5 := L5.out.cell (j := 5) rfl
      have f5 := L5.out.free 5
      have z6 := L5.out.cell (j := 6) rfl
      have f6 := L5.out.free 6
      have z7 := L5.out.cell (j := 7) rfl
      have f7 := L5.out.free 7
      have j0 := J5.out.cell (j := 0) rfl
      have j1 := J5.out.cell (j := 1) rfl
      have j2 := J5.out.cell (j := 2) rfl
      have j3 := J5.out.cell (j := 3) rfl
      have j4 := J5.out.cell (j := 4) rfl
      have j5 := J5.out.cell (j := 5) rfl
      have j6 := J5.out.cell (j := 6) rfl
      have j7 := J5.out.cell (j := 7) rfl
      go_wp2_with fail
      refine parse_ret (j := J) (er := 0) (k := 0) (rb := w.heap.size) rfl rfl rfl rfl (lies8 L5.out _ _ _ _ _ _ _ _) ?_
      rw [PP.out]
      exact ⟨rfl, below8 B5.out (Nat.le_refl _) _ _ _ _ _ _ _ _⟩
end Jo
end Go.Proofs.YtileonenphmkkaaDoor
