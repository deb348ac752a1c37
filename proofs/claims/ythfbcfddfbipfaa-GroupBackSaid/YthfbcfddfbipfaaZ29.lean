/- GroupC, GroupAdvC, put together. -/
import Derived.Test.YthfbcfddfbipfaaZ28
import Derived.Test.YthfbcfddfbipfaaZ15
import Derived.Lib.MinMax
/- Job and Right of the code; the law's own alive. -/
namespace Go.Proofs.Ythfbcfddfbipfaa
open Go.RowKit
set_option linter.unusedVariables false
set_option maxRecDepth 8000
namespace Grp
open Pan (Pn Pl)
theorem gpJob (j : Jb) (w : World) : Calls Try.prog 14 #[jbV j] w (TellsB (jobOk j) w) := by
  have H1 := Lib.hid (fun w => winRight j.size j.slide w)
  have H2 := Lib.hid (fun w => foldRight j.fold w)
  cases hq : Win.ok j.size j.slide
  · have HQ := Lib.hid hq
    clear hq
    go_enter Try.func14, Try.ntmps14
    go_wp2_with fail
    refine (H1.out _).mono ?_
    rw [HQ.out]
    rintro e w1 ⟨rfl, rfl⟩
    go_wp2_with fail
    go_ret
    exact ⟨by simp [jobOk, HQ.out], below_al (Below.refl _ _)⟩
  · have HQ := Lib.hid hq
    clear hq
    go_enter Try.func14, Try.ntmps14
    go_wp2_with fail
    refine (H1.out _).mono ?_
    rw [HQ.out]
    rintro e w1 ⟨rfl, rfl⟩
    go_wp2_with fail
    refine (H2.out _).mono ?_
    rintro e w1 ⟨rfl, rfl⟩
    go_wp2_with fail
    go_ret
    exact ⟨by simp [jobOk, HQ.out], below_al (Below.refl _ _)⟩
theorem lawAliveG (w : World) : Calls Try.prog 13 #[] w (TellsB true w) := by
  have HJ := Lib.hid (fun w => gpJob ⟨0, 1, 1, 2, 0, 0, 0, 0⟩ w)
  have HT := Lib.hid (show jobOk ⟨0, 1, 1, 2, 0, 0, 0, 0⟩ = true by decide)
  rw [HT.out] at HJ
  go_enter Try.func13, Try.ntmps13
  go_wp2_with fail
  refine (HJ.out _).mono ?_
  rintro e w1 ⟨rfl, hb⟩
  have HB := Lib.hid hb
  clear hb
  go_wp2_with fail
  go_ret
  exact ⟨rfl, HB.out⟩
/-- Of panes in order the first one ends first. -/
def anyC (xs : List Pn) (m : Int) : Bool := match xs with | [] => false | x :: _ => decide (x.p.hi ≤ m)
theorem anyC_iff {xs : List Pn} (hr : Pan.right xs = true) (m : Int) : anyC xs m = false ↔ ∀ p ∈ xs, m < p.p.hi := by
  cases xs with
  | nil => simp [anyC]
  | cons x r =>
    have ho := ((Pan.right_iff _).1 hr).2.2
    obtain ⟨h1, _⟩ := List.pairwise_cons.1 ho
    simp only [anyC, decide_eq_false_iff_not, List.mem_cons, forall_eq_or_imp]
    constructor
    · intro h
      refine ⟨by omega, fun p hp => ?_⟩
      rcases (Pan.ahead_iff _ _).1 (h1 p hp) with h2 | ⟨h2, _⟩ <;> omega
    · rintro ⟨h, _⟩; omega
theorem gpAny (xs : List Pn) (m : Int) (A : Option Addr) (c : Nat) (w : World) (hA : Row w A (pc xs)) (hl : xs.length ≤ 9223372036854775807) :
    Calls Try.prog 41 #[.slice A xs.length c, .int .i64 m] w (TellsB (anyC xs m) w) := by
  have HC := Lib.hid (fun a b w => winClosed a b m w)
  cases xs with
  | nil =>
    clear hA
    go_enter Try.func41, Try.ntmps41
    go_wp2_with fail
    go_ret
    exact ⟨rfl, Below.refl _ _⟩
  | cons x r =>
    obtain ⟨b, off, rfl, c0, c1, c2, c3, c4, c5⟩ := hA.pn (k := 0) (x := x) rfl
    obtain ⟨n, hn⟩ : ∃ n, n = (x :: r).length := ⟨_, rfl⟩
    have h0 : 0 < n := by simp [hn]
    rw [← hn]
    have HN := Lib.hid hn
    clear hA hn hl
    rw [Nat.zero_mul, Nat.add_zero] at c0 c1
    clear c2 c3 c4 c5
    go_enter Try.func41, Try.ntmps41
    go_wp2_with fail
    refine (HC.out _ _ _).mono ?_
    rintro e w1 ⟨rfl, rfl⟩
    go_wp2_with fail
    go_ret
    exact ⟨rfl, below_al (Below.refl _ _)⟩
set_option maxHeartbeats 2000000 in
theorem gpRight (g : Gp) (A : Option Addr) (c : Nat) (w : World) (hA : Row w A (pc g.ps)) (hl : g.ps.length ≤ 9223372036854775807) :
    Calls Try.prog 16 #[gpV g.no g.mark (.slice A g.ps.length c)] w (TellsB (right g) w) := by
  obtain ⟨no, mark, xs⟩ := g
  simp only at hA hl ⊢
  have HR := Lib.hid (fun w' (hb : Below w.heap.size w w') => paRight xs A c w' (hA.below hb) hl)
  have HC := Lib.hid (fun w' (hb : Below w.heap.size w w') => gpAny xs mark A c w' (hA.below hb) hl)
  obtain ⟨r, hr⟩ : ∃ r, r = right ⟨no, mark, xs⟩ := ⟨_, rfl⟩
  obtain ⟨q, hq⟩ : ∃ q, q = Pan.right xs := ⟨_, rfl⟩
  obtain ⟨y, hy⟩ : ∃ y, y = anyC xs mark := ⟨_, rfl⟩
  have hiff := right_iff ⟨no, mark, xs⟩
  have hany : q = true → (y = false ↔ ∀ p ∈ xs, mark < p.p.hi) := fun h => hy ▸ anyC_iff (hq ▸ h) mark
  rw [← hr] at hiff ⊢
  rw [← hq] at HR hiff
  rw [← hy] at HC
  have HI := Lib.hid hiff
  have HY := Lib.hid hany
  clear hA hr hq hiff hy hany
  have hway : ¬ 0 ≤ no ∨ (0 ≤ no ∧ ¬ no < 32) ∨ (0 ≤ no ∧ no < 32 ∧ ¬ 0 ≤ mark) ∨ (0 ≤ no ∧ no < 32 ∧ 0 ≤ mark ∧ ¬ mark ≤ 1099511627776) ∨
      (0 ≤ no ∧ no < 32 ∧ 0 ≤ mark ∧ mark ≤ 1099511627776 ∧ q = false) ∨ (0 ≤ no ∧ no < 32 ∧ 0 ≤ mark ∧ mark ≤ 1099511627776 ∧ q = true) := by
    cases q <;> simp <;> omega
  rcases hway with a1 | ⟨a1, a2⟩ | ⟨a1, a2, a3⟩ | ⟨a1, a2, a3, a4⟩ | ⟨a1, a2, a3, a4, rfl⟩ | ⟨a1, a2, a3, a4, rfl⟩
  all_goals (
    go_enter Try.func16, Try.ntmps16
    go_wp2_with fail)
  iterate 4
    have er : r = false := by
      cases r with
      | false => rfl
      | true => obtain ⟨⟨h1, h2, h3, h4⟩, h5, _⟩ := HI.out.1 rfl; exfalso; omega
    subst er
    go_ret
    exact ⟨rfl, below_al (Below.refl _ _)⟩
  · refine (HR.out _ (below_al (Below.refl _ _))).mono ?_
    rintro e w1 ⟨rfl, hb1⟩
    have HB1 := Lib.hid hb1
    clear hb1
    have er : r = false := by
      cases r with
      | false => rfl
      | true => obtain ⟨_, h5, _⟩ := HI.out.1 rfl; cases h5
    subst er
    go_wp2_with fail
    go_ret
    exact ⟨rfl, below_next (below_al (Below.refl _ _)) HB1.out⟩
  · refine (HR.out _ (below_al (Below.refl _ _))).mono ?_
    rintro e w1 ⟨rfl, hb1⟩
    have L1 := Lib.hid (show Lies w.heap.size (gpC no mark (.slice A xs.length c)) 26 w1 from (hb1.block _ (by simp)).trans (Lies.new w _ _))
    have HB1 := Lib.hid (below_next (below_al (Below.refl _ _)) hb1)
    have d1 : w1.cell? ⟨w.heap.size, 1, none⟩ = some (.int .i64 mark) := L1.out.cell (j := 1) rfl
    have d2 : w1.cell? ⟨w.heap.size, 2, none⟩ = some (.slice A xs.length c) := L1.out.cell (j := 2) rfl
    clear hb1
    have er : r = !y := by
      have h1 := HI.out
      have h2 := HY.out trivial
      cases y <;> cases r <;> simp only [Bool.not_true, Bool.not_false] <;> first | rfl | (exfalso)
      · have := h1.2 ⟨⟨a1, by omega, a3, a4⟩, trivial, h2.1 rfl⟩; cases this
      · have := h2.2 (h1.1 rfl).2.2; cases this
    subst er
    go_wp2_with fail
    refine (HC.out _ HB1.out).mono ?_
    rintro e w2 ⟨rfl, hb2⟩
    have HB2 := Lib.hid (below_next HB1.out hb2)
    clear hb2
    go_wp2_with fail
    go_ret
    exact ⟨rfl, HB2.out⟩
end Grp
end Go.Proofs.Ythfbcfddfbipfaa
/- Advance of the code. -/
namespace Go.Proofs.Ythfbcfddfbipfaa
open Go.RowKit
set_option linter.unusedVariables false
set_option maxRecDepth 8000
namespace Grp
open Pan (Pn Pl Rs resOf resO)
theorem due_none {g : Gp} (h : right g = true) : Pan.due g.mark g.ps = [] ∧ Pan.rest g.mark g.ps = g.ps := by
  obtain ⟨_, _, h6⟩ := (right_iff g).1 h
  unfold Pan.due Pan.rest
  refine ⟨List.filter_eq_nil_iff.2 fun a ha => ?_, List.filter_eq_self.2 fun a ha => ?_⟩
  · have := h6 a ha; simp; omega
  · have := h6 a ha; simp; omega
/-- The mark that the code sets. -/
theorem adv_code {g : Gp} (h : right g = true) (m : Int) : adv g m = (⟨g.no, max g.mark (min m 1099511627776), Pan.rest (max g.mark (min m 1099511627776)) g.ps⟩, Pan.due (max g.mark (min m 1099511627776)) g.ps) := by
  obtain ⟨⟨h1, h2, h3, h4⟩, h5, h6⟩ := (right_iff g).1 h
  obtain ⟨d1, d2⟩ := due_none h
  by_cases hm : m ≤ g.mark
  · rw [adv_stay hm, show max g.mark (min m 1099511627776) = g.mark by omega, d1, d2]
  · rw [adv_go hm, show max g.mark (min m 1099511627776) = clamp m by unfold clamp; split <;> omega]
theorem Three.mark {w0 a : World} {j : Jb} {no mark : Int} {sv : Value} (h : Three w0 j no mark sv a) (q : Int) : Three w0 j no q sv (a.setCell ⟨w0.heap.size + 1, 1, none⟩ (.int .i64 q)) where
  job := h.job.other (by omega) _ _
  gp := h.gp.set 1 _
  res := h.res.other (by omega) _ _
  below := h.below.setCell (p := ⟨w0.heap.size + 1, 1, none⟩) (by show w0.heap.size ≤ w0.heap.size + 1; omega) _
theorem Three.put {w0 a : World} {j : Jb} {no mark : Int} {sv : Value} (h : Three w0 j no mark sv a) (v : Value) : Three w0 j no mark v (a.setCell ⟨w0.heap.size + 1, 2, none⟩ v) where
  job := h.job.other (by omega) _ _
  gp := h.gp.set 2 _
  res := h.res.other (by omega) _ _
  below := h.below.setCell (p := ⟨w0.heap.size + 1, 2, none⟩) (by show w0.heap.size ≤ w0.heap.size + 1; omega) _
theorem adv_retC {w wF : World} {R : Nat} {o : Gp × List Rs × Int} {A A' : Option Addr} {c c' : Nat} {act : Act} (ht : act.tmps.getD 6 undef = .pointer (some ⟨R, 0, none⟩)) (hs : act.tmps.getD 7 undef = .slice A' o.2.1.length c') (hc : act.tmps.getD 8 undef = .int .i64 o.2.2) (hd : act.defers = [])
    (hL : Lies R (gpC o.1.no o.1.mark (.slice A o.1.ps.length c)) 26 wF) (h1 : o.1.ps.length ≤ c) (h2 : c ≤ maxLen) (h3 : o.2.1.length ≤ c') (h4 : c' ≤ maxLen) (h5 : Row wF A (pc o.1.ps)) (h6 : Row wF A' (rc o.2.1)) (hB : Below w.heap.size w wF) :
    bodyPost Try.prog Try.f19 (GivesGR o w) .ret act wF := by
  have c0 := hL.cell (j := 0) rfl
  have c1 := hL.cell (j := 1) rfl
  have c2 := hL.cell (j := 2) rfl
  refine bodyPost_ret (v := .tuple #[gpV o.1.no o.1.mark (.slice A o.1.ps.length c), .slice A' o.2.1.length c', .int .i64 o.2.2]) ?_ hd ⟨A, c, A', c', rfl, h1, h2, h3, h4, h5, h6, hB⟩
  have ht2 : act.tmps[6]?.getD undef = .pointer (some ⟨R, 0, none⟩) := by simpa using ht
  have hs2 : act.tmps[7]?.getD undef = .slice A' o.2.1.length c' := by simpa using hs
  have hc2 : act.tmps[8]?.getD undef = .int .i64 o.2.2 := by simpa using hc
  simp [results, Try.results19, go_sem, ht2, hs2, hc2, c0, c1, c2]
theorem adv_endC {w W : World} {o : Gp × List Rs × Int} {A A' : Option Addr} {c c' : Nat} {a0 b0 : Int} {v0 : Value} {act : Act} (ht : act.tmps.getD 6 undef = .pointer (some ⟨w.heap.size + 1 + 1, 0, none⟩)) (hs : act.tmps.getD 7 undef = .slice A' o.2.1.length c') (hc : act.tmps.getD 8 undef = .int .i64 o.2.2) (hd : act.defers = [])
    (hL : Lies (w.heap.size + 1 + 1) (gpC a0 b0 v0) 26 W) (h1 : o.1.ps.length ≤ c) (h2 : c ≤ maxLen) (h3 : o.2.1.length ≤ c') (h4 : c' ≤ maxLen) (h5 : Row W A (pc o.1.ps)) (h6 : Row W A' (rc o.2.1)) (hB : Below w.heap.size w W) :
    bodyPost Try.prog Try.f19 (GivesGR o w) .ret act (set3 W (w.heap.size + 1 + 1) o.1.no o.1.mark (.slice A o.1.ps.length c)) :=
  adv_retC ht hs hc hd (Lies.set3 hL _ _ _) h1 h2 h3 h4 (row_set3 h5 hL (pc_big _) _ _ _) (row_set3 h6 hL (rc_big _) _ _ _) (below_set3 hB (by omega) _ _ _)
set_option maxRecDepth 100000 in
set_option maxHeartbeats 2000000 in
theorem gpAdvance (j : Jb) (g : Gp) (m : Int) (A : Option Addr) (c : Nat) (w : World) (hA : Row w A (pc g.ps)) (hl : g.ps.length ≤ c) (hc : c ≤ maxLen) :
    Calls Try.prog 19 #[jbV j, gpV g.no g.mark (.slice A g.ps.length c), .int .i64 m] w (GivesGR (advO j g m) w) := by
  have hL : g.ps.length ≤ 9223372036854775807 := by unfold maxLen at hc; omega
  have hC : c ≤ 9223372036854775807 := by unfold maxLen at hc; omega
  obtain ⟨no, mark, xs⟩ := g
  simp only at hA hl hL ⊢
  have HJ := Lib.hid (fun w' => gpJob j w')
  have HR := Lib.hid (fun w' (hb : Below w.heap.size w w') => gpRight ⟨no, mark, xs⟩ A c w' (hA.below hb) hL)
  have T0 := Lib.hid (Three.start w j no mark (.slice A xs.length c))
  have HA := Lib.hid hA
  cases hj : jobOk j
  · have HO := Lib.hid (show advO j ⟨no, mark, xs⟩ m = (none_, [], 130) by simp [advO, hj])
    clear hA
    go_enter Try.func19, Try.ntmps19
    go_wp2_with fail
    refine (HJ.out _).mono ?_
    rw [hj]
    rintro e w1 ⟨rfl, hb1⟩
    have T1 := Lib.hid (T0.out.next hb1)
    have r0 := T1.out.res.cell (j := 0) rfl; have r1 := T1.out.res.cell (j := 1) rfl; have r2 := T1.out.res.cell (j := 2) rfl
    have f0 := T1.out.res.free 0; have f1 := T1.out.res.free 1; have f2 := T1.out.res.free 2
    clear hb1 hj
    go_wp2_with fail
    rw [HO.out]
    exact adv_endC (o := (none_, [], 130)) rfl rfl rfl rfl T1.out.res (Nat.le_refl _) (by simp [maxLen]) (Nat.le_refl _) (by simp [maxLen]) Row.nil Row.nil T1.out.below
  · cases hr : right ⟨no, mark, xs⟩
    · have HO := Lib.hid (show advO j ⟨no, mark, xs⟩ m = (none_, [], 1) by simp [advO, hj, hr])
      clear hA
      go_enter Try.func19, Try.ntmps19
      go_wp2_with fail
      refine (HJ.out _).mono ?_
      rw [hj]
      rintro e w1 ⟨rfl, hb1⟩
      have T1 := Lib.hid (T0.out.next hb1)
      have g0 : w1.cell? ⟨w.heap.size + 1, 0, none⟩ = some (.int .i64 no) := T1.out.gp.cell (j := 0) rfl
      have g1 : w1.cell? ⟨w.heap.size + 1, 1, none⟩ = some (.int .i64 mark) := T1.out.gp.cell (j := 1) rfl
      have g2 : w1.cell? ⟨w.heap.size + 1, 2, none⟩ = some (.slice A xs.length c) := T1.out.gp.cell (j := 2) rfl
      clear hb1 hj
      go_wp2_with fail
      refine (HR.out _ T1.out.below).mono ?_
      rw [hr]
      rintro e w2 ⟨rfl, hb2⟩
      have T2 := Lib.hid (T1.out.next hb2)
      have r0 := T2.out.res.cell (j := 0) rfl; have r1 := T2.out.res.cell (j := 1) rfl; have r2 := T2.out.res.cell (j := 2) rfl
      have f0 := T2.out.res.free 0; have f1 := T2.out.res.free 1; have f2 := T2.out.res.free 2
      clear hb2 hr g0 g1 g2
      go_wp2_with fail
      rw [HO.out]
      exact adv_endC (o := (none_, [], 1)) rfl rfl rfl rfl T2.out.res (Nat.le_refl _) (by simp [maxLen]) (Nat.le_refl _) (by simp [maxLen]) Row.nil Row.nil T2.out.below
    · have hpr : Pan.right xs = true := ((right_iff _).1 hr).2.1
      have hfold : Acm.isK j.fold = true := by unfold jobOk at hj; rw [Bool.and_eq_true] at hj; exact hj.2
      obtain ⟨q, hq⟩ : ∃ q, max mark (min m 1099511627776) = q := ⟨_, rfl⟩
      have HO := Lib.hid (show advO j ⟨no, mark, xs⟩ m = (⟨no, q, Pan.rest q xs⟩, (Pan.due q xs).map (resOf j.fold), 0) by
        have h := adv_code hr m
        simp only at h
        rw [hq] at h
        simp [advO, hj, hr, h])
      have HRES := Lib.hid (fun A1 c1 w' (h : Row w' A1 (pc (Pan.due q xs))) (hl : (Pan.due q xs).length ≤ 9223372036854775807) => show Calls Try.prog 45 #[.int .i64 j.fold, .slice A1 (Pan.due q xs).length c1] w' (GivesR ((Pan.due q xs).map (resOf j.fold)) w') by
        have h := paResults j.fold (Pan.due q xs) A1 c1 w' h hl
        unfold resO at h
        rw [Pan.due_right hpr, hfold] at h
        exact h)
      have HDU := Lib.hid (fun w' (hb : Below w.heap.size w w') => paDue xs A c q w' (hA.below hb) hl hC hpr)
      clear hA hpr hfold
      go_enter Try.func19, Try.ntmps19
      go_wp2_with fail
      refine (HJ.out _).mono ?_
      rw [hj]
      rintro e w1 ⟨rfl, hb1⟩
      have T1 := Lib.hid (T0.out.next hb1)
      have g0 : w1.cell? ⟨w.heap.size + 1, 0, none⟩ = some (.int .i64 no) := T1.out.gp.cell (j := 0) rfl
      have g1 : w1.cell? ⟨w.heap.size + 1, 1, none⟩ = some (.int .i64 mark) := T1.out.gp.cell (j := 1) rfl
      have g2 : w1.cell? ⟨w.heap.size + 1, 2, none⟩ = some (.slice A xs.length c) := T1.out.gp.cell (j := 2) rfl
      clear hb1 hj
      go_wp2_with fail
      refine (HR.out _ T1.out.below).mono ?_
      rw [hr]
      rintro e w2 ⟨rfl, hb2⟩
      have T2 := Lib.hid (T1.out.next hb2)
      have k1 : w2.cell? ⟨w.heap.size + 1, 1, none⟩ = some (.int .i64 mark) := T2.out.gp.cell (j := 1) rfl
      have k2 : w2.cell? ⟨w.heap.size + 1, 2, none⟩ = some (.slice A xs.length c) := T2.out.gp.cell (j := 2) rfl
      have f1 := T2.out.gp.free 1
      have f2 := T2.out.gp.free 2
      clear hb2 hr g0 g1 g2
      go_wp2_with fail
      refine (HDU.out _ (T2.out.mark q).below).mono ?_
      rintro e w3 ⟨A1, c1, A2, c2, rfl, l1, m1, l2, m2, R1, R2, hb3⟩
      have T3 := Lib.hid ((T2.out.mark q).next hb3)
      have HR1 := Lib.hid R1; have HR2 := Lib.hid R2
      have HL1 := Lib.hid (And.intro l1 m1); have HL2 := Lib.hid (And.intro l2 m2)
      have x2 : w3.cell? ⟨w.heap.size + 1, 2, none⟩ = some (.slice A xs.length c) := T3.out.gp.cell (j := 2) rfl
      have g2 := T3.out.gp.free 2
      clear hb3 k1 k2 f1 f2 R1 R2 l1 m1 l2 m2 hq
      have X2 := Lib.hid x2
      go_wp2_with fail
      have T4 := Lib.hid (T3.out.put (.slice A2 (Pan.rest q xs).length c2))
      have HS1 := Lib.hid (row_cell HR1.out X2.out (pc_noslice _ _ _ _) (.slice A2 (Pan.rest q xs).length c2))
      have HS2 := Lib.hid (row_cell HR2.out X2.out (pc_noslice _ _ _ _) (.slice A2 (Pan.rest q xs).length c2))
      obtain ⟨w4, hw4⟩ : ∃ w4, w4 = w3.setCell ⟨w.heap.size + 1, 2, none⟩ (.slice A2 (Pan.rest q xs).length c2) := ⟨_, rfl⟩
      rw [← hw4] at T4 HS1 HS2 ⊢
      clear hw4 x2 g2
      have x0 : w4.cell? ⟨w.heap.size + 1, 0, none⟩ = some (.int .i64 no) := T4.out.gp.cell (j := 0) rfl
      have x1 : w4.cell? ⟨w.heap.size + 1, 1, none⟩ = some (.int .i64 q) := T4.out.gp.cell (j := 1) rfl
      have x2 : w4.cell? ⟨w.heap.size + 1, 2, none⟩ = some (.slice A2 (Pan.rest q xs).length c2) := T4.out.gp.cell (j := 2) rfl
      have y3 : w4.cell? ⟨w.heap.size, 3, none⟩ = some (.int .i64 j.fold) := T4.out.job.cell (j := 3) rfl
      have HLN := Lib.hid (show _ ≤ 9223372036854775807 from by have := HL1.out.1; have h := HL1.out.2; unfold maxLen at h; exact Nat.le_trans this (by omega))
      go_region_with (go_at_call 45; refine (HRES.out A1 c1 w4.drew HS1.out.drewV HLN.out).mono ?_; rintro e w5 ⟨A5, c5, rfl, l5, m5, R5, hb5⟩; have T5 := Lib.hid (T4.out.next (c := w5) ⟨hb5.os, hb5.tape, hb5.output, hb5.size, hb5.block⟩); have HR5 := Lib.hid R5; have HL5 := Lib.hid (And.intro l5 m5); have HR2' := Lib.hid (HS2.out.below (w' := w5) ⟨hb5.os, hb5.tape, hb5.output, hb5.size, hb5.block⟩); have z0 : w5.cell? ⟨w.heap.size + 1, 0, none⟩ = some (.int .i64 no) := T5.out.gp.cell (j := 0) rfl; have z1 : w5.cell? ⟨w.heap.size + 1, 1, none⟩ = some (.int .i64 q) := T5.out.gp.cell (j := 1) rfl; have z2 : w5.cell? ⟨w.heap.size + 1, 2, none⟩ = some (.slice A2 (Pan.rest q xs).length c2) := T5.out.gp.cell (j := 2) rfl; have r0 := T5.out.res.cell (j := 0) rfl; have r1 := T5.out.res.cell (j := 1) rfl; have r2 := T5.out.res.cell (j := 2) rfl; have f0 := T5.out.res.free 0; have f1 := T5.out.res.free 1; have f2 := T5.out.res.free 2; clear R5 l5 m5 hb5)
      all_goals (
        go_wp2_with fail
        rw [HO.out]
        exact adv_endC (o := (⟨no, q, Pan.rest q xs⟩, (Pan.due q xs).map (resOf j.fold), 0)) rfl (by rw [List.length_map]; rfl) rfl rfl T5.out.res HL2.out.1 HL2.out.2 HL5.out.1 HL5.out.2 HR2'.out HR5.out T5.out.below)
end Grp
end Go.Proofs.Ythfbcfddfbipfaa
