/- The walk of the law ModelKeeps. -/
import Derived.Test.YtipmphkmeiogoaaZ29
import Derived.Test.YtipmphkmeiogoaaZ4
namespace Go.Proofs.Ytipmphkmeiogoaa
open Go.ChangeShapes Go.WideShapes Go.ChangeAt Go.RowKit Go.Shelf Tick
set_option linter.unusedVariables false
set_option maxRecDepth 8000
namespace Mo
open Gen (TellsI TellsB SaysI lies_new1)
open Jo (Jb Ev Sr evIs srcOk insOk jbC jbV srV evL Srs)
open Pan (Pl Pn Rs adds)
set_option maxRecDepth 100000 in
set_option maxHeartbeats 1000000 in
theorem walkModelKeeps (j : Jb) (hlim : Lp.inI j.limit) (XA : Option Addr) (xc : Nat) (xl : List Ev) (w : World) (h : SrOk w ⟨XA, xc, xl⟩) :
    Calls Try.prog 3 #[jbV j, .slice XA xl.length xc] w (TellsB true w) := by
  have hA0 : 60 < xl.length → ∃ b off, XA = some ⟨b, off, none⟩ := fun h1 => by
    obtain ⟨x, hx⟩ : ∃ x, xl[0]? = some x := ⟨_, List.getElem?_eq_getElem (by omega)⟩
    obtain ⟨b, off, e, _⟩ := Jo.row_evC h.row hx
    exact ⟨b, off, e⟩
  have hway : (∃ s : Sr, ∃ n : Nat, n = s.l.length ∧ s.A = XA ∧ s.c = xc ∧ SrOk w s ∧ (60 < xl.length → ∃ b off, s.A = some ⟨b, off, none⟩) ∧ (¬ 60 < xl.length ∧ n = xl.length ∨ (60 < xl.length ∧ ¬ xl.length ≤ 200) ∧ n = xl.length ∨ (60 < xl.length ∧ xl.length ≤ 200 ∧ 60 ≤ xc) ∧ n = 60)) := by
    by_cases h1 : 60 < xl.length
    · by_cases h2 : xl.length ≤ 200
      · refine ⟨⟨XA, xc, xl.take 60⟩, 60, by simp only [List.length_take]; omega, rfl, rfl, ⟨Gen.row_take Jo.evL_len h.row 60, by have := h.few; simp only [List.length_take] at this ⊢; omega, h.cap, fun e he => h.fit e (List.mem_of_mem_take he)⟩, hA0, .inr (.inr ⟨⟨h1, h2, by have := h.few; simp only at this; omega⟩, rfl⟩)⟩
      · exact ⟨⟨XA, xc, xl⟩, _, rfl, rfl, rfl, h, hA0, .inr (.inl ⟨⟨h1, h2⟩, rfl⟩)⟩
    · exact ⟨⟨XA, xc, xl⟩, _, rfl, rfl, rfl, h, hA0, .inl ⟨h1, rfl⟩⟩
  obtain ⟨s, n, hn, rfl, rfl, hok, hA, hway⟩ := hway
  have HO := Lib.hid (one_of (j := j) hlim hok hn)
  have HRf := Lib.hid (oneR_of (j := j) hlim hok hn)
  have HA := Lib.hid (fun w => lawAliveM w)
  have hl0 := Lies.new w (jbC j) 23
  have hb0 := below_al (o := .cells (jbC j) 23) (Below.refl w.heap.size w)
  have LJ := Lib.hid hl0
  have HB0 := Lib.hid hb0
  have HLE : Hid (∀ xs A A' c c' w, xs.length ≤ 100000 → Row w A (ec xs) → Row w A' (ec xs) → Calls Try.prog 14 #[.slice A xs.length c, .slice A' xs.length c'] w (TellsB true w)) := Lib.hid (fun xs A A' c c' w hl h1 h2 => rfLikeEs xs hl A A' c c' w h1 h2)
  obtain ⟨z, hz⟩ : ∃ z, z = chk j [s] := ⟨_, rfl⟩
  have HKO := Lib.hid (show z = 0 → keptOut j s = (kept j 0 s.l, 0) from fun h => keptOut_ok (by rw [← hz]; exact h))
  have HKN := Lib.hid (show z ≠ 0 → keptOut j s = ([], z) from fun h => by rw [hz]; exact keptOut_not (by rw [← hz]; exact h))
  have HMO := Lib.hid (show z = 0 → markOut j s = markOf j 0 s.l from fun h => markOut_ok (by rw [← hz]; exact h))
  have HMN := Lib.hid (show z ≠ 0 → markOut j s = 0 from fun h => markOut_not (by rw [← hz]; exact h))
  have HL2 := Lib.hid (show z = 0 → s.l.length ≤ 200 from fun h => (insOk_one (chk_ok (by rw [← hz]; exact h)).2).1)
  have HZ := Lib.hid hz
  clear hlim h hok hn hl0 hb0 hz hA0
  by_cases hz0 : z = 0
  · have HK := Lib.hid (fun w' hb => show Calls Try.prog 10 #[jbV j, .slice s.A n s.c] w' (GivesE (kept j 0 s.l, 0) w') from HKO.out hz0 ▸ HO.out.kept w' hb)
    have HM := Lib.hid (fun w' hb => show Calls Try.prog 13 #[jbV j, .slice s.A n s.c] w' (TellsI (markOf j 0 s.l) w') from HMO.out hz0 ▸ HO.out.mark w' hb)
    have HC := Lib.hid (fun w' b hb hr => show Calls Try.prog 11 #[jbV j, .slice (some ⟨b, 0, none⟩) 1 1] w' (TellsI 0 w') from hz0 ▸ HZ.out ▸ HRf.out.check w' b hb hr)
    have HRK := Lib.hid (HRf.out.kept (by have := HL2.out hz0; omega))
    have HRM := Lib.hid (HRf.out.mark (by have := HL2.out hz0; omega))
    obtain ⟨xs, hxs⟩ : ∃ xs, xs = kept j 0 s.l := ⟨_, rfl⟩
    have hxl : xs.length ≤ 200 := by rw [hxs]; exact Nat.le_trans (kept_len j s.l 0) (HL2.out hz0)
    have HXL := Lib.hid hxl
    obtain ⟨m, hm⟩ : ∃ m, m = markOf j 0 s.l := ⟨_, rfl⟩
    rw [← hxs] at HK HRK
    rw [← hm] at HM HRM
    clear HO HRf HKO HKN HMO HMN HL2 HZ hz0 hxs hm hxl
    obtain ⟨SA, sc, sl⟩ := s
    simp only at HK HM HC HRK HRM hA
    rcases hway with ⟨h1, rfl⟩ | ⟨⟨h1, h2⟩, rfl⟩ | ⟨⟨h1, h2, h3⟩, rfl⟩
    · clear hA
      have e1 : ¬ (60 : Int) < (xl.length : Int) := by omega
      go_enter Try.func3, Try.ntmps3
      go_wp2_with fail
      refine (HK.out _ HB0.out).mono ?_
      rintro e w1 ⟨A1, c1, rfl, q1, q2, q3, hb1⟩
      have LJ1 := Lib.hid (LJ.out.below hb1)
      have HB1 := Lib.hid (below_next HB0.out hb1)
      have HRW := Lib.hid (row_new1 w1 (.slice SA xl.length sc))
      have HBR := Lib.hid (below_al (o := .cells #[.slice SA xl.length sc] 24) (Below.refl w1.heap.size w1))
      have Q3 := Lib.hid q3
      have x0 := LJ1.out.cell (j := 0) rfl; have x1 := LJ1.out.cell (j := 1) rfl; have x2 := LJ1.out.cell (j := 2) rfl; have x3 := LJ1.out.cell (j := 3) rfl; have x4 := LJ1.out.cell (j := 4) rfl; have x5 := LJ1.out.cell (j := 5) rfl; have x6 := LJ1.out.cell (j := 6) rfl; have x7 := LJ1.out.cell (j := 7) rfl
      simp only at q1
      clear q3 hb1 q1 q2
      go_wp2_with fail
      refine (HC.out _ _ (below_next HB1.out HBR.out) HRW.out).mono ?_
      rintro e w2 ⟨rfl, hb2⟩
      have hb12 := below_next HBR.out hb2
      have S0 := start9 (LJ1.out.below hb12)
      have Q3 := Lib.hid (Q3.out.below hb12)
      have HB2 := Lib.hid (below_next HB1.out hb12)
      clear hb2 hb12 x0 x1 x2 x3 x4 x5 x6 x7
      go_wp2_with fail
      go_region_held3 (fun w' => w'.cell? ⟨w.heap.size, 0, none⟩ = some (.int .i64 j.groups) ∧ w'.cell? ⟨w.heap.size, 1, none⟩ = some (.int .i64 j.size) ∧ w'.cell? ⟨w.heap.size, 2, none⟩ = some (.int .i64 j.slide) ∧ w'.cell? ⟨w.heap.size, 3, none⟩ = some (.int .i64 j.fold) ∧ w'.cell? ⟨w.heap.size, 4, none⟩ = some (.int .i64 j.fuel) ∧ w'.cell? ⟨w.heap.size, 5, none⟩ = some (.int .i64 j.limit) ∧ w'.cell? ⟨w.heap.size, 6, none⟩ = some (.int .i64 j.delay) ∧ w'.cell? ⟨w.heap.size, 7, none⟩ = some (.int .i64 j.idle) ∧ Below w2.heap.size w2 w')
        (first | with_reducible assumption | (with_reducible refine keep9 hb5 ?_; with_reducible assumption))
        (first
          | (go_at_call 12; refine (HA.out _).mono ?_; rintro e w5 ⟨rfl, hb5⟩; dsimp only)
          | (go_at_call 15; refine (HRK.out _ (below_next HB2.out (below9 (by assumption)))).mono ?_; rintro e w5 ⟨A5, c5, rfl, q5, q6, q7, hb5⟩; have Q7 := Lib.hid q7; clear q5 q6 q7; dsimp only)
          | (go_at_call 14; refine (HLE.out xs _ _ _ _ _ (by have := HXL.out; omega) (Q3.out.below (below9 (by assumption))) Q7.out).mono ?_; rintro e w5 ⟨rfl, hb5⟩; dsimp only)
          | (go_at_call 13; refine (HM.out _ (below_next HB2.out (below9 (by assumption)))).mono ?_; rintro e w5 ⟨rfl, hb5⟩; dsimp only)
          | (go_at_call 16; refine (HRM.out _ (below_next HB2.out (below9 (by assumption)))).mono ?_; rintro e w5 ⟨rfl, hb5⟩; dsimp only)
        )
      rename_i hs
      have HB5 := Lib.hid (below_next HB2.out (below9 hs))
      clear hs
      go_wp2_with fail
      go_ret
      exact ⟨rfl, HB5.out⟩
    · clear hA
      have e1 : (60 : Int) < (xl.length : Int) := by omega
      have e2 : ¬ (xl.length : Int) ≤ 200 := by omega
      go_enter Try.func3, Try.ntmps3
      go_wp2_with fail
      refine (HK.out _ HB0.out).mono ?_
      rintro e w1 ⟨A1, c1, rfl, q1, q2, q3, hb1⟩
      have LJ1 := Lib.hid (LJ.out.below hb1)
      have HB1 := Lib.hid (below_next HB0.out hb1)
      have HRW := Lib.hid (row_new1 w1 (.slice SA xl.length sc))
      have HBR := Lib.hid (below_al (o := .cells #[.slice SA xl.length sc] 24) (Below.refl w1.heap.size w1))
      have Q3 := Lib.hid q3
      have x0 := LJ1.out.cell (j := 0) rfl; have x1 := LJ1.out.cell (j := 1) rfl; have x2 := LJ1.out.cell (j := 2) rfl; have x3 := LJ1.out.cell (j := 3) rfl; have x4 := LJ1.out.cell (j := 4) rfl; have x5 := LJ1.out.cell (j := 5) rfl; have x6 := LJ1.out.cell (j := 6) rfl; have x7 := LJ1.out.cell (j := 7) rfl
      simp only at q1
      clear q3 hb1 q1 q2
      go_wp2_with fail
      refine (HC.out _ _ (below_next HB1.out HBR.out) HRW.out).mono ?_
      rintro e w2 ⟨rfl, hb2⟩
      have hb12 := below_next HBR.out hb2
      have S0 := start9 (LJ1.out.below hb12)
      have Q3 := Lib.hid (Q3.out.below hb12)
      have HB2 := Lib.hid (below_next HB1.out hb12)
      clear hb2 hb12 x0 x1 x2 x3 x4 x5 x6 x7
      go_wp2_with fail
      go_region_held3 (fun w' => w'.cell? ⟨w.heap.size, 0, none⟩ = some (.int .i64 j.groups) ∧ w'.cell? ⟨w.heap.size, 1, none⟩ = some (.int .i64 j.size) ∧ w'.cell? ⟨w.heap.size, 2, none⟩ = some (.int .i64 j.slide) ∧ w'.cell? ⟨w.heap.size, 3, none⟩ = some (.int .i64 j.fold) ∧ w'.cell? ⟨w.heap.size, 4, none⟩ = some (.int .i64 j.fuel) ∧ w'.cell? ⟨w.heap.size, 5, none⟩ = some (.int .i64 j.limit) ∧ w'.cell? ⟨w.heap.size, 6, none⟩ = some (.int .i64 j.delay) ∧ w'.cell? ⟨w.heap.size, 7, none⟩ = some (.int .i64 j.idle) ∧ Below w2.heap.size w2 w')
        (first | with_reducible assumption | (with_reducible refine keep9 hb5 ?_; with_reducible assumption))
        (first
          | (go_at_call 12; refine (HA.out _).mono ?_; rintro e w5 ⟨rfl, hb5⟩; dsimp only)
          | (go_at_call 15; refine (HRK.out _ (below_next HB2.out (below9 (by assumption)))).mono ?_; rintro e w5 ⟨A5, c5, rfl, q5, q6, q7, hb5⟩; have Q7 := Lib.hid q7; clear q5 q6 q7; dsimp only)
          | (go_at_call 14; refine (HLE.out xs _ _ _ _ _ (by have := HXL.out; omega) (Q3.out.below (below9 (by assumption))) Q7.out).mono ?_; rintro e w5 ⟨rfl, hb5⟩; dsimp only)
          | (go_at_call 13; refine (HM.out _ (below_next HB2.out (below9 (by assumption)))).mono ?_; rintro e w5 ⟨rfl, hb5⟩; dsimp only)
          | (go_at_call 16; refine (HRM.out _ (below_next HB2.out (below9 (by assumption)))).mono ?_; rintro e w5 ⟨rfl, hb5⟩; dsimp only)
        )
      rename_i hs
      have HB5 := Lib.hid (below_next HB2.out (below9 hs))
      clear hs
      go_wp2_with fail
      go_ret
      exact ⟨rfl, HB5.out⟩
    · have hA := hA h1
      have e1 : (60 : Int) < (xl.length : Int) := by omega
      have e2 : (xl.length : Int) ≤ 200 := by omega
      have h3 : 60 ≤ sc := h3
      have e3 : (60 : Int) ≤ sc := by omega
      obtain ⟨b, off, rfl⟩ := hA
      go_enter Try.func3, Try.ntmps3
      go_wp2_with fail
      refine (HK.out _ HB0.out).mono ?_
      rintro e w1 ⟨A1, c1, rfl, q1, q2, q3, hb1⟩
      have LJ1 := Lib.hid (LJ.out.below hb1)
      have HB1 := Lib.hid (below_next HB0.out hb1)
      have HRW := Lib.hid (row_new1 w1 (.slice (some ⟨b, off, none⟩) 60 sc))
      have HBR := Lib.hid (below_al (o := .cells #[.slice (some ⟨b, off, none⟩) 60 sc] 24) (Below.refl w1.heap.size w1))
      have Q3 := Lib.hid q3
      have x0 := LJ1.out.cell (j := 0) rfl; have x1 := LJ1.out.cell (j := 1) rfl; have x2 := LJ1.out.cell (j := 2) rfl; have x3 := LJ1.out.cell (j := 3) rfl; have x4 := LJ1.out.cell (j := 4) rfl; have x5 := LJ1.out.cell (j := 5) rfl; have x6 := LJ1.out.cell (j := 6) rfl; have x7 := LJ1.out.cell (j := 7) rfl
      simp only at q1
      clear q3 hb1 q1 q2
      go_wp2_with fail
      refine (HC.out _ _ (below_next HB1.out HBR.out) HRW.out).mono ?_
      rintro e w2 ⟨rfl, hb2⟩
      have hb12 := below_next HBR.out hb2
      have S0 := start9 (LJ1.out.below hb12)
      have Q3 := Lib.hid (Q3.out.below hb12)
      have HB2 := Lib.hid (below_next HB1.out hb12)
      clear hb2 hb12 x0 x1 x2 x3 x4 x5 x6 x7
      go_wp2_with fail
      go_region_held3 (fun w' => w'.cell? ⟨w.heap.size, 0, none⟩ = some (.int .i64 j.groups) ∧ w'.cell? ⟨w.heap.size, 1, none⟩ = some (.int .i64 j.size) ∧ w'.cell? ⟨w.heap.size, 2, none⟩ = some (.int .i64 j.slide) ∧ w'.cell? ⟨w.heap.size, 3, none⟩ = some (.int .i64 j.fold) ∧ w'.cell? ⟨w.heap.size, 4, none⟩ = some (.int .i64 j.fuel) ∧ w'.cell? ⟨w.heap.size, 5, none⟩ = some (.int .i64 j.limit) ∧ w'.cell? ⟨w.heap.size, 6, none⟩ = some (.int .i64 j.delay) ∧ w'.cell? ⟨w.heap.size, 7, none⟩ = some (.int .i64 j.idle) ∧ Below w2.heap.size w2 w')
        (first | with_reducible assumption | (with_reducible refine keep9 hb5 ?_; with_reducible assumption))
        (first
          | (go_at_call 12; refine (HA.out _).mono ?_; rintro e w5 ⟨rfl, hb5⟩; dsimp only)
          | (go_at_call 15; refine (HRK.out _ (below_next HB2.out (below9 (by assumption)))).mono ?_; rintro e w5 ⟨A5, c5, rfl, q5, q6, q7, hb5⟩; have Q7 := Lib.hid q7; clear q5 q6 q7; dsimp only)
          | (go_at_call 14; refine (HLE.out xs _ _ _ _ _ (by have := HXL.out; omega) (Q3.out.below (below9 (by assumption))) Q7.out).mono ?_; rintro e w5 ⟨rfl, hb5⟩; dsimp only)
          | (go_at_call 13; refine (HM.out _ (below_next HB2.out (below9 (by assumption)))).mono ?_; rintro e w5 ⟨rfl, hb5⟩; dsimp only)
          | (go_at_call 16; refine (HRM.out _ (below_next HB2.out (below9 (by assumption)))).mono ?_; rintro e w5 ⟨rfl, hb5⟩; dsimp only)
        )
      rename_i hs
      have HB5 := Lib.hid (below_next HB2.out (below9 hs))
      clear hs
      go_wp2_with fail
      go_ret
      exact ⟨rfl, HB5.out⟩
  · have HK := Lib.hid (fun w' hb => show Calls Try.prog 10 #[jbV j, .slice s.A n s.c] w' (GivesE ([], z) w') from HKN.out hz0 ▸ HO.out.kept w' hb)
    have HM := Lib.hid (fun w' hb => show Calls Try.prog 13 #[jbV j, .slice s.A n s.c] w' (TellsI 0 w') from HMN.out hz0 ▸ HO.out.mark w' hb)
    have HC := Lib.hid (fun w' b hb hr => show Calls Try.prog 11 #[jbV j, .slice (some ⟨b, 0, none⟩) 1 1] w' (TellsI z w') from HZ.out ▸ HRf.out.check w' b hb hr)
    have g1 : (z == 0) = false := ne_b hz0
    have g2 := nb hz0
    have g3 : (z == z) = true := eq_b rfl
    clear HO HRf HKO HKN HMO HMN HL2 HZ
    obtain ⟨SA, sc, sl⟩ := s
    simp only at HK HM HC hA
    rcases hway with ⟨h1, rfl⟩ | ⟨⟨h1, h2⟩, rfl⟩ | ⟨⟨h1, h2, h3⟩, rfl⟩
    · clear hA
      have e1 : ¬ (60 : Int) < (xl.length : Int) := by omega
      go_enter Try.func3, Try.ntmps3
      go_wp2_with fail
      refine (HK.out _ HB0.out).mono ?_
      rintro e w1 ⟨A1, c1, rfl, q1, q2, q3, hb1⟩
      have LJ1 := Lib.hid (LJ.out.below hb1)
      have HB1 := Lib.hid (below_next HB0.out hb1)
      have HRW := Lib.hid (row_new1 w1 (.slice SA xl.length sc))
      have HBR := Lib.hid (below_al (o := .cells #[.slice SA xl.length sc] 24) (Below.refl w1.heap.size w1))
      have x0 := LJ1.out.cell (j := 0) rfl; have x1 := LJ1.out.cell (j := 1) rfl; have x2 := LJ1.out.cell (j := 2) rfl; have x3 := LJ1.out.cell (j := 3) rfl; have x4 := LJ1.out.cell (j := 4) rfl; have x5 := LJ1.out.cell (j := 5) rfl; have x6 := LJ1.out.cell (j := 6) rfl; have x7 := LJ1.out.cell (j := 7) rfl
      clear q3 hb1 q1 q2
      go_wp2_with fail
      refine (HC.out _ _ (below_next HB1.out HBR.out) HRW.out).mono ?_
      rintro e w2 ⟨rfl, hb2⟩
      have hb12 := below_next HBR.out hb2
      have LJ2 := Lib.hid (LJ1.out.below hb12)
      have HB2 := Lib.hid (below_next HB1.out hb12)
      clear hb2 hb12 x0 x1 x2 x3 x4 x5 x6 x7
      go_wp2_with fail
      refine (HA.out _).mono ?_
      rintro e w3 ⟨rfl, hb3⟩
      have LJ3 := LJ2.out.below hb3
      have HB3 := Lib.hid (below_next HB2.out hb3)
      have x0 := LJ3.cell (j := 0) rfl; have x1 := LJ3.cell (j := 1) rfl; have x2 := LJ3.cell (j := 2) rfl; have x3 := LJ3.cell (j := 3) rfl; have x4 := LJ3.cell (j := 4) rfl; have x5 := LJ3.cell (j := 5) rfl; have x6 := LJ3.cell (j := 6) rfl; have x7 := LJ3.cell (j := 7) rfl
      clear hb3 LJ3
      go_wp2_with fail
      refine (HM.out _ HB3.out).mono ?_
      rintro e w4 ⟨rfl, hb4⟩
      have HB4 := Lib.hid (below_next HB3.out hb4)
      clear hb4 x0 x1 x2 x3 x4 x5 x6 x7
      go_wp2_with fail
      go_ret
      exact ⟨rfl, HB4.out⟩
    · clear hA
      have e1 : (60 : Int) < (xl.length : Int) := by omega
      have e2 : ¬ (xl.length : Int) ≤ 200 := by omega
      go_enter Try.func3, Try.ntmps3
      go_wp2_with fail
      refine (HK.out _ HB0.out).mono ?_
      rintro e w1 ⟨A1, c1, rfl, q1, q2, q3, hb1⟩
      have LJ1 := Lib.hid (LJ.out.below hb1)
      have HB1 := Lib.hid (below_next HB0.out hb1)
      have HRW := Lib.hid (row_new1 w1 (.slice SA xl.length sc))
      have HBR := Lib.hid (below_al (o := .cells #[.slice SA xl.length sc] 24) (Below.refl w1.heap.size w1))
      have x0 := LJ1.out.cell (j := 0) rfl; have x1 := LJ1.out.cell (j := 1) rfl; have x2 := LJ1.out.cell (j := 2) rfl; have x3 := LJ1.out.cell (j := 3) rfl; have x4 := LJ1.out.cell (j := 4) rfl; have x5 := LJ1.out.cell (j := 5) rfl; have x6 := LJ1.out.cell (j := 6) rfl; have x7 := LJ1.out.cell (j := 7) rfl
      clear q3 hb1 q1 q2
      go_wp2_with fail
      refine (HC.out _ _ (below_next HB1.out HBR.out) HRW.out).mono ?_
      rintro e w2 ⟨rfl, hb2⟩
      have hb12 := below_next HBR.out hb2
      have LJ2 := Lib.hid (LJ1.out.below hb12)
      have HB2 := Lib.hid (below_next HB1.out hb12)
      clear hb2 hb12 x0 x1 x2 x3 x4 x5 x6 x7
      go_wp2_with fail
      refine (HA.out _).mono ?_
      rintro e w3 ⟨rfl, hb3⟩
      have LJ3 := LJ2.out.below hb3
      have HB3 := Lib.hid (below_next HB2.out hb3)
      have x0 := LJ3.cell (j := 0) rfl; have x1 := LJ3.cell (j := 1) rfl; have x2 := LJ3.cell (j := 2) rfl; have x3 := LJ3.cell (j := 3) rfl; have x4 := LJ3.cell (j := 4) rfl; have x5 := LJ3.cell (j := 5) rfl; have x6 := LJ3.cell (j := 6) rfl; have x7 := LJ3.cell (j := 7) rfl
      clear hb3 LJ3
      go_wp2_with fail
      refine (HM.out _ HB3.out).mono ?_
      rintro e w4 ⟨rfl, hb4⟩
      have HB4 := Lib.hid (below_next HB3.out hb4)
      clear hb4 x0 x1 x2 x3 x4 x5 x6 x7
      go_wp2_with fail
      go_ret
      exact ⟨rfl, HB4.out⟩
    · have hA := hA h1
      have e1 : (60 : Int) < (xl.length : Int) := by omega
      have e2 : (xl.length : Int) ≤ 200 := by omega
      have h3 : 60 ≤ sc := h3
      have e3 : (60 : Int) ≤ sc := by omega
      obtain ⟨b, off, rfl⟩ := hA
      go_enter Try.func3, Try.ntmps3
      go_wp2_with fail
      refine (HK.out _ HB0.out).mono ?_
      rintro e w1 ⟨A1, c1, rfl, q1, q2, q3, hb1⟩
      have LJ1 := Lib.hid (LJ.out.below hb1)
      have HB1 := Lib.hid (below_next HB0.out hb1)
      have HRW := Lib.hid (row_new1 w1 (.slice (some ⟨b, off, none⟩) 60 sc))
      have HBR := Lib.hid (below_al (o := .cells #[.slice (some ⟨b, off, none⟩) 60 sc] 24) (Below.refl w1.heap.size w1))
      have x0 := LJ1.out.cell (j := 0) rfl; have x1 := LJ1.out.cell (j := 1) rfl; have x2 := LJ1.out.cell (j := 2) rfl; have x3 := LJ1.out.cell (j := 3) rfl; have x4 := LJ1.out.cell (j := 4) rfl; have x5 := LJ1.out.cell (j := 5) rfl; have x6 := LJ1.out.cell (j := 6) rfl; have x7 := LJ1.out.cell (j := 7) rfl
      clear q3 hb1 q1 q2
      go_wp2_with fail
      refine (HC.out _ _ (below_next HB1.out HBR.out) HRW.out).mono ?_
      rintro e w2 ⟨rfl, hb2⟩
      have hb12 := below_next HBR.out hb2
      have LJ2 := Lib.hid (LJ1.out.below hb12)
      have HB2 := Lib.hid (below_next HB1.out hb12)
      clear hb2 hb12 x0 x1 x2 x3 x4 x5 x6 x7
      go_wp2_with fail
      refine (HA.out _).mono ?_
      rintro e w3 ⟨rfl, hb3⟩
      have LJ3 := LJ2.out.below hb3
      have HB3 := Lib.hid (below_next HB2.out hb3)
      have x0 := LJ3.cell (j := 0) rfl; have x1 := LJ3.cell (j := 1) rfl; have x2 := LJ3.cell (j := 2) rfl; have x3 := LJ3.cell (j := 3) rfl; have x4 := LJ3.cell (j := 4) rfl; have x5 := LJ3.cell (j := 5) rfl; have x6 := LJ3.cell (j := 6) rfl; have x7 := LJ3.cell (j := 7) rfl
      clear hb3 LJ3
      go_wp2_with fail
      refine (HM.out _ HB3.out).mono ?_
      rintro e w4 ⟨rfl, hb4⟩
      have HB4 := Lib.hid (below_next HB3.out hb4)
      clear hb4 x0 x1 x2 x3 x4 x5 x6 x7
      go_wp2_with fail
      go_ret
      exact ⟨rfl, HB4.out⟩
theorem lawModelKeeps : Lift.Owes 3 [23, 24] := by
  intro H enc W base args ds ps hval hA _ _
  obtain ⟨v0, v1, d0, d1, p0, p1, rfl, rfl, rfl, h0, h1⟩ := trodAll_two hA
  obtain ⟨j, rfl, hl⟩ := Jo.openJb (hval 0 _ v0 rfl rfl) h0
  obtain ⟨⟨A, c, l⟩, rfl, hs⟩ := openEvsM (hval 1 _ v1 rfl rfl) h1
  exact walkModelKeeps j hl A c l W hs
end Mo
theorem lawModelKeeps : Lift.Owes 3 [23, 24] := Mo.lawModelKeeps
end Go.Proofs.Ytipmphkmeiogoaa
