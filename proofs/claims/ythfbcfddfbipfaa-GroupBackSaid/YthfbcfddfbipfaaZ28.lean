/- GroupAdvR, GroupFew, put together. -/
import Derived.Test.YthfbcfddfbipfaaZ27
/- Advance of the reference. -/
namespace Go.Proofs.Ythfbcfddfbipfaa
open Go.RowKit
set_option linter.unusedVariables false
set_option maxRecDepth 8000
namespace Grp
open Pan (Pn Pl Rs resOf resO)
/-- What Advance tells. -/
def advO (j : Jb) (g : Gp) (m : Int) : Gp × List Rs × Int :=
  if jobOk j then (if right g then ((adv g m).1, (adv g m).2.map (resOf j.fold), 0) else (none_, [], 1)) else (none_, [], 130)
/-- Hands back a group, results, an error; what was stays. -/
def GivesGR (o : Gp × List Rs × Int) (w : World) (e : Ending) (w' : World) : Prop :=
  ∃ A c A' c', e = .returned (.tuple #[gpV o.1.no o.1.mark (.slice A o.1.ps.length c), .slice A' o.2.1.length c', .int .i64 o.2.2]) ∧ o.1.ps.length ≤ c ∧ c ≤ maxLen ∧ o.2.1.length ≤ c' ∧ c' ≤ maxLen ∧ Row w' A (pc o.1.ps) ∧ Row w' A' (rc o.2.1) ∧ Below w.heap.size w w'
/-- The three blocks of a call. -/
structure Three (w0 : World) (j : Jb) (no mark : Int) (sv : Value) (w : World) : Prop where
  job : Lies w0.heap.size (jbC j) 23 w
  gp : Lies (w0.heap.size + 1) (gpC no mark sv) 26 w
  res : Lies (w0.heap.size + 1 + 1) (gpC 0 0 (.slice none 0 0)) 26 w
  below : Below w0.heap.size w0 w
theorem Three.start (w : World) (j : Jb) (no mark : Int) (sv : Value) : Three w j no mark sv (((w.alloc (.cells (jbC j) 23)).alloc (.cells (gpC no mark sv) 26)).alloc (.cells (gpC 0 0 (.slice none 0 0)) 26)) where
  job := ((Lies.new w _ _).al).al
  gp := by have h := (Lies.new (w.alloc (.cells (jbC j) 23)) (gpC no mark sv) 26).al (o := .cells (gpC 0 0 (.slice none 0 0)) 26); rwa [World.size_alloc] at h
  res := by have h := Lies.new ((w.alloc (.cells (jbC j) 23)).alloc (.cells (gpC no mark sv) 26)) (gpC 0 0 (.slice none 0 0)) 26; rwa [World.size_alloc, World.size_alloc] at h
  below := below_al (below_al (below_al (Below.refl _ _)))
theorem Three.next {w0 a c : World} {j : Jb} {no mark : Int} {sv : Value} (h : Three w0 j no mark sv a) (hb : Below a.heap.size a c) : Three w0 j no mark sv c where
  job := (hb.block _ (lt_of_block h.job)).trans h.job
  gp := (hb.block _ (lt_of_block h.gp)).trans h.gp
  res := (hb.block _ (lt_of_block h.res)).trans h.res
  below := below_next h.below hb
theorem row_set {W : World} {A : Option Addr} {cs : List Value} {R : Nat} {C : Array Value} {T : TypeId} (h : Row W A cs) (hL : Lies R C T W) (hn : cs = [] ∨ C.size < cs.length) (i : Nat) (v : Value) : Row (W.setCell ⟨R, i, none⟩ v) A cs := by
  rcases h with h | ⟨b, off, rfl, h⟩
  · exact .inl h
  · rcases hn with hn | hn
    · exact .inl hn
    · have hb : b ≠ R := by
        rintro rfl
        have h1 := h (cs.length - 1) _ (List.getElem?_eq_getElem (by omega))
        unfold Lies at hL
        simp only [World.cell?, hL] at h1
        have h2 : C[off + (cs.length - 1)]? = none := Array.getElem?_eq_none (by omega)
        rw [h2] at h1; cases h1
      exact .inr ⟨b, off, rfl, fun j u hu => (World.cell?_of_block (Below.heap_setCell W ⟨R, i, none⟩ v b hb)).trans (h j u hu)⟩
theorem pc_big (xs : List Pn) : pc xs = [] ∨ 3 < (pc xs).length := by
  cases xs with
  | nil => exact .inl rfl
  | cons x r => exact .inr (by simp [pc, pL])
theorem rc_big (xs : List Rs) : rc xs = [] ∨ 3 < (rc xs).length := by
  cases xs with
  | nil => exact .inl rfl
  | cons x r => exact .inr (by simp [rc, rL])
/-- A block of three cells, laid anew. -/
abbrev set3 (W : World) (R : Nat) (a b : Int) (v : Value) : World := ((W.setCell ⟨R, 0, none⟩ (.int .i64 a)).setCell ⟨R, 1, none⟩ (.int .i64 b)).setCell ⟨R, 2, none⟩ v
theorem Lies.set3 {W : World} {R : Nat} {a0 b0 : Int} {v0 : Value} {T : TypeId} (h : Lies R (gpC a0 b0 v0) T W) (a b : Int) (v : Value) : Lies R (gpC a b v) T (set3 W R a b v) := ((h.set 0 _).set 1 _).set 2 _
theorem row_set3 {W : World} {A : Option Addr} {cs : List Value} {R : Nat} {a0 b0 : Int} {v0 : Value} {T : TypeId} (h : Row W A cs) (hL : Lies R (gpC a0 b0 v0) T W) (hn : cs = [] ∨ 3 < cs.length) (a b : Int) (v : Value) : Row (set3 W R a b v) A cs :=
  row_set (row_set (row_set h hL hn 0 _) (hL.set 0 _) hn 1 _) ((hL.set 0 _).set 1 _) hn 2 _
theorem below_set3 {B R : Nat} {u W : World} (h : Below B u W) (hb : B ≤ R) (a b : Int) (v : Value) : Below B u (set3 W R a b v) := ((h.setCell (p := ⟨R, 0, none⟩) hb _).setCell (p := ⟨R, 1, none⟩) hb _).setCell (p := ⟨R, 2, none⟩) hb _
theorem adv_ret {w wF : World} {R : Nat} {o : Gp × List Rs × Int} {A A' : Option Addr} {c c' : Nat} {act : Act} (ht : act.tmps.getD 6 undef = .pointer (some ⟨R, 0, none⟩)) (hs : act.tmps.getD 7 undef = .slice A' o.2.1.length c') (hc : act.tmps.getD 8 undef = .int .i64 o.2.2) (hd : act.defers = [])
    (hL : Lies R (gpC o.1.no o.1.mark (.slice A o.1.ps.length c)) 26 wF) (h1 : o.1.ps.length ≤ c) (h2 : c ≤ maxLen) (h3 : o.2.1.length ≤ c') (h4 : c' ≤ maxLen) (h5 : Row wF A (pc o.1.ps)) (h6 : Row wF A' (rc o.2.1)) (hB : Below w.heap.size w wF) :
    bodyPost Try.prog Try.f20 (GivesGR o w) .ret act wF := by
  have c0 := hL.cell (j := 0) rfl
  have c1 := hL.cell (j := 1) rfl
  have c2 := hL.cell (j := 2) rfl
  refine bodyPost_ret (v := .tuple #[gpV o.1.no o.1.mark (.slice A o.1.ps.length c), .slice A' o.2.1.length c', .int .i64 o.2.2]) ?_ hd ⟨A, c, A', c', rfl, h1, h2, h3, h4, h5, h6, hB⟩
  have ht2 : act.tmps[6]?.getD undef = .pointer (some ⟨R, 0, none⟩) := by simpa using ht
  have hs2 : act.tmps[7]?.getD undef = .slice A' o.2.1.length c' := by simpa using hs
  have hc2 : act.tmps[8]?.getD undef = .int .i64 o.2.2 := by simpa using hc
  simp [results, Try.results20, go_sem, ht2, hs2, hc2, c0, c1, c2]
theorem adv_end {w W : World} {o : Gp × List Rs × Int} {A A' : Option Addr} {c c' : Nat} {a0 b0 : Int} {v0 : Value} {act : Act} (ht : act.tmps.getD 6 undef = .pointer (some ⟨w.heap.size + 1 + 1, 0, none⟩)) (hs : act.tmps.getD 7 undef = .slice A' o.2.1.length c') (hc : act.tmps.getD 8 undef = .int .i64 o.2.2) (hd : act.defers = [])
    (hL : Lies (w.heap.size + 1 + 1) (gpC a0 b0 v0) 26 W) (h1 : o.1.ps.length ≤ c) (h2 : c ≤ maxLen) (h3 : o.2.1.length ≤ c') (h4 : c' ≤ maxLen) (h5 : Row W A (pc o.1.ps)) (h6 : Row W A' (rc o.2.1)) (hB : Below w.heap.size w W) :
    bodyPost Try.prog Try.f20 (GivesGR o w) .ret act (set3 W (w.heap.size + 1 + 1) o.1.no o.1.mark (.slice A o.1.ps.length c)) :=
  adv_ret ht hs hc hd (Lies.set3 hL _ _ _) h1 h2 h3 h4 (row_set3 h5 hL (pc_big _) _ _ _) (row_set3 h6 hL (rc_big _) _ _ _) (below_set3 hB (by omega) _ _ _)
set_option maxRecDepth 100000 in
set_option maxHeartbeats 2000000 in
theorem rfAdvance (j : Jb) (g : Gp) (m : Int) (A : Option Addr) (c : Nat) (w : World) (hA : Row w A (pc g.ps)) (hl : g.ps.length ≤ c) (hc : c ≤ maxLen) :
    Calls Try.prog 20 #[jbV j, gpV g.no g.mark (.slice A g.ps.length c), .int .i64 m] w (GivesGR (advO j g m) w) := by
  have hL : g.ps.length ≤ 9223372036854775807 := by unfold maxLen at hc; omega
  obtain ⟨no, mark, xs⟩ := g
  simp only at hA hl hL ⊢
  have HJ := Lib.hid (fun w' => rfJob j w')
  have HR := Lib.hid (fun w' (hb : Below w.heap.size w w') => rfRight ⟨no, mark, xs⟩ A c w' (hA.below hb) hL)
  have HD := Lib.hid (fun m w' (hb : Below w.heap.size w w') => rfDue xs A c m w' (hA.below hb) hL)
  have T0 := Lib.hid (Three.start w j no mark (.slice A xs.length c))
  have HA := Lib.hid hA
  clear hA
  cases hj : jobOk j
  · have HO := Lib.hid (show advO j ⟨no, mark, xs⟩ m = (none_, [], 130) by simp [advO, hj])
    go_enter Try.func20, Try.ntmps20
    go_wp2_with fail
    refine (HJ.out _).mono ?_
    rw [hj]
    rintro e w1 ⟨rfl, hb1⟩
    have T1 := Lib.hid (T0.out.next hb1)
    have r0 := T1.out.res.cell (j := 0) rfl; have r1 := T1.out.res.cell (j := 1) rfl; have r2 := T1.out.res.cell (j := 2) rfl
    have f0 := T1.out.res.free 0; have f1 := T1.out.res.free 1; have f2 := T1.out.res.free 2
    clear hb1 hj
    go_wp2_with fail
    rw [HO.out]
    exact adv_end (o := (none_, [], 130)) rfl rfl rfl rfl T1.out.res (Nat.le_refl _) (by simp [maxLen]) (Nat.le_refl _) (by simp [maxLen]) Row.nil Row.nil T1.out.below
  · cases hr : right ⟨no, mark, xs⟩
    · have HO := Lib.hid (show advO j ⟨no, mark, xs⟩ m = (none_, [], 1) by simp [advO, hj, hr])
      go_enter Try.func20, Try.ntmps20
      go_wp2_with fail
      refine (HJ.out _).mono ?_
      rw [hj]
      rintro e w1 ⟨rfl, hb1⟩
      have T1 := Lib.hid (T0.out.next hb1)
      have g0 : w1.cell? ⟨w.heap.size + 1, 0, none⟩ = some (.int .i64 no) := T1.out.gp.cell (j := 0) rfl
      have g1 : w1.cell? ⟨w.heap.size + 1, 1, none⟩ = some (.int .i64 mark) := T1.out.gp.cell (j := 1) rfl
      have g2 : w1.cell? ⟨w.heap.size + 1, 2, none⟩ = some (.slice A xs.length c) := T1.out.gp.cell (j := 2) rfl
      clear hb1 hj
      go_wp2_with fail
      refine (HR.out _ T1.out.below).mono ?_
      rw [hr]
      rintro e w2 ⟨rfl, hb2⟩
      have T2 := Lib.hid (T1.out.next hb2)
      have r0 := T2.out.res.cell (j := 0) rfl; have r1 := T2.out.res.cell (j := 1) rfl; have r2 := T2.out.res.cell (j := 2) rfl
      have f0 := T2.out.res.free 0; have f1 := T2.out.res.free 1; have f2 := T2.out.res.free 2
      clear hb2 hr g0 g1 g2
      go_wp2_with fail
      rw [HO.out]
      exact adv_end (o := (none_, [], 1)) rfl rfl rfl rfl T2.out.res (Nat.le_refl _) (by simp [maxLen]) (Nat.le_refl _) (by simp [maxLen]) Row.nil Row.nil T2.out.below
    · by_cases hm : m ≤ mark
      · have HO := Lib.hid (show advO j ⟨no, mark, xs⟩ m = (⟨no, mark, xs⟩, [], 0) by simp [advO, hj, hr, adv_stay (g := ⟨no, mark, xs⟩) hm])
        go_enter Try.func20, Try.ntmps20
        go_wp2_with fail
        refine (HJ.out _).mono ?_
        rw [hj]
        rintro e w1 ⟨rfl, hb1⟩
        have T1 := Lib.hid (T0.out.next hb1)
        have g0 : w1.cell? ⟨w.heap.size + 1, 0, none⟩ = some (.int .i64 no) := T1.out.gp.cell (j := 0) rfl
        have g1 : w1.cell? ⟨w.heap.size + 1, 1, none⟩ = some (.int .i64 mark) := T1.out.gp.cell (j := 1) rfl
        have g2 : w1.cell? ⟨w.heap.size + 1, 2, none⟩ = some (.slice A xs.length c) := T1.out.gp.cell (j := 2) rfl
        clear hb1 hj
        go_wp2_with fail
        refine (HR.out _ T1.out.below).mono ?_
        rw [hr]
        rintro e w2 ⟨rfl, hb2⟩
        have T2 := Lib.hid (T1.out.next hb2)
        have k0 : w2.cell? ⟨w.heap.size + 1, 0, none⟩ = some (.int .i64 no) := T2.out.gp.cell (j := 0) rfl
        have k1 : w2.cell? ⟨w.heap.size + 1, 1, none⟩ = some (.int .i64 mark) := T2.out.gp.cell (j := 1) rfl
        have k2 : w2.cell? ⟨w.heap.size + 1, 2, none⟩ = some (.slice A xs.length c) := T2.out.gp.cell (j := 2) rfl
        have r0 := T2.out.res.cell (j := 0) rfl; have r1 := T2.out.res.cell (j := 1) rfl; have r2 := T2.out.res.cell (j := 2) rfl
        have f0 := T2.out.res.free 0; have f1 := T2.out.res.free 1; have f2 := T2.out.res.free 2
        clear hb2 hr g0 g1 g2
        go_wp2_with fail
        rw [HO.out]
        exact adv_end (o := (⟨no, mark, xs⟩, [], 0)) rfl rfl rfl rfl T2.out.res hl hc (Nat.le_refl _) (by simp [maxLen]) (HA.out.below T2.out.below) Row.nil T2.out.below
      · have hpr : Pan.right xs = true := ((right_iff _).1 hr).2.1
        have hfold : Acm.isK j.fold = true := by unfold jobOk at hj; rw [Bool.and_eq_true] at hj; exact hj.2
        obtain ⟨q, hq⟩ : ∃ q, q = clamp m := ⟨_, rfl⟩
        have HO := Lib.hid (show advO j ⟨no, mark, xs⟩ m = (⟨no, q, Pan.rest q xs⟩, (Pan.due q xs).map (resOf j.fold), 0) by simp [advO, hj, hr, adv_go (g := ⟨no, mark, xs⟩) hm, hq])
        have HRES := Lib.hid (fun A1 c1 w' (h : Row w' A1 (pc (Pan.due q xs))) (hl : (Pan.due q xs).length ≤ 9223372036854775807) => show Calls Try.prog 47 #[.int .i64 j.fold, .slice A1 (Pan.due q xs).length c1] w' (GivesR ((Pan.due q xs).map (resOf j.fold)) w') by
          have h := rfResults j.fold (Pan.due q xs) A1 c1 w' h hl
          unfold resO at h
          rw [Pan.due_right hpr, hfold] at h
          exact h)
        have HDU := Lib.hid (fun w' (hb : Below w.heap.size w w') => show Calls Try.prog 46 #[.slice A xs.length c, .int .i64 q] w' (GivesPP (Pan.due q xs) (Pan.rest q xs) w') by
          have h := HD.out q w' hb
          rw [hpr] at h
          exact h)
        have hway : (1099511627776 < m ∧ q = 1099511627776) ∨ (¬ 1099511627776 < m ∧ q = m) := by
          unfold clamp at hq
          split at hq
          · exact .inl ⟨by assumption, hq⟩
          · exact .inr ⟨by assumption, hq⟩
        clear hpr hfold hq
        rcases hway with ⟨hf, rfl⟩ | ⟨hf, rfl⟩
        all_goals (
          go_enter Try.func20, Try.ntmps20
          go_wp2_with fail
          refine (HJ.out _).mono ?_
          rw [hj]
          rintro e w1 ⟨rfl, hb1⟩
          have T1 := Lib.hid (T0.out.next hb1)
          have g0 : w1.cell? ⟨w.heap.size + 1, 0, none⟩ = some (.int .i64 no) := T1.out.gp.cell (j := 0) rfl
          have g1 : w1.cell? ⟨w.heap.size + 1, 1, none⟩ = some (.int .i64 mark) := T1.out.gp.cell (j := 1) rfl
          have g2 : w1.cell? ⟨w.heap.size + 1, 2, none⟩ = some (.slice A xs.length c) := T1.out.gp.cell (j := 2) rfl
          clear hb1 hj
          go_wp2_with fail
          refine (HR.out _ T1.out.below).mono ?_
          rw [hr]
          rintro e w2 ⟨rfl, hb2⟩
          have T2 := Lib.hid (T1.out.next hb2)
          have k0 : w2.cell? ⟨w.heap.size + 1, 0, none⟩ = some (.int .i64 no) := T2.out.gp.cell (j := 0) rfl
          have k1 : w2.cell? ⟨w.heap.size + 1, 1, none⟩ = some (.int .i64 mark) := T2.out.gp.cell (j := 1) rfl
          have k2 : w2.cell? ⟨w.heap.size + 1, 2, none⟩ = some (.slice A xs.length c) := T2.out.gp.cell (j := 2) rfl
          clear hb2 hr g0 g1 g2
          go_wp2_with fail
          refine (HDU.out _ T2.out.below).mono ?_
          rintro e w3 ⟨A1, c1, A2, c2, rfl, l1, m1, l2, m2, R1, R2, hb3⟩
          have T3 := Lib.hid (T2.out.next hb3)
          have HR1 := Lib.hid R1; have HR2 := Lib.hid R2
          have x0 : w3.cell? ⟨w.heap.size + 1, 0, none⟩ = some (.int .i64 no) := T3.out.gp.cell (j := 0) rfl
          have y3 : w3.cell? ⟨w.heap.size, 3, none⟩ = some (.int .i64 j.fold) := T3.out.job.cell (j := 3) rfl
          have HL1 := Lib.hid (And.intro l1 m1); have HL2 := Lib.hid (And.intro l2 m2)
          clear hb3 k0 k1 k2 R1 R2 l1 m1 l2 m2
          go_wp2_with fail
          have HLN := Lib.hid (show _ ≤ 9223372036854775807 from by have := HL1.out.1; have h := HL1.out.2; unfold maxLen at h; exact Nat.le_trans this (by omega))
          go_region_with (go_at_call 47; refine (HRES.out A1 c1 w3.drew HR1.out.drewV HLN.out).mono ?_; rintro e w5 ⟨A5, c5, rfl, l5, m5, R5, hb5⟩; have T5 := Lib.hid (T3.out.next (c := w5) ⟨hb5.os, hb5.tape, hb5.output, hb5.size, hb5.block⟩); have HR5 := Lib.hid R5; have HL5 := Lib.hid (And.intro l5 m5); have HR2' := Lib.hid (HR2.out.below (w' := w5) ⟨hb5.os, hb5.tape, hb5.output, hb5.size, hb5.block⟩); have z0 : w5.cell? ⟨w.heap.size + 1, 0, none⟩ = some (.int .i64 no) := T5.out.gp.cell (j := 0) rfl; have r0 := T5.out.res.cell (j := 0) rfl; have r1 := T5.out.res.cell (j := 1) rfl; have r2 := T5.out.res.cell (j := 2) rfl; have f0 := T5.out.res.free 0; have f1 := T5.out.res.free 1; have f2 := T5.out.res.free 2; clear R5 l5 m5 hb5)
          all_goals (
            go_wp2_with fail
            rw [HO.out]
            exact adv_end (o := (⟨no, _, Pan.rest _ xs⟩, (Pan.due _ xs).map (resOf j.fold), 0)) rfl (by rw [List.length_map]; rfl) rfl rfl T5.out.res HL2.out.1 HL2.out.2 HL5.out.1 HL5.out.2 HR2'.out HR5.out T5.out.below))
end Grp
end Go.Proofs.Ythfbcfddfbipfaa
/- A group that came in; a group of few panes. -/
namespace Go.Proofs.Ythfbcfddfbipfaa
open Go.ChangeShapes Go.WideShapes Go.ChangeAt Go.RowKit
set_option linter.unusedVariables false
set_option maxRecDepth 8000
namespace Grp
open Pan (Pn Pl)
def fewL (xs : List Pn) : List Pn := if 60 < xs.length ∧ xs.length < 2000 then xs.take 60 else xs
/-- Hands back a group; what was stays. -/
def GivesG (no mark : Int) (xs : List Pn) (w : World) (e : Ending) (w' : World) : Prop :=
  ∃ A c, e = .returned (gpV no mark (.slice A xs.length c)) ∧ xs.length ≤ c ∧ c ≤ maxLen ∧ Row w' A (pc xs) ∧ Below w.heap.size w w'
theorem few_ret {w W : World} {R n : Nat} {no mark : Int} {xs : List Pn} {A : Option Addr} {c : Nat} {act : Act} (ht : act.tmps.getD 2 undef = .pointer (some ⟨R, 0, none⟩)) (hd : act.defers = [])
    (hn : n = xs.length) (hL : Lies R (gpC no mark (.slice A n c)) 26 W) (h1 : xs.length ≤ c) (h2 : c ≤ maxLen) (h5 : Row W A (pc xs)) (hB : Below w.heap.size w W) :
    bodyPost Try.prog Try.f10 (GivesG no mark xs w) .ret act W := by
  subst hn
  have c0 := hL.cell (j := 0) rfl
  have c1 := hL.cell (j := 1) rfl
  have c2 := hL.cell (j := 2) rfl
  refine bodyPost_ret (v := gpV no mark (.slice A xs.length c)) ?_ hd ⟨A, c, rfl, h1, h2, h5, hB⟩
  have ht2 : act.tmps[2]?.getD undef = .pointer (some ⟨R, 0, none⟩) := by simpa using ht
  simp [results, Try.results10, go_sem, ht2, c0, c1, c2]
theorem lies_two (w : World) (o : Obj) (C : Array Value) (T : TypeId) : Lies (w.heap.size + 1) C T ((w.alloc o).alloc (.cells C T)) := by
  have h := Lies.new (w.alloc o) C T
  rwa [World.size_alloc] at h
theorem lawFew (no mark : Int) (xs : List Pn) (A : Option Addr) (c : Nat) (w : World) (hA : Row w A (pc xs)) (hl : xs.length ≤ c) (hc : c ≤ maxLen) :
    Calls Try.prog 10 #[gpV no mark (.slice A xs.length c)] w (GivesG no mark (fewL xs) w) := by
  have HA := Lib.hid hA
  have HL := Lib.hid (And.intro hl hc)
  have hL : xs.length ≤ 9223372036854775807 := by unfold maxLen at hc; omega
  have hway : ¬ 60 < xs.length ∨ (60 < xs.length ∧ ¬ xs.length < 2000) ∨ (60 < xs.length ∧ xs.length < 2000) := by omega
  clear hA hl hc
  rcases hway with h1 | ⟨h1, h2⟩ | ⟨h1, h2⟩
  · have HF := Lib.hid (show fewL xs = xs from if_neg (by omega))
    have e1 : ¬ (60 : Int) < xs.length := by omega
    go_enter Try.func10, Try.ntmps10
    go_wp2_with fail
    rw [HF.out]
    exact few_ret (R := w.heap.size + 1) rfl rfl rfl (lies_two _ _ _ _) HL.out.1 HL.out.2 (HA.out.below (below_al (below_al (Below.refl _ _)))) (below_al (below_al (Below.refl _ _)))
  · have HF := Lib.hid (show fewL xs = xs from if_neg (by omega))
    have e1 : (60 : Int) < xs.length := by omega
    have e2 : ¬ (xs.length : Int) < 2000 := by omega
    go_enter Try.func10, Try.ntmps10
    go_wp2_with fail
    rw [HF.out]
    exact few_ret (R := w.heap.size + 1) rfl rfl rfl (lies_two _ _ _ _) HL.out.1 HL.out.2 (HA.out.below (below_al (below_al (Below.refl _ _)))) (below_al (below_al (Below.refl _ _)))
  · have HF := Lib.hid (show fewL xs = xs.take 60 from if_pos ⟨h1, h2⟩)
    have e1 : (60 : Int) < xs.length := by omega
    have e2 : (xs.length : Int) < 2000 := by omega
    have e3 : (60 : Int) ≤ c := by have := HL.out.1; omega
    obtain ⟨x, hx⟩ : ∃ x, xs[0]? = some x := ⟨_, List.getElem?_eq_getElem (by omega)⟩
    obtain ⟨b, off, rfl, _⟩ := HA.out.pn hx
    clear hx
    go_enter Try.func10, Try.ntmps10
    go_wp2_with fail
    rw [HF.out]
    exact few_ret (R := w.heap.size + 1) (n := 60) rfl rfl (by rw [List.length_take]; omega) (lies_two _ _ _ _) (by rw [List.length_take]; omega) HL.out.2 ((HA.out.takeP 60).below (below_al (below_al (Below.refl _ _)))) (below_al (below_al (Below.refl _ _)))
/-- A row of which no cell holds what is overwritten. -/
theorem row_cell {W : World} {A : Option Addr} {cs : List Value} {p : Addr} {u : Value} (h : Row W A cs) (hp : W.cell? p = some u) (hu : u ∉ cs) (v : Value) : Row (W.setCell p v) A cs := by
  rcases h with h | ⟨b, off, rfl, h⟩
  · exact .inl h
  · refine .inr ⟨b, off, rfl, fun j x hx => ?_⟩
    have h1 := h j x hx
    refine (World.cell?_setCell_other W p _ v ?_).trans h1
    rintro rfl
    rw [hp] at h1
    cases h1
    exact hu (List.mem_of_getElem? hx)
theorem wc_noslice (xs : List (Int × Int)) (A : Option Addr) (n c : Nat) : Value.slice A n c ∉ wc xs := by
  intro h
  obtain ⟨p, _, hp⟩ := List.mem_flatMap.1 h
  simp at hp
theorem pc_noslice (xs : List Pn) (A : Option Addr) (n c : Nat) : Value.slice A n c ∉ pc xs := by
  intro h
  obtain ⟨p, _, hp⟩ := List.mem_flatMap.1 h
  simp [pL] at hp
section
variable {H : Type} {enc : TypeId × Value → H} {w : World} {base : Nat} {spare : Nat → Bool} {held : Bool}
theorem gcells_gp : Try.prog.cellsOf 26 = 3 := by kernel_rfl
theorem gcells_job : Try.prog.cellsOf 23 = 8 := by kernel_rfl
theorem gcells_int : Try.prog.cellsOf 3 = 1 := by kernel_rfl
theorem gcells_sl : Try.prog.cellsOf 24 = 1 := by kernel_rfl
theorem gone_int {fuel : Nat} {c : Value} {x : DataW H × List MemPlace} (h : DataW.trod enc Try.prog w base spare held fuel 3 [c] = some x) : ∃ z : Int, c = .int .i64 z := by
  obtain ⟨z, h1, _, h3⟩ := DataW.trod_int Try.underlying3 h
  exact ⟨z, by simpa using h1⟩
theorem openJob {r : Reach} {b0 : Nat} {v : Value} {d : DataW H} {p : List MemPlace} (hval : Value.okWide Try.prog w r b0 23 v) (h : DataW.Trod enc Try.prog w base spare held 23 v d p) : ∃ j : Jb, v = jbV j := by
  obtain ⟨cs, rfl, hsz⟩ := okWide_struct Try.underlying23 hval
  obtain ⟨l⟩ := cs
  match l, hsz.trans gcells_job with
  | [c0, c1, c2, c3, c4, c5, c6, c7], _ =>
    obtain ⟨fuel, hf⟩ := h
    have h : DataW.trod enc Try.prog w base spare held fuel 23 [c0, c1, c2, c3, c4, c5, c6, c7] = some (d, p) := by simpa [Value.cells] using hf
    obtain ⟨xs, n, _, _, _, hlen, hg⟩ := DataW.trod_struct Try.underlying23 h
    have hl : xs.length = 8 := hlen
    match xs, hl with
    | [y0, y1, y2, y3, y4, y5, y6, y7], _ =>
      obtain ⟨a0, rfl⟩ := gone_int (x := y0) (by simpa [pcells_i64, gcells_int] using hg 0 _ rfl)
      obtain ⟨a1, rfl⟩ := pone_int (x := y1) (by simpa [pcells_i64, gcells_int] using hg 1 _ rfl)
      obtain ⟨a2, rfl⟩ := pone_int (x := y2) (by simpa [pcells_i64, gcells_int] using hg 2 _ rfl)
      obtain ⟨a3, rfl⟩ := gone_int (x := y3) (by simpa [pcells_i64, gcells_int] using hg 3 _ rfl)
      obtain ⟨a4, rfl⟩ := gone_int (x := y4) (by simpa [pcells_i64, gcells_int] using hg 4 _ rfl)
      obtain ⟨a5, rfl⟩ := pone_int (x := y5) (by simpa [pcells_i64, gcells_int] using hg 5 _ rfl)
      obtain ⟨a6, rfl⟩ := pone_int (x := y6) (by simpa [pcells_i64, gcells_int] using hg 6 _ rfl)
      obtain ⟨a7, rfl⟩ := gone_int (x := y7) (by simpa [pcells_i64, gcells_int] using hg 7 _ rfl)
      exact ⟨⟨a0, a1, a2, a3, a4, a5, a6, a7⟩, rfl⟩
theorem openGroup {r : Reach} {b0 : Nat} {v : Value} {d : DataW H} {p : List MemPlace} (hval : Value.okWide Try.prog w r b0 26 v) (h : DataW.Trod enc Try.prog w base spare held 26 v d p) :
    ∃ (no mark : Int) (xs : List Pn) (A : Option Addr) (c : Nat), v = gpV no mark (.slice A xs.length c) ∧ xs.length ≤ c ∧ c ≤ maxLen ∧ Row w A (pc xs) := by
  obtain ⟨cs, rfl, hsz⟩ := okWide_struct Try.underlying26 hval
  obtain ⟨l⟩ := cs
  match l, hsz.trans gcells_gp with
  | [c0, c1, c2], _ =>
    obtain ⟨fuel, hf⟩ := h
    have h : DataW.trod enc Try.prog w base spare held fuel 26 [c0, c1, c2] = some (d, p) := by simpa [Value.cells] using hf
    obtain ⟨xs, n, _, _, _, hlen, hg⟩ := DataW.trod_struct Try.underlying26 h
    have hl : xs.length = 3 := hlen
    match xs, hl with
    | [y0, y1, y2], _ =>
      obtain ⟨a0, rfl⟩ := gone_int (x := y0) (by simpa [pcells_i64, gcells_int, gcells_sl] using hg 0 _ rfl)
      obtain ⟨a1, rfl⟩ := pone_int (x := y1) (by simpa [pcells_i64, gcells_int, gcells_sl] using hg 1 _ rfl)
      obtain ⟨A, c, xs, rfl, h1, h2, h3⟩ := openPanesC (x := y2) (by simpa [pcells_i64, gcells_int, gcells_sl] using hg 2 _ rfl)
      exact ⟨a0, a1, xs, A, c, rfl, h1, h2, h3⟩
end
end Grp
end Go.Proofs.Ythfbcfddfbipfaa
