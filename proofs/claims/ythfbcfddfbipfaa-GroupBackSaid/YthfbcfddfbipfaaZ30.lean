/- GroupTakeR, put together. -/
import Derived.Test.YthfbcfddfbipfaaZ28
import Derived.Test.YthfbcfddfbipfaaZ8
/- Take of the reference. -/
namespace Go.Proofs.Ythfbcfddfbipfaa
open Go.RowKit
set_option linter.unusedVariables false
set_option maxRecDepth 8000
namespace Grp
open Pan (Pn Pl aOut)
/-- A value put to panes behind others, or the first error. -/
def stepE (k : Int) (o : List Pn × Int) (v : Pl × Int) : List Pn × Int := if o.2 = 0 then (if (aOut k o.1 v.1 v.2).2 = 0 then ((aOut k o.1 v.1 v.2).1, 0) else ([], (aOut k o.1 v.1 v.2).2)) else o
def allE (k : Int) (l : List Pn) (vs : List (Pl × Int)) : List Pn × Int := vs.foldl (stepE k) (l, 0)
theorem allE_push (k : Int) (l : List Pn) (vs : List (Pl × Int)) (v : Pl × Int) : allE k l (vs ++ [v]) = stepE k (allE k l vs) v := by simp [allE]
theorem allE_stop {k : Int} {o : List Pn × Int} (h : o.2 ≠ 0) : ∀ vs : List (Pl × Int), vs.foldl (stepE k) o = o
  | [] => rfl
  | v :: r => by rw [List.foldl_cons, show stepE k o v = o from if_neg h]; exact allE_stop h r
theorem allE_more {k : Int} {l : List Pn} {vs us : List (Pl × Int)} (h : (allE k l vs).2 ≠ 0) : allE k l (vs ++ us) = allE k l vs := by
  unfold allE at h ⊢
  rw [List.foldl_append]; exact allE_stop h us
/-- Without an error it is what allF tells. -/
theorem allE_F (k : Int) (l : List Pn) : ∀ vs : List (Pl × Int), Pan.allF k l vs = if (allE k l vs).2 = 0 then some (allE k l vs).1 else none := by
  refine Pan.list_snoc rfl fun vs v ih => ?_
  rw [Pan.allF_push, ih, allE_push]
  by_cases h : (allE k l vs).2 = 0
  · rw [if_pos h]
    unfold stepE Pan.step
    rw [if_pos h]
    simp only [Option.bind_some]
    by_cases h2 : (aOut k (allE k l vs).1 v.1 v.2).2 = 0
    · rw [if_pos h2, if_pos h2]; rfl
    · rw [if_neg h2, if_neg h2, if_neg h2]
  · rw [if_neg h, Pan.step_not, show stepE k (allE k l vs) v = allE k l vs from if_neg h, if_neg h]
/-- The windows of the first n. -/
def cellsTo (s d mark : Int) (e : Ev) (n : Nat) : List (Pl × Int) := (((Win.of s d e.at_).take n).filter fun p => decide (mark < p.2)).map fun p => (⟨p.1, p.2, e.key⟩, e.val)
theorem cellsTo_all (s d mark : Int) (e : Ev) : cellsTo s d mark e (Win.of s d e.at_).length = cells s d mark e := by unfold cellsTo cells; rw [List.take_length]
theorem cellsTo_closed {s d mark : Int} {e : Ev} {n : Nat} {p : Int × Int} (h : (Win.of s d e.at_)[n]? = some p) (hm : p.2 ≤ mark) : cellsTo s d mark e (n + 1) = cellsTo s d mark e n := by
  unfold cellsTo
  rw [List.take_add_one, h, List.filter_append]
  simp [show ¬ mark < p.2 by omega]
theorem cellsTo_open {s d mark : Int} {e : Ev} {n : Nat} {p : Int × Int} (h : (Win.of s d e.at_)[n]? = some p) (hm : ¬ p.2 ≤ mark) : cellsTo s d mark e (n + 1) = cellsTo s d mark e n ++ [(⟨p.1, p.2, e.key⟩, e.val)] := by
  unfold cellsTo
  rw [List.take_add_one, h, List.filter_append]
  simp [show mark < p.2 by omega]
theorem cells_split (s d mark : Int) (e : Ev) (n : Nat) : ∃ us, cells s d mark e = cellsTo s d mark e n ++ us := by
  unfold cells cellsTo
  refine ⟨(((Win.of s d e.at_).drop n).filter fun p => decide (mark < p.2)).map fun p => (⟨p.1, p.2, e.key⟩, e.val), ?_⟩
  rw [← List.map_append, ← List.filter_append, List.take_append_drop]
theorem cellsTo_len (s d mark : Int) (e : Ev) (n : Nat) : (cellsTo s d mark e n).length ≤ 16 := by
  obtain ⟨us, h⟩ := cells_split s d mark e n
  have := cells_len s d mark e
  rw [h, List.length_append] at this
  omega
/-- What Take tells. -/
def takeR (j : Jb) (g : Gp) (e : Ev) : Gp × Int × Int :=
  if jobOk j then
    (if right g && evOk e then
      (if (allE j.fold g.ps (cells j.size j.slide g.mark e)).2 = 0 then (⟨g.no, g.mark, (allE j.fold g.ps (cells j.size j.slide g.mark e)).1⟩, ((cells j.size j.slide g.mark e).length : Nat), 0)
       else (none_, 0, (allE j.fold g.ps (cells j.size j.slide g.mark e)).2))
     else (none_, 0, 1))
  else (none_, 0, 130)
theorem evOk_eq (key : List UInt8) (a v : Int) : Itm.okEv (kS key) a = evOk ⟨key, a, v⟩ := by
  unfold Itm.okEv Itm.okKey evOk Itm.wn
  rw [kS_size, Bool.eq_iff_iff]
  simp
  omega
/-- Hands back a group, a number, an error; what was stays. -/
def GivesGN (o : Gp × Int × Int) (w : World) (e : Ending) (w' : World) : Prop :=
  ∃ A c, e = .returned (.tuple #[gpV o.1.no o.1.mark (.slice A o.1.ps.length c), .int .i64 o.2.1, .int .i64 o.2.2]) ∧ o.1.ps.length ≤ c ∧ c ≤ maxLen ∧ Row w' A (pc o.1.ps) ∧ Below w.heap.size w w'
/-- The four blocks of a call. -/
structure Four (w0 : World) (j : Jb) (no mark : Int) (sv : Value) (e : Ev) (w : World) : Prop where
  job : Lies w0.heap.size (jbC j) 23 w
  gp : Lies (w0.heap.size + 1) (gpC no mark sv) 26 w
  ev : Lies (w0.heap.size + 1 + 1) (Itm.evC (kS e.key) e.at_ e.val) 28 w
  res : Lies (w0.heap.size + 1 + 1 + 1) (gpC 0 0 (.slice none 0 0)) 26 w
  below : Below w0.heap.size w0 w
theorem lies_at {w : World} {R : Nat} (h : R = w.heap.size) (C : Array Value) (T : TypeId) : Lies R C T (w.alloc (.cells C T)) := h ▸ Lies.new w C T
theorem Four.start (w : World) (j : Jb) (no mark : Int) (sv : Value) (e : Ev) : Four w j no mark sv e ((((w.alloc (.cells (jbC j) 23)).alloc (.cells (gpC no mark sv) 26)).alloc (.cells (Itm.evC (kS e.key) e.at_ e.val) 28)).alloc (.cells (gpC 0 0 (.slice none 0 0)) 26)) where
  job := (((Lies.new w _ _).al).al).al
  gp := ((lies_at (by simp) _ _).al).al
  ev := (lies_at (by simp) _ _).al
  res := lies_at (by simp) _ _
  below := below_al (below_al (below_al (below_al (Below.refl _ _))))
theorem Four.next {w0 a c : World} {j : Jb} {no mark : Int} {sv : Value} {e : Ev} (h : Four w0 j no mark sv e a) (hb : Below a.heap.size a c) : Four w0 j no mark sv e c where
  job := (hb.block _ (lt_of_block h.job)).trans h.job
  gp := (hb.block _ (lt_of_block h.gp)).trans h.gp
  ev := (hb.block _ (lt_of_block h.ev)).trans h.ev
  res := (hb.block _ (lt_of_block h.res)).trans h.res
  below := below_next h.below hb
theorem Four.put {w0 a : World} {j : Jb} {no mark : Int} {sv : Value} {e : Ev} (h : Four w0 j no mark sv e a) (v : Value) : Four w0 j no mark v e (a.setCell ⟨w0.heap.size + 1, 2, none⟩ v) where
  job := h.job.other (by omega) _ _
  gp := h.gp.set 2 v
  ev := h.ev.other (by omega) _ _
  res := h.res.other (by omega) _ _
  below := h.below.setCell (p := ⟨w0.heap.size + 1, 2, none⟩) (by show w0.heap.size ≤ w0.heap.size + 1; omega) _
theorem take_end {w W : World} {o : Gp × Int × Int} {A : Option Addr} {c : Nat} {a0 b0 : Int} {v0 : Value} {act : Act} (ht : act.tmps.getD 6 undef = .pointer (some ⟨w.heap.size + 1 + 1 + 1, 0, none⟩)) (hs : act.tmps.getD 7 undef = .int .i64 o.2.1) (hc : act.tmps.getD 8 undef = .int .i64 o.2.2) (hd : act.defers = [])
    (hL : Lies (w.heap.size + 1 + 1 + 1) (gpC a0 b0 v0) 26 W) (h1 : o.1.ps.length ≤ c) (h2 : c ≤ maxLen) (h5 : Row W A (pc o.1.ps)) (hB : Below w.heap.size w W) :
    bodyPost Try.prog Try.f12 (GivesGN o w) .ret act (set3 W (w.heap.size + 1 + 1 + 1) o.1.no o.1.mark (.slice A o.1.ps.length c)) := by
  have hL' := Lies.set3 hL o.1.no o.1.mark (.slice A o.1.ps.length c)
  have c0 := hL'.cell (j := 0) rfl
  have c1 := hL'.cell (j := 1) rfl
  have c2 := hL'.cell (j := 2) rfl
  refine bodyPost_ret (v := .tuple #[gpV o.1.no o.1.mark (.slice A o.1.ps.length c), .int .i64 o.2.1, .int .i64 o.2.2]) ?_ hd ⟨A, c, rfl, h1, h2, row_set3 h5 hL (pc_big _) _ _ _, below_set3 hB (by omega) _ _ _⟩
  have ht2 : act.tmps[6]?.getD undef = .pointer (some ⟨w.heap.size + 1 + 1 + 1, 0, none⟩) := by simpa using ht
  have hs2 : act.tmps[7]?.getD undef = .int .i64 o.2.1 := by simpa using hs
  have hc2 : act.tmps[8]?.getD undef = .int .i64 o.2.2 := by simpa using hc
  generalize set3 W (w.heap.size + 1 + 1 + 1) o.1.no o.1.mark (.slice A o.1.ps.length c) = w9 at c0 c1 c2 ⊢
  generalize w.heap.size + 1 + 1 + 1 = R at ht2 c0 c1 c2
  simp [results, Try.results12, go_sem, ht2, hs2, hc2, c0, c1, c2]
set_option maxRecDepth 100000 in
set_option maxHeartbeats 2000000 in
theorem rfTake (j : Jb) (g : Gp) (e : Ev) (A : Option Addr) (c : Nat) (w : World) (hA : Row w A (pc g.ps)) (hl : g.ps.length ≤ c) (hc : c ≤ maxLen) (hv : -9223372036854775808 ≤ e.val ∧ e.val ≤ 9223372036854775807) :
    Calls Try.prog 12 #[jbV j, gpV g.no g.mark (.slice A g.ps.length c), Itm.evV (kS e.key) e.at_ e.val] w (GivesGN (takeR j g e) w) := by
  have hL : g.ps.length ≤ 9223372036854775807 := by unfold maxLen at hc; omega
  obtain ⟨no, mark, xs⟩ := g
  simp only at hA hl hL ⊢
  have HJ := Lib.hid (fun w' => rfJob j w')
  have HR := Lib.hid (fun w' (hb : Below w.heap.size w w') => rfRight ⟨no, mark, xs⟩ A c w' (hA.below hb) hL)
  have HE := Lib.hid (fun w' => rfEvent (kS e.key) e.at_ e.val w')
  have HO := Lib.hid (fun w' => refOf j.size j.slide e.at_ w')
  have T0 := Lib.hid (Four.start w j no mark (.slice A xs.length c) e)
  have HA := Lib.hid hA
  have HV := Lib.hid hv
  clear hA hv
  cases hj : jobOk j
  · have HT := Lib.hid (show takeR j ⟨no, mark, xs⟩ e = (none_, 0, 130) by simp [takeR, hj])
    go_enter Try.func12, Try.ntmps12
    go_wp2_with fail
    refine (HJ.out _).mono ?_
    rw [hj]
    rintro e1 w1 ⟨rfl, hb1⟩
    have T1 := Lib.hid (T0.out.next hb1)
    have r0 := T1.out.res.cell (j := 0) rfl; have r1 := T1.out.res.cell (j := 1) rfl; have r2 := T1.out.res.cell (j := 2) rfl
    have f0 := T1.out.res.free 0; have f1 := T1.out.res.free 1; have f2 := T1.out.res.free 2
    clear hb1 hj
    go_wp2_with fail
    rw [HT.out]
    exact take_end (o := (none_, 0, 130)) rfl rfl rfl rfl T1.out.res (Nat.le_refl _) (by simp [maxLen]) Row.nil T1.out.below
  · cases hr : right ⟨no, mark, xs⟩
    · have HT := Lib.hid (show takeR j ⟨no, mark, xs⟩ e = (none_, 0, 1) by simp [takeR, hj, hr])
      go_enter Try.func12, Try.ntmps12
      go_wp2_with fail
      refine (HJ.out _).mono ?_
      rw [hj]
      rintro e1 w1 ⟨rfl, hb1⟩
      have T1 := Lib.hid (T0.out.next hb1)
      have g0 : w1.cell? ⟨w.heap.size + 1, 0, none⟩ = some (.int .i64 no) := T1.out.gp.cell (j := 0) rfl
      have g1 : w1.cell? ⟨w.heap.size + 1, 1, none⟩ = some (.int .i64 mark) := T1.out.gp.cell (j := 1) rfl
      have g2 : w1.cell? ⟨w.heap.size + 1, 2, none⟩ = some (.slice A xs.length c) := T1.out.gp.cell (j := 2) rfl
      clear hb1 hj
      go_wp2_with fail
      refine (HR.out _ T1.out.below).mono ?_
      rw [hr]
      rintro e2 w2 ⟨rfl, hb2⟩
      have T2 := Lib.hid (T1.out.next hb2)
      have r0 := T2.out.res.cell (j := 0) rfl; have r1 := T2.out.res.cell (j := 1) rfl; have r2 := T2.out.res.cell (j := 2) rfl
      have f0 := T2.out.res.free 0; have f1 := T2.out.res.free 1; have f2 := T2.out.res.free 2
      clear hb2 hr g0 g1 g2
      go_wp2_with fail
      rw [HT.out]
      exact take_end (o := (none_, 0, 1)) rfl rfl rfl rfl T2.out.res (Nat.le_refl _) (by simp [maxLen]) Row.nil T2.out.below
    · have HEV := Lib.hid (evOk_eq e.key e.at_ e.val)
      cases he : evOk e
      · have HT := Lib.hid (show takeR j ⟨no, mark, xs⟩ e = (none_, 0, 1) by simp [takeR, hj, hr, he])
        have HE0 := Lib.hid (show Itm.okEv (kS e.key) e.at_ = false from HEV.out.trans he)
        go_enter Try.func12, Try.ntmps12
        go_wp2_with fail
        refine (HJ.out _).mono ?_
        rw [hj]
        rintro e1 w1 ⟨rfl, hb1⟩
        have T1 := Lib.hid (T0.out.next hb1)
        have g0 : w1.cell? ⟨w.heap.size + 1, 0, none⟩ = some (.int .i64 no) := T1.out.gp.cell (j := 0) rfl
        have g1 : w1.cell? ⟨w.heap.size + 1, 1, none⟩ = some (.int .i64 mark) := T1.out.gp.cell (j := 1) rfl
        have g2 : w1.cell? ⟨w.heap.size + 1, 2, none⟩ = some (.slice A xs.length c) := T1.out.gp.cell (j := 2) rfl
        clear hb1 hj
        go_wp2_with fail
        refine (HR.out _ T1.out.below).mono ?_
        rw [hr]
        rintro e2 w2 ⟨rfl, hb2⟩
        have T2 := Lib.hid (T1.out.next hb2)
        have d0 : w2.cell? ⟨w.heap.size + 1 + 1, 0, none⟩ = some (.string (kS e.key)) := T2.out.ev.cell (j := 0) rfl
        have d1 : w2.cell? ⟨w.heap.size + 1 + 1, 1, none⟩ = some (.int .i64 e.at_) := T2.out.ev.cell (j := 1) rfl
        have d2 : w2.cell? ⟨w.heap.size + 1 + 1, 2, none⟩ = some (.int .i64 e.val) := T2.out.ev.cell (j := 2) rfl
        clear hb2 hr g0 g1 g2 he
        go_wp2_with fail
        refine (HE.out _).mono ?_
        rw [HE0.out]
        rintro e3 w3 ⟨rfl, rfl⟩
        have T3 := Lib.hid (T2.out.next (below_al (o := .cells (Itm.evC (kS e.key) e.at_ e.val) 28) (Below.refl _ _)))
        obtain ⟨w3, hw3⟩ : ∃ w3, w3 = w2.alloc (.cells (Itm.evC (kS e.key) e.at_ e.val) 28) := ⟨_, rfl⟩
        rw [← hw3] at T3 ⊢
        clear hw3
        have r0 := T3.out.res.cell (j := 0) rfl; have r1 := T3.out.res.cell (j := 1) rfl; have r2 := T3.out.res.cell (j := 2) rfl
        have f0 := T3.out.res.free 0; have f1 := T3.out.res.free 1; have f2 := T3.out.res.free 2
        clear d0 d1 d2
        go_wp2_with fail
        rw [HT.out]
        exact take_end (o := (none_, 0, 1)) rfl rfl rfl rfl T3.out.res (Nat.le_refl _) (by simp [maxLen]) Row.nil T3.out.below
      · have HE1 := Lib.hid (show Itm.okEv (kS e.key) e.at_ = true from HEV.out.trans he)
        obtain ⟨ws, hws⟩ : ∃ ws, ws = Win.of j.size j.slide e.at_ := ⟨_, rfl⟩
        have HWS := Lib.hid hws
        have HWL := Lib.hid (show ws.length ≤ 16 from hws ▸ of_len _ _ _)
        have HT := Lib.hid (show takeR j ⟨no, mark, xs⟩ e = if (allE j.fold xs (cells j.size j.slide mark e)).2 = 0 then (⟨no, mark, (allE j.fold xs (cells j.size j.slide mark e)).1⟩, (((cells j.size j.slide mark e).length : Nat) : Int), 0) else (none_, 0, (allE j.fold xs (cells j.size j.slide mark e)).2) by unfold takeR; rw [hj, hr, he]; rfl)
        rw [← hws] at HO
        clear hws
        go_enter Try.func12, Try.ntmps12
        go_wp2_with fail
        refine (HJ.out _).mono ?_
        rw [hj]
        rintro e1 w1 ⟨rfl, hb1⟩
        have T1 := Lib.hid (T0.out.next hb1)
        have g0 : w1.cell? ⟨w.heap.size + 1, 0, none⟩ = some (.int .i64 no) := T1.out.gp.cell (j := 0) rfl
        have g1 : w1.cell? ⟨w.heap.size + 1, 1, none⟩ = some (.int .i64 mark) := T1.out.gp.cell (j := 1) rfl
        have g2 : w1.cell? ⟨w.heap.size + 1, 2, none⟩ = some (.slice A xs.length c) := T1.out.gp.cell (j := 2) rfl
        clear hb1 hj
        go_wp2_with fail
        refine (HR.out _ T1.out.below).mono ?_
        rw [hr]
        rintro e2 w2 ⟨rfl, hb2⟩
        have T2 := Lib.hid (T1.out.next hb2)
        have d0 : w2.cell? ⟨w.heap.size + 1 + 1, 0, none⟩ = some (.string (kS e.key)) := T2.out.ev.cell (j := 0) rfl
        have d1 : w2.cell? ⟨w.heap.size + 1 + 1, 1, none⟩ = some (.int .i64 e.at_) := T2.out.ev.cell (j := 1) rfl
        have d2 : w2.cell? ⟨w.heap.size + 1 + 1, 2, none⟩ = some (.int .i64 e.val) := T2.out.ev.cell (j := 2) rfl
        clear hb2 hr g0 g1 g2 he
        go_wp2_with fail
        refine (HE.out _).mono ?_
        rw [HE1.out]
        rintro e3 w3 ⟨rfl, rfl⟩
        have T3 := Lib.hid (T2.out.next (below_al (o := .cells (Itm.evC (kS e.key) e.at_ e.val) 28) (Below.refl _ _)))
        obtain ⟨w3, hw3⟩ : ∃ w3, w3 = w2.alloc (.cells (Itm.evC (kS e.key) e.at_ e.val) 28) := ⟨_, rfl⟩
        rw [← hw3] at T3 ⊢
        clear hw3 d0 d1 d2
        have x1 : w3.cell? ⟨w.heap.size, 1, none⟩ = some (.int .i64 j.size) := T3.out.job.cell (j := 1) rfl
        have x2 : w3.cell? ⟨w.heap.size, 2, none⟩ = some (.int .i64 j.slide) := T3.out.job.cell (j := 2) rfl
        have x3 : w3.cell? ⟨w.heap.size + 1 + 1, 1, none⟩ = some (.int .i64 e.at_) := T3.out.ev.cell (j := 1) rfl
        go_wp2_with fail
        refine (HO.out _).mono ?_
        rintro e4 w4 ⟨AW, cW, rfl, lW, mW, RW, hb4⟩
        have T4 := Lib.hid (T3.out.next hb4)
        have HRW := Lib.hid RW
        clear hb4 x1 x2 x3 lW mW RW
        go_wp2_with fail
        go_loopw [9, 35] (fun n i wr => ∃ (k : Nat) (ps : List Pn) (A1 : Option Addr) (c1 : Nat), i = .int .i64 k ∧ n = .int .i64 ((cellsTo j.size j.slide mark e k).length : Nat) ∧ k ≤ ws.length ∧ allE j.fold xs (cellsTo j.size j.slide mark e k) = (ps, 0) ∧ ps.length ≤ c1 ∧ c1 ≤ maxLen ∧ Row wr A1 (pc ps) ∧ Row wr AW (wc ws) ∧ Four w j no mark (.slice A1 ps.length c1) e wr) (fun _ i _ => ws.length - (intOf i).toNat)
        case atStart => exact ⟨0, xs, A, c, rfl, by simp [cellsTo], Nat.zero_le _, by simp [cellsTo, allE], hl, hc, HA.out.below T4.out.below, HRW.out, T4.out⟩
        case round =>
          obtain ⟨k, ps, A1, c1, rfl, rfl, hk, hE, hl1, hc1, hR1, hRW, hF⟩ := hrel
          have HEk := Lib.hid hE; have HL1 := Lib.hid (And.intro hl1 hc1); have HR1 := Lib.hid hR1; have HRk := Lib.hid hRW; have F := Lib.hid hF
          clear hE hl1 hc1 hR1 hRW hF
          by_cases hlt : k < ws.length
          · obtain ⟨x, hx⟩ : ∃ x, ws[k]? = some x := ⟨_, List.getElem?_eq_getElem hlt⟩
            have HX := Lib.hid (show (Win.of j.size j.slide e.at_)[k]? = some x from HWS.out ▸ hx)
            obtain ⟨bW, oW, rfl, q0, q1⟩ := HRk.out.win hx
            have g1 : wr.cell? ⟨w.heap.size + 1, 1, none⟩ = some (.int .i64 mark) := F.out.gp.cell (j := 1) rfl
            have l1 : w.heap.size + 1 < wr.heap.size := lt_of_block F.out.gp
            clear hx
            have hw16 : ws.length ≤ 16 := HWL.out
            by_cases hm : x.2 ≤ mark
            · go_wp2_with fail
              go_roundw
              case rel => exact ⟨k + 1, ps, A1, c1, rfl, by rw [cellsTo_closed HX.out hm], by omega, by rw [cellsTo_closed HX.out hm]; exact HEk.out, HL1.out.1, HL1.out.2, HR1.out.below (below_al (Below.refl _ _)), HRk.out.below (below_al (Below.refl _ _)), F.out.next (below_al (Below.refl _ _))⟩
              case measure => simp [intOf]; omega
            · obtain ⟨o, ho⟩ : ∃ o, o = aOut j.fold ps ⟨x.1, x.2, e.key⟩ e.val := ⟨_, rfl⟩
              have HSTEP := Lib.hid (show allE j.fold xs (cellsTo j.size j.slide mark e (k + 1)) = if o.2 = 0 then (o.1, 0) else ([], o.2) from by
                rw [cellsTo_open HX.out hm, allE_push, HEk.out, ho]; rfl)
              have HLEN := Lib.hid (show (cellsTo j.size j.slide mark e (k + 1)).length = (cellsTo j.size j.slide mark e k).length + 1 from by rw [cellsTo_open HX.out hm]; simp)
              have HADD := Lib.hid (fun w' (hb : Below wr.heap.size wr w') => show Calls Try.prog 35 #[.slice A1 ps.length c1, .int .i64 j.fold, .string (kS e.key), .agg #[.int .i64 x.1, .int .i64 x.2], .int .i64 e.val] w' (GivesPE o w') from ho ▸ rfAdd j.fold ps A1 c1 x.1 x.2 e.val e.key w' (HR1.out.below hb) (by have h1 := HL1.out.1; have h2 := HL1.out.2; unfold maxLen at h2; omega) HV.out)
              have g2 : wr.cell? ⟨w.heap.size + 1, 2, none⟩ = some (.slice A1 ps.length c1) := F.out.gp.cell (j := 2) rfl
              have x3 : wr.cell? ⟨w.heap.size, 3, none⟩ = some (.int .i64 j.fold) := F.out.job.cell (j := 3) rfl
              have v0 : wr.cell? ⟨w.heap.size + 1 + 1, 0, none⟩ = some (.string (kS e.key)) := F.out.ev.cell (j := 0) rfl
              have v2 : wr.cell? ⟨w.heap.size + 1 + 1, 2, none⟩ = some (.int .i64 e.val) := F.out.ev.cell (j := 2) rfl
              have l0 : w.heap.size < wr.heap.size := lt_of_block F.out.job
              have l2 : w.heap.size + 1 + 1 < wr.heap.size := lt_of_block F.out.ev
              obtain ⟨n, hn⟩ : ∃ n, n = (cellsTo j.size j.slide mark e k).length := ⟨_, rfl⟩
              have hn16 : n ≤ 16 := hn ▸ cellsTo_len _ _ _ _ _
              rw [← hn]
              have HN := Lib.hid hn
              clear ho hn
              by_cases h0 : o.2 = 0
              · have e0 := nb0 h0
                have H0 := Lib.hid h0
                clear h0
                go_wp2_with fail
                refine (HADD.out _ (below_al (Below.refl _ _))).mono ?_
                rintro e5 w5 ⟨A5, c5, rfl, l5, m5, R5, hb5⟩
                have F5 := Lib.hid ((F.out.next (below_al (Below.refl _ _))).next hb5)
                have HR5 := Lib.hid R5; have HL5 := Lib.hid (And.intro l5 m5)
                have HW5 := Lib.hid ((HRk.out.below (below_al (Below.refl _ _))).below hb5)
                have y2 : w5.cell? ⟨w.heap.size + 1, 2, none⟩ = some (.slice A1 ps.length c1) := F5.out.gp.cell (j := 2) rfl
                have fr : w5.frozen? ⟨w.heap.size + 1, 2, none⟩ = false := F5.out.gp.free 2
                have Y2 := Lib.hid y2
                clear R5 l5 m5 hb5 g1 g2 x3 v0 v2 q0 q1
                go_wp2_with fail
                go_roundw
                case rel => exact ⟨k + 1, o.1, A5, c5, rfl, by rw [HLEN.out, ← HN.out]; rfl, by omega, by rw [HSTEP.out, if_pos H0.out], HL5.out.1, HL5.out.2, row_cell HR5.out Y2.out (pc_noslice _ _ _ _) _, row_cell HW5.out Y2.out (wc_noslice _ _ _ _) _, F5.out.put _⟩
                case measure => simp [intOf]; omega
              · have e0 := nb h0
                have HT2 := Lib.hid (show takeR j ⟨no, mark, xs⟩ e = (none_, 0, o.2) from by
                  obtain ⟨us, hu⟩ := cells_split j.size j.slide mark e (k + 1)
                  have h1 : allE j.fold xs (cellsTo j.size j.slide mark e (k + 1)) = ([], o.2) := by rw [HSTEP.out, if_neg h0]
                  rw [HT.out, hu, allE_more (by rw [h1]; exact h0), h1, if_neg h0])
                clear h0
                go_wp2_with fail
                refine (HADD.out _ (below_al (Below.refl _ _))).mono ?_
                rintro e5 w5 ⟨A5, c5, rfl, l5, m5, R5, hb5⟩
                have F5 := Lib.hid ((F.out.next (below_al (Below.refl _ _))).next hb5)
                have r0 := F5.out.res.cell (j := 0) rfl; have r1 := F5.out.res.cell (j := 1) rfl; have r2 := F5.out.res.cell (j := 2) rfl
                have f0 := F5.out.res.free 0; have f1 := F5.out.res.free 1; have f2 := F5.out.res.free 2
                clear R5 l5 m5 hb5 g1 g2 x3 v0 v2 q0 q1
                go_wp2_with fail
                rw [HT2.out]
                exact take_end (o := (none_, 0, o.2)) rfl rfl rfl rfl F5.out.res (Nat.le_refl _) (by simp [maxLen]) Row.nil F5.out.below
          · have hge : ws.length ≤ k := by omega
            have HT2 := Lib.hid (show takeR j ⟨no, mark, xs⟩ e = (⟨no, mark, ps⟩, (((cellsTo j.size j.slide mark e k).length : Nat) : Int), 0) from by
              have hc : cellsTo j.size j.slide mark e k = cells j.size j.slide mark e := by
                rw [show k = (Win.of j.size j.slide e.at_).length from by rw [← HWS.out]; omega]; exact cellsTo_all _ _ _ _
              have h1 := HEk.out
              rw [hc] at h1
              rw [HT.out, h1, hc]; rfl)
            have g0 : wr.cell? ⟨w.heap.size + 1, 0, none⟩ = some (.int .i64 no) := F.out.gp.cell (j := 0) rfl
            have g1 : wr.cell? ⟨w.heap.size + 1, 1, none⟩ = some (.int .i64 mark) := F.out.gp.cell (j := 1) rfl
            have g2 : wr.cell? ⟨w.heap.size + 1, 2, none⟩ = some (.slice A1 ps.length c1) := F.out.gp.cell (j := 2) rfl
            have r0 := F.out.res.cell (j := 0) rfl; have r1 := F.out.res.cell (j := 1) rfl; have r2 := F.out.res.cell (j := 2) rfl
            have f0 := F.out.res.free 0; have f1 := F.out.res.free 1; have f2 := F.out.res.free 2
            go_wp2_with fail
            rw [HT2.out]
            exact take_end (o := (⟨no, mark, ps⟩, (((cellsTo j.size j.slide mark e k).length : Nat) : Int), 0)) rfl rfl rfl rfl F.out.res HL1.out.1 HL1.out.2 HR1.out F.out.below
end Grp
end Go.Proofs.Ythfbcfddfbipfaa
