/- GroupGet, GroupMark, put together. -/
import Derived.Test.YthfbcfddfbipfaaZ38
import Derived.Test.YthfbcfddfbipfaaZ9
import Derived.Test.YthfbcfddfbipfaaZ13
import Derived.Lib.AppendStr
import Derived.Lib.FrozenHead
import Derived.Laws.IdiomStrings
/- Get of the code, whole. -/
namespace Go.Proofs.Ythfbcfddfbipfaa
open Go.RowKit
open Itm Vlq
set_option linter.unusedVariables false
set_option maxRecDepth 8000
namespace Grp
open Pan (Pn Pl)
theorem right_min (a : Nat) (m : Int) (ps : List Pn) : right ⟨min (a : Int) 32, m, ps⟩ = right ⟨(a : Int), m, ps⟩ := by
  by_cases h : (a : Int) ≤ 31
  · rw [show min (a : Int) 32 = a by omega]
  · unfold right
    rw [show decide (0 ≤ min (a : Int) 32 ∧ min (a : Int) 32 ≤ 31 ∧ 0 ≤ m ∧ m ≤ 1099511627776) = false from decide_eq_false (by omega), show decide (0 ≤ (a : Int) ∧ (a : Int) ≤ 31 ∧ 0 ≤ m ∧ m ≤ 1099511627776) = false from decide_eq_false (by omega)]
theorem numS_val0 {s : ByteArray} {p : Nat × Nat} (h : (numS s p).2.2 ≠ 0) : (numS s p).1 = 0 := by
  unfold numS at h ⊢
  split
  · rename_i h0
    rw [if_pos h0] at h
    exact (rd_bad h).1
  · rfl
/-- What Get tells, by what is read. -/
def outG (o : Gp) (at_ err n : Nat) : Gp × Nat := if err ≠ 0 then (none_, err) else if at_ < n then (none_, 21) else if right o then (o, 0) else (none_, 1)
theorem getG_eq (s : ByteArray) : getG s = outG (grS s).1 (grS s).2.1 (grS s).2.2 s.size := by
  unfold getG grS outG
  simp only
  by_cases h : 2000 < (numS s (numS s (numS s (0, 0)).2).2).1
  · have h0 : (numS s (numS s (numS s (0, 0)).2).2).2.2 = 0 := by
      rcases Nat.eq_zero_or_pos (numS s (numS s (numS s (0, 0)).2).2).2.2 with h1 | h1
      · exact h1
      · have := numS_val0 (s := s) (p := (numS s (numS s (0, 0)).2).2) (by omega)
        omega
    rw [if_pos ⟨h0, h⟩, if_pos h]
    rfl
  · rw [if_neg (fun h1 => h h1.2), if_neg h]
    simp only [right_min]
    split
    · rfl
    · split
      · rfl
      · split
        · rename_i hr
          have h31 := ((right_iff _).1 hr).1.2.1
          simp only at h31
          rw [show min ((numS s (0, 0)).1 : Int) 32 = ((numS s (0, 0)).1 : Int) by omega]
        · rfl
/-- Hands back a group and an error; what was stays. -/
def GivesGE (o : Gp × Nat) (w : World) (e : Ending) (w' : World) : Prop :=
  ∃ A c, e = .returned (.tuple #[gpV o.1.no o.1.mark (.slice A o.1.ps.length c), .int .i64 (o.2 : Nat)]) ∧ o.1.ps.length ≤ c ∧ c ≤ maxLen ∧ Row w' A (pc o.1.ps) ∧ Below w.heap.size w w'
theorem getc_ret {w wF : World} {R : Nat} {o : Gp × Nat} {A : Option Addr} {c : Nat} {act : Act} (ht : act.tmps.getD 2 undef = .pointer (some ⟨R, 0, none⟩)) (hs : act.tmps.getD 3 undef = .int .i64 (o.2 : Nat)) (hd : act.defers = [])
    (hL : Lies R (gpC o.1.no o.1.mark (.slice A o.1.ps.length c)) 26 wF) (h1 : o.1.ps.length ≤ c) (h2 : c ≤ maxLen) (h5 : Row wF A (pc o.1.ps)) (hB : Below w.heap.size w wF) :
    bodyPost Try.prog Try.f23 (GivesGE o w) .ret act wF := by
  have c0 := hL.cell (j := 0) rfl
  have c1 := hL.cell (j := 1) rfl
  have c2 := hL.cell (j := 2) rfl
  refine bodyPost_ret (v := .tuple #[gpV o.1.no o.1.mark (.slice A o.1.ps.length c), .int .i64 (o.2 : Nat)]) ?_ hd ⟨A, c, rfl, h1, h2, h5, hB⟩
  have ht2 : act.tmps[2]?.getD undef = .pointer (some ⟨R, 0, none⟩) := by simpa using ht
  have hs2 : act.tmps[3]?.getD undef = .int .i64 (o.2 : Nat) := by simpa using hs
  simp [results, Try.results23, go_sem, ht2, hs2, c0, c1, c2]
theorem getc_end {w W : World} {o : Gp × Nat} {A : Option Addr} {c : Nat} {a0 b0 : Int} {v0 : Value} {act : Act} (ht : act.tmps.getD 2 undef = .pointer (some ⟨w.heap.size, 0, none⟩)) (hs : act.tmps.getD 3 undef = .int .i64 (o.2 : Nat)) (hd : act.defers = [])
    (hL : Lies w.heap.size (gpC a0 b0 v0) 26 W) (h1 : o.1.ps.length ≤ c) (h2 : c ≤ maxLen) (h5 : Row W A (pc o.1.ps)) (hB : Below w.heap.size w W) :
    bodyPost Try.prog Try.f23 (GivesGE o w) .ret act (set3 W w.heap.size o.1.no o.1.mark (.slice A o.1.ps.length c)) :=
  getc_ret ht hs hd (Lies.set3 hL _ _ _) h1 h2 (row_set3 h5 hL (pc_big _) _ _ _) (below_set3 hB (Nat.le_refl _) _ _ _)
theorem getc_none {w W : World} {err : Nat} {a0 b0 : Int} {v0 : Value} {act : Act} (ob : Obj) (ht : act.tmps.getD 2 undef = .pointer (some ⟨w.heap.size, 0, none⟩)) (hs : act.tmps.getD 3 undef = .int .i64 (err : Nat)) (hd : act.defers = [])
    (hL : Lies w.heap.size (gpC a0 b0 v0) 26 W) (hB : Below w.heap.size w W) :
    bodyPost Try.prog Try.f23 (GivesGE (none_, err) w) .ret act ((set3 W w.heap.size 0 0 (.slice none 0 0)).alloc ob) :=
  getc_ret (o := (none_, err)) (A := none) (c := 0) ht hs hd (Lies.al (Lies.set3 hL _ _ _)) (Nat.le_refl _) (by simp [maxLen]) Row.nil (below_next (below_set3 hB (Nat.le_refl _) _ _ _) (below_al (Below.refl _ _)))
theorem getc_noned {w W : World} {err : Nat} {a0 b0 : Int} {v0 : Value} {act : Act} (ob : Obj) (ht : act.tmps.getD 2 undef = .pointer (some ⟨w.heap.size, 0, none⟩)) (hs : act.tmps.getD 3 undef = .int .i64 (err : Nat)) (hd : act.defers = [])
    (hL : Lies w.heap.size (gpC a0 b0 v0) 26 W) (hB : Below w.heap.size w W) :
    bodyPost Try.prog Try.f23 (GivesGE (none_, err) w) .ret act ((set3 W w.heap.size 0 0 (.slice none 0 0)).alloc ob).drew :=
  getc_ret (o := (none_, err)) (A := none) (c := 0) ht hs hd (Lies.al (Lies.set3 hL _ _ _)) (Nat.le_refl _) (by simp [maxLen]) Row.nil (below_drewOf (below_next (below_set3 hB (Nat.le_refl _) _ _ _) (below_al (Below.refl _ _))))
/-- The blocks of the call behind the reading. -/
structure GtAt (w0 : World) (s : ByteArray) (at_ err : Nat) (q : Nat) (no mark : Int) (sv : Value) (w : World) : Prop where
  res : Lies w0.heap.size (gpC 0 0 (.slice none 0 0)) 26 w
  rd : RdAt 91 (w0.heap.size + 1) s (at_ : Nat) (err : Nat) w
  gp : Lies q (gpC no mark sv) 26 w
  below : Below w0.heap.size w0 w
theorem GtAt.next {w0 : World} {s : ByteArray} {at_ err q : Nat} {no mark : Int} {sv : Value} {w w' : World} (h : GtAt w0 s at_ err q no mark sv w) (hb : Below w.heap.size w w') : GtAt w0 s at_ err q no mark sv w' :=
  ⟨h.res.below hb, h.rd.below hb, h.gp.below hb, below_next h.below hb⟩
set_option maxRecDepth 100000 in
set_option maxHeartbeats 4000000 in
theorem gpGet (s : ByteArray) (hs : s.size ≤ 9223372036854775807) (w : World) : Calls Try.prog 23 #[.string s] w (GivesGE (getG s) w) := by
  obtain ⟨⟨⟨no, mark, xs⟩, at_, err⟩, hg⟩ : ∃ K, K = grS s := ⟨_, rfl⟩
  have hE := getG_eq s
  rw [← hg] at hE
  simp only at hE
  have HG := Lib.hid (fun g w' h => gpGroup s hs g w' h)
  rw [← hg] at HG
  have HE := Lib.hid hE
  have RD0 := Lib.hid (show RdAt 91 (w.heap.size + 1) s 0 0 ((w.alloc (.cells (gpC 0 0 (.slice none 0 0)) 26)).alloc (.cells #[.string s, .int .i64 0, .int .i64 0] 91)) from lies_two _ _ _ _)
  have RS0 := Lib.hid ((Lies.new w (gpC 0 0 (.slice none 0 0)) 26).al (o := .cells #[.string s, .int .i64 0, .int .i64 0] 91))
  have B0 := Lib.hid (below_al (o := .cells #[.string s, .int .i64 0, .int .i64 0] 91) (below_al (o := .cells (gpC 0 0 (.slice none 0 0)) 26) (Below.refl w.heap.size w)))
  rw [hE]
  clear hg hE
  have hway : (err ≠ 0) ∨ (err = 0 ∧ at_ < s.size) ∨ (err = 0 ∧ ¬ at_ < s.size ∧ right ⟨no, mark, xs⟩ = false) ∨ (err = 0 ∧ ¬ at_ < s.size ∧ right ⟨no, mark, xs⟩ = true) := by
    cases right ⟨no, mark, xs⟩ <;> simp <;> omega
  go_enter Try.func23, Try.ntmps23
  go_wp2_with fail
  refine (HG.out _ _ RD0.out).mono ?_
  rintro e w1 ⟨A, c, rfl, l1, m1, R1, rd1, hb1⟩
  have hRS : Lies w.heap.size (gpC 0 0 (.slice none 0 0)) 26 w1 := (hb1.block w.heap.size (by simp; omega) (by omega)).trans RS0.out
  have G1 := Lib.hid (show GtAt w s at_ err w1.heap.size no mark (.slice A xs.length c) (w1.alloc (.cells (gpC no mark (.slice A xs.length c)) 26)) from by
    have hb := below_al (o := .cells (gpC no mark (.slice A xs.length c)) 26) (Below.refl w1.heap.size w1)
    refine ⟨?_, rd1.below hb, Lies.new w1 _ _, below_next (hb1.below B0.out (by omega) (by simp; omega)) hb⟩
    exact Lies.below hRS hb)
  have HR1 := Lib.hid (R1.below (below_al (o := .cells (gpC no mark (.slice A xs.length c)) 26) (Below.refl _ _)))
  have HL1 := Lib.hid (And.intro l1 m1)
  have x1 : w1.cell? ⟨w.heap.size + 1, 1, none⟩ = some (.int .i64 (at_ : Nat)) := rd1.c1
  have x2 : w1.cell? ⟨w.heap.size + 1, 2, none⟩ = some (.int .i64 (err : Nat)) := rd1.c2
  have q1 : w.heap.size + 1 < w1.heap.size := lt_of_block rd1
  have hq : w.heap.size < w1.heap.size := by omega
  have r0 : w1.cell? ⟨w.heap.size, 0, none⟩ = some (.int .i64 0) := hRS.cell (j := 0) rfl
  have r1 : w1.cell? ⟨w.heap.size, 1, none⟩ = some (.int .i64 0) := hRS.cell (j := 1) rfl
  have r2 : w1.cell? ⟨w.heap.size, 2, none⟩ = some (.slice none 0 0) := hRS.cell (j := 2) rfl
  have f0 : w1.frozen? ⟨w.heap.size, 0, none⟩ = false := hRS.free 0
  have f1 : w1.frozen? ⟨w.heap.size, 1, none⟩ = false := hRS.free 1
  have f2 : w1.frozen? ⟨w.heap.size, 2, none⟩ = false := hRS.free 2
  have HRT := Lib.hid (fun w' (hb : Below w1.heap.size w1 w') => show Calls Try.prog 16 #[gpV no mark (.slice A xs.length c)] w' (TellsB (right ⟨no, mark, xs⟩) w') from gpRight ⟨no, mark, xs⟩ A c w' (R1.below hb) (by have l2 : xs.length ≤ c := l1; unfold maxLen at m1; show xs.length ≤ _; omega))
  have HRS := Lib.hid hRS
  have HB1 := Lib.hid (hb1.below B0.out (by omega) (by simp; omega))
  clear l1 m1 rd1 hb1 hRS R1
  rcases hway with h0 | ⟨h0, h1⟩ | ⟨h0, h1, h2⟩ | ⟨h0, h1, h2⟩
  · have e0 := nb (show ((err : Nat) : Int) ≠ 0 by omega)
    have HO := Lib.hid (show outG ⟨no, mark, xs⟩ at_ err s.size = (none_, err) from if_pos h0)
    clear h0
    go_wp2_with fail
    go_region
    all_goals (
      go_wp2_with fail
      rw [HO.out]
      exact getc_noned _ rfl rfl rfl HRS.out HB1.out)
  · subst h0
    have e0 := nb0 (show ((0 : Nat) : Int) = 0 from rfl)
    have HO := Lib.hid (show outG ⟨no, mark, xs⟩ at_ 0 s.size = (none_, 21) from by unfold outG; rw [if_neg (by omega), if_pos h1])
    have e1 : (at_ : Int) < s.size := by omega
    go_wp2_with fail
    rw [HO.out]
    exact getc_none _ rfl rfl rfl HRS.out HB1.out
  · subst h0
    have e0 := nb0 (show ((0 : Nat) : Int) = 0 from rfl)
    have HO := Lib.hid (show outG ⟨no, mark, xs⟩ at_ 0 s.size = (none_, 1) from by unfold outG; rw [if_neg (by omega), if_neg h1, if_neg (by rw [h2]; simp)])
    rw [h2] at HRT
    have e1 : ¬ (at_ : Int) < s.size := by omega
    clear h2
    go_wp2_with fail
    refine (HRT.out _ (below_al (Below.refl _ _))).mono ?_
    rintro e w2 ⟨rfl, hb2⟩
    have G2 := Lib.hid (G1.out.next hb2)
    clear hb2 r0 r1 r2 f0 f1 f2 x1 x2
    have r0 := G2.out.res.cell (j := 0) rfl; have r1 := G2.out.res.cell (j := 1) rfl; have r2 := G2.out.res.cell (j := 2) rfl
    have f0 := G2.out.res.free 0; have f1 := G2.out.res.free 1; have f2 := G2.out.res.free 2
    go_wp2_with fail
    rw [HO.out]
    exact getc_end (o := (none_, 1)) rfl rfl rfl G2.out.res (Nat.le_refl _) (by simp [maxLen]) Row.nil G2.out.below
  · subst h0
    have e0 := nb0 (show ((0 : Nat) : Int) = 0 from rfl)
    have HO := Lib.hid (show outG ⟨no, mark, xs⟩ at_ 0 s.size = (⟨no, mark, xs⟩, 0) from by unfold outG; rw [if_neg (by omega), if_neg h1, if_pos h2])
    rw [h2] at HRT
    have e1 : ¬ (at_ : Int) < s.size := by omega
    clear h2
    go_wp2_with fail
    refine (HRT.out _ (below_al (Below.refl _ _))).mono ?_
    rintro e w2 ⟨rfl, hb2⟩
    have G2 := Lib.hid (G1.out.next hb2)
    have HR2 := Lib.hid (HR1.out.below hb2)
    clear hb2 r0 r1 r2 f0 f1 f2 x1 x2
    have r0 := G2.out.res.cell (j := 0) rfl; have r1 := G2.out.res.cell (j := 1) rfl; have r2 := G2.out.res.cell (j := 2) rfl
    have f0 := G2.out.res.free 0; have f1 := G2.out.res.free 1; have f2 := G2.out.res.free 2
    have g0 := G2.out.gp.cell (j := 0) rfl; have g1 := G2.out.gp.cell (j := 1) rfl; have g2 := G2.out.gp.cell (j := 2) rfl
    go_wp2_with fail
    rw [HO.out]
    exact getc_end (o := (⟨no, mark, xs⟩, 0)) rfl rfl rfl G2.out.res HL1.out.1 HL1.out.2 HR2.out G2.out.below
end Grp
end Go.Proofs.Ythfbcfddfbipfaa
/- A row of bytes that came of a string (its end is marked), and strings appended to it. -/
namespace Go.Proofs.Ythfbcfddfbipfaa
open Go.RowKit
set_option linter.unusedVariables false
set_option maxRecDepth 8000
namespace Mark
/-- A row of the call's own, its mark behind its last cell or none. -/
def Own (w : World) (B : Nat) (v : Value) (l : List UInt8) : Prop :=
  ∃ g cap cur fz, v = .slice (some ⟨g, 0, none⟩) l.length cap ∧ B ≤ g ∧ w.heap[g]? = some (.cells cur 5 fz) ∧ cap ≤ fz.1 ∧ l.length ≤ cap ∧ cap ≤ maxLen ∧ cur.size = cap ∧ cur.toList.take l.length = l.map u8v
/-- A row of the call's own that nothing is marked of. -/
def Plain (w : World) (B : Nat) (v : Value) (l : List UInt8) : Prop := w.ownsRow B 5 1 v l.length (l.map u8v)
def Any (w : World) (B : Nat) (v : Value) (l : List UInt8) : Prop := Own w B v l ∨ Plain w B v l
theorem Own.up {a b : World} {B : Nat} {v : Value} {l : List UInt8} (h : Own a B v l) (hb : Below a.heap.size a b) : Own b B v l := by
  obtain ⟨g, cap, cur, fz, h1, h2, h3, h4⟩ := h
  exact ⟨g, cap, cur, fz, h1, h2, (hb.block g (Array.getElem?_eq_some_iff.1 h3).1).trans h3, h4⟩
theorem Plain.up {a b : World} {B : Nat} {v : Value} {l : List UInt8} (h : Plain a B v l) (hb : Below a.heap.size a b) : Plain b B v l := by
  obtain ⟨hl, ⟨rfl, h0⟩ | ⟨g, cap, cur, rfl, hg, hh, r⟩⟩ := h
  · exact ⟨hl, .inl ⟨rfl, h0⟩⟩
  · exact ⟨hl, .inr ⟨g, cap, cur, rfl, hg, (hb.block g (Array.getElem?_eq_some_iff.1 hh).1).trans hh, r⟩⟩
theorem Any.up {a b : World} {B : Nat} {v : Value} {l : List UInt8} (h : Any a B v l) (hb : Below a.heap.size a b) : Any b B v l := h.imp (fun x => x.up hb) (fun x => x.up hb)
theorem Any.mono {w : World} {B C : Nat} {v : Value} {l : List UInt8} (h : Any w B v l) (hc : C ≤ B) : Any w C v l := by
  rcases h with ⟨g, cap, cur, fz, h1, h2, r⟩ | ⟨hl, ⟨h1, h0⟩ | ⟨g, cap, cur, h1, hg, r⟩⟩
  · exact .inl ⟨g, cap, cur, fz, h1, by omega, r⟩
  · exact .inr ⟨hl, .inl ⟨h1, h0⟩⟩
  · exact .inr ⟨hl, .inr ⟨g, cap, cur, h1, by omega, r⟩⟩
/-- The cells, as a row. -/
theorem Any.row {w : World} {B : Nat} {v : Value} {l : List UInt8} (h : Any w B v l) : ∃ A c, v = .slice A l.length c ∧ Row w A (l.map u8v) := by
  rcases h with ⟨g, cap, cur, fz, rfl, _, h3, _, _, _, _, h8⟩ | h
  · refine ⟨_, cap, rfl, .inr ⟨g, 0, rfl, fun j u hu => ?_⟩⟩
    have hu' : cur.toList[j]? = some u := by
      rw [← h8, List.getElem?_take] at hu
      split at hu
      · exact hu
      · cases hu
    simpa [World.cell?, h3] using hu'
  · obtain ⟨A, c, rfl, _, _, _, h5, _⟩ := own_form h (by omega)
    exact ⟨A, c, rfl, h5⟩
/-- A string's bytes as a new row. -/
theorem of_string (s : ByteArray) (hs : s.size ≤ 140737488355328) (w : World) : ∃ v w', (convert 9 80 (.string s)).run Try.prog w = .ok v w' ∧ Own w' w.heap.size v (sl s) ∧ Below w.heap.size w w' := by
  refine ⟨_, _, run_bytes_of_string w 9 80 5 s Try.underlying9 Try.underlying80 Try.underlying5, ?_, (below_drewOf (Below.refl _ _)).alloc (Nat.le_refl _) _⟩
  have h1 : (sl s).length = s.size := by simp [sl]
  have h2 : (bytesRow s (grownCap w s.size 0 5)).size = grownCap w s.size 0 5 := by
    have := grownCap_ge w s.size 0 5
    have h3 : s.data.size = s.size := rfl
    simp [bytesRow, h3]; omega
  refine ⟨w.heap.size, grownCap w s.size 0 5, _, _, by rw [h1], Nat.le_refl _, heap_alloc_new w.drew _, by rw [h2]; exact Nat.le_refl _, by rw [h1]; exact grownCap_ge _ _ _ _, grownCap_le_maxLen w s.size 0 _ (by unfold maxLen; omega), h2, ?_⟩
  rw [h1]
  unfold bytesRow
  rw [Array.toList_append, List.take_append_of_le_length (by simp), List.take_of_length_le (by simp)]
  simp [sl]
theorem run_store_mark (P : Program) (g o : Nat) (t : TypeId) (fz : Nat × Nat) : ∀ (vs : List Value) (i : Nat) (cur : Array Value) (w : World), w.heap[g]? = some (.cells cur t fz) → cur.size ≤ fz.1 → o + i + vs.length ≤ cur.size → (∀ v ∈ vs, v.oneCell' = true) →
    (storeCells ⟨g, o, none⟩ vs i).run P w = .ok () (w.setRow g (cur.toList.take (o + i) ++ vs ++ cur.toList.drop (o + i + vs.length)).toArray)
  | [], i, cur, w, hg, _, _, _ => by
    simp only [storeCells, List.append_nil, List.length_nil, Nat.add_zero, List.take_append_drop, Array.toArray_toList]
    rw [setRow_self w g cur t fz hg]
    rfl
  | v :: rest, i, cur, w, hg, hfz, hl, h1 => by
    have hi : o + i < cur.size := by simp at hl; omega
    have hadd : (⟨g, o, none⟩ : Addr).add i = ⟨g, o + i, none⟩ := by unfold Addr.add; split <;> simp_all
    have hcell : w.cell? ⟨g, o + i, none⟩ = some cur[o + i] := by simp [World.cell?, hg, hi]
    have hfro : w.frozen? ⟨g, o + i, none⟩ = false := by
      obtain ⟨lo, hi'⟩ := fz
      simp only [World.frozen?, hg, Bool.and_eq_false_iff, decide_eq_false_iff_not]
      left
      simp only at hfz
      omega
    have hst : (store ((⟨g, o, none⟩ : Addr).add i) v).run P w = .ok () (w.setRow g (cur.setIfInBounds (o + i) v)) := by
      rw [hadd, run_store P w _ v _ (h1 v (by simp)), hcell]
      simp [hfro, setCell_eq_setRow w g (o + i) cur t fz v hg]
    have ih := run_store_mark P g o t fz rest (i + 1) (cur.setIfInBounds (o + i) v) (w.setRow g (cur.setIfInBounds (o + i) v)) (setRow_heap w g cur _ t _ hg) (by simpa using hfz) (by simp at hl ⊢; omega) (fun x hx => h1 x (by simp [hx]))
    simp only [storeCells, Sem.run_bind, hst, Result.andThen_ok, ih, setRow_setRow]
    congr 3
    have e := list_seg_step cur.toList (o + i) v rest (by simp at hl ⊢; omega)
    simpa [Array.toList_setIfInBounds, Nat.add_assoc] using e
theorem infoU : (Try.prog.info? 5).map (fun i => (i.zero, i.size, i.bytes)) = some (some (.int .u8 0), 1, 1) := by kernel_rfl
theorem strCells_u8 (s : ByteArray) : Lib.strCells s = (sl s).map u8v := rfl
/-- A string appended. -/
theorem run_app (ty : TypeId) {w : World} {B : Nat} {v : Value} {l : List UInt8} (h : Any w B v l) (s : ByteArray) (hlen : l.length + s.size ≤ 100000000) (hB : B ≤ w.heap.size) :
    ∃ v' w', (Builtin.append_ #[80, 9] ty #[v, .string s]).run Try.prog w = .ok v' w' ∧ Any w' B v' (l ++ sl s) ∧ w.grownBy w' v.ownBlock := by
  obtain ⟨i, hi, hz, hz1, hz2⟩ := info_parts infoU
  have hss : (sl s).length = s.size := by simp [sl]
  rcases h with ⟨g, cap, cur, fz, rfl, hbg, hg, hfz, hnc, hcm, hcs, htake⟩ | h
  · have holds : ∀ j u, (l.map u8v)[j]? = some u → w.cell? ((⟨g, 0, none⟩ : Addr).add j) = some u := fun j u hu => by
      have hu' : cur.toList[j]? = some u := by
        rw [← htake, List.getElem?_take] at hu
        split at hu
        · exact hu
        · cases hu
      rw [Go.WideShapes.add_plain]
      simpa [World.cell?, hg] using hu'
    by_cases hroom : l.length + s.size ≤ cap
    · have hf := Lib.run_firstCells_string (P := Try.prog) w 1 s
      have hst := run_store_mark Try.prog g l.length 5 fz (Lib.strCells s) 0 cur w hg (by omega) (by simpa [Lib.strCells_length, hcs] using hroom) (Lib.strCells_oneCell s)
      simp only [Nat.add_zero, Lib.strCells_length] at hst
      have hr : (Builtin.append_ #[80, 9] ty #[.slice (some ⟨g, 0, none⟩) l.length cap, .string s]).run Try.prog w =
          .ok (.slice (some ⟨g, 0, none⟩) (l.length + s.size) cap) (w.setRow g (cur.toList.take l.length ++ Lib.strCells s ++ cur.toList.drop (l.length + s.size)).toArray) := by
        simp [Builtin.append_, run_underlying Try.underlying80, run_underlying Try.underlying9, sizeOf, typeInfo, hi, hz1, Builtin.lenOf, hroom, hf, Addr.add_lit, hst]
      refine ⟨_, _, hr, .inl ⟨g, cap, _, fz, by rw [List.length_append, hss], hbg, setRow_heap w g cur _ _ _ hg, hfz, by rw [List.length_append, hss]; exact hroom, hcm, ?_, ?_⟩, ⟨rfl, rfl, rfl, by simp, fun k _ hk => setRow_other w g k _ (fun e => hk (by simp [Value.ownBlock, e]))⟩⟩
      · simp only [List.size_toArray, List.length_append, List.length_take, List.length_drop, Array.length_toList, Lib.strCells_length]
        omega
      · rw [htake, List.map_append, ← strCells_u8, show (l ++ sl s).length = (l.map u8v ++ Lib.strCells s).length by simp [Lib.strCells_length, hss]]
        exact List.take_left
    · have hr := Lib.run_append_grow_string (P := Try.prog) w 80 9 ty 5 i (.int .u8 0) Try.underlying80 Try.underlying9 hi hz ⟨g, 0, none⟩ l.length cap (l.map u8v) (by rw [hz1]; simp) holds s (by omega) (by omega) (by rw [hz2]; exact growslice_fits (by omega) (by omega))
      have hge := grownCap_ge w (l.length + s.size) cap 5
      have hcm2 : grownCap w (l.length + s.size) cap 5 ≤ maxLen := grownCap_le_maxLen w (l.length + s.size) cap 5 (by unfold maxLen; omega)
      refine ⟨_, _, hr, .inr ⟨by simp, .inr ⟨w.heap.size, _, _, by rw [List.length_append, hss], hB, heap_alloc_new w.drew _, by rw [List.length_append, hss]; exact hge, hcm2, ?_, ?_⟩⟩, ⟨rfl, rfl, rfl, by simp, fun k hk _ => Below.heap_alloc w.drew _ k hk⟩⟩
      · have hz1' : (Value.int IntKind.u8 0).cells.size = 1 := rfl
        simp only [Array.size_append, List.size_toArray, size_zeroCells, hz1', List.length_map, Lib.strCells_length]
        omega
      · simp only [Array.toList_append, List.append_assoc]
        rw [← List.append_assoc, List.map_append, ← strCells_u8, show (l ++ sl s).length * 1 = (l.map u8v ++ Lib.strCells s).length by simp [Lib.strCells_length, hss]]
        exact List.take_left
  · obtain ⟨v', w', hr, h2, h3, _⟩ := Lib.run_append_own_string (P := Try.prog) w B 80 9 ty 5 i Try.underlying80 Try.underlying9 hi hz hz1 hz2 v l.length (l.map u8v) h s (by unfold maxLen; omega) (by omega) hB
    refine ⟨v', w', hr, .inr ?_, h3⟩
    rw [strCells_u8, ← List.map_append] at h2
    unfold Plain
    rw [List.length_append, hss]; exact h2
theorem Any.own {w : World} {B : Nat} {v : Value} {l : List UInt8} (h : Any w B v l) : ∀ k, v.ownBlock = some k → B ≤ k := by
  intro k hk
  rcases h with ⟨g, cap, cur, fz, rfl, hbg, _⟩ | h
  · simp [Value.ownBlock] at hk; omega
  · exact (h.lt k hk).1
/-- The operation, for the walk: old blocks stay. -/
theorem wpApp {w : World} {ops : Array Oper} {rest : List Oper} {o : Oper} {a : Act} {Q : Exit → Act → World → Prop} (hgd : o.guard = none) (x y : Operand)
    (ho : o.op = .call { callee := .builtin .append, args := #[x, y], argTypes := #[80, 9] }) (B : Nat) (v : Value) (l : List UInt8) (hx : a.eval x = v) (hv : Any w B v l) (s : ByteArray) (hy : a.eval y = .string s)
    (hlen : l.length + s.size ≤ 100000000) (hB : B ≤ w.heap.size) (h : ∀ v' w', Any w' B v' (l ++ sl s) → Below B w w' → wpList Try.prog ops Q rest (a.put o.dst v') w') : wpList Try.prog ops Q (o :: rest) a w := by
  refine wpList_plain hgd fun K hK => ?_
  obtain ⟨v', w', hr, h2, h3⟩ := run_app o.type hv s hlen hB
  unfold Oper.wp execOp
  simp only [ho, resolve, invoke, builtin, Sem.run_bind, Sem.run_pure, Result.andThen_ok, List.map_toArray, List.map_cons, List.map_nil, hx, hy, hr]
  exact hK _ _ (h v' w' h2 ((Below.refl B w).grown h3 hB hv.own))
end Mark
end Go.Proofs.Ythfbcfddfbipfaa
