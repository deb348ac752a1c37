/- A queue in memory: its rule, and a line of trips in an array that they go round in; put. -/
import Derived.Test.YtdfdfdhgggilbaaLoopPass
namespace Go.Proofs.Ytdfdfdhgggilbaa
open Go.RowKit
set_option linter.unusedVariables false
namespace Lp
open Gen
abbrev trZ : Array Value := #[.string ⟨#[]⟩, .int .i64 0, .int .i64 0, .int .i64 0]
theorem trZ_eq : trC zTr = trZ := rfl
theorem trL_len (t : Tr) : (trL t).length = 4 := rfl
/-- A queue's cells. -/
def qL (L : Int) (F : Nat) (ps : List Tr) (f n : Nat) : List Value := .int .u64 L :: .int .i64 (F : Int) :: (ps.flatMap trL ++ [.int .i64 (f : Int), .int .i64 (n : Int)])
def qC (L : Int) (F : Nat) (ps : List Tr) (f n : Nat) : Array Value := (qL L F ps f n).toArray
section
variable {L : Int} {F f n : Nat} {ps : List Tr}
theorem q_flat (h : ps.length = 16) : (ps.flatMap trL).length = 64 := by rw [flat_len trL trL_len, h]
theorem q_limit : (qC L F ps f n)[0]? = some (.int .u64 L) := by simp [qC, qL]
theorem q_fuel : (qC L F ps f n)[1]? = some (.int .i64 (F : Int)) := by simp [qC, qL]
theorem q_first (h : ps.length = 16) : (qC L F ps f n)[66]? = some (.int .i64 (f : Int)) := by
  have h2 := q_flat h
  simp only [qC, qL, List.getElem?_toArray]
  rw [List.getElem?_cons_succ, List.getElem?_cons_succ, List.getElem?_append_right (by omega), h2]
  rfl
theorem q_n (h : ps.length = 16) : (qC L F ps f n)[67]? = some (.int .i64 (n : Int)) := by
  have h2 := q_flat h
  simp only [qC, qL, List.getElem?_toArray]
  rw [List.getElem?_cons_succ, List.getElem?_cons_succ, List.getElem?_append_right (by omega), h2]
  rfl
theorem q_get {p j : Nat} {t : Tr} (h : ps.length = 16) (hp : ps[p]? = some t) (hj : j < 4) : (qC L F ps f n)[2 + (p * 4 + j)]? = (trL t)[j]? := by
  have h2 := q_flat h
  have h3 := (List.getElem?_eq_some_iff.1 hp).1
  simp only [qC, qL, List.getElem?_toArray]
  rw [Nat.add_comm 2, List.getElem?_cons_succ, List.getElem?_cons_succ, List.getElem?_append_left (by omega), flat_get trL trL_len hp hj]
theorem flat_set : ∀ {ps : List Tr} {p : Nat} (t : Tr) (r : List Value), p < ps.length →
    ((((ps.flatMap trL ++ r).set (p * 4) (.string t.ev.key)).set (p * 4 + 1) (.int .i64 t.ev.at_)).set (p * 4 + 2) (.int .i64 t.ev.val)).set (p * 4 + 3) (.int .i64 (t.n : Int)) = (ps.set p t).flatMap trL ++ r
  | [], _, _, _, h => by simp at h
  | y :: l, 0, t, r, _ => by simp [trL]
  | y :: l, p + 1, t, r, h => by
    have e1 : (y :: l).flatMap trL ++ r = .string y.ev.key :: .int .i64 y.ev.at_ :: .int .i64 y.ev.val :: .int .i64 (y.n : Int) :: (l.flatMap trL ++ r) := by simp [trL]
    have e2 : ((y :: l).set (p + 1) t).flatMap trL ++ r = .string y.ev.key :: .int .i64 y.ev.at_ :: .int .i64 y.ev.val :: .int .i64 (y.n : Int) :: ((l.set p t).flatMap trL ++ r) := by simp [trL]
    rw [e1, e2, show (p + 1) * 4 = p * 4 + 1 + 1 + 1 + 1 by omega]
    simp only [List.set_cons_succ]
    rw [flat_set t r (by simpa using h)]
theorem q_set {p : Nat} (t : Tr) (hp : p < ps.length) :
    ((((qC L F ps f n).setIfInBounds (2 + p * 4) (.string t.ev.key)).setIfInBounds (2 + p * 4 + 1) (.int .i64 t.ev.at_)).setIfInBounds (2 + p * 4 + 2) (.int .i64 t.ev.val)).setIfInBounds (2 + p * 4 + 3) (.int .i64 (t.n : Int)) = qC L F (ps.set p t) f n := by
  simp only [qC, qL, List.setIfInBounds_toArray]
  rw [show 2 + p * 4 = p * 4 + 1 + 1 by omega, show p * 4 + 1 + 1 + 1 = (p * 4 + 1) + 1 + 1 by omega, show p * 4 + 1 + 1 + 2 = (p * 4 + 2) + 1 + 1 by omega, show p * 4 + 1 + 1 + 3 = (p * 4 + 3) + 1 + 1 by omega]
  simp only [List.set_cons_succ]
  rw [flat_set t _ hp]
theorem q_setF (h : ps.length = 16) (f' : Nat) : (qC L F ps f n).setIfInBounds 66 (.int .i64 (f' : Int)) = qC L F ps f' n := by
  have h2 := q_flat h
  simp only [qC, qL, List.setIfInBounds_toArray, List.set_cons_succ]
  rw [List.set_append_right _ _ (by omega), h2]
  rfl
theorem q_setN (h : ps.length = 16) (n' : Nat) : (qC L F ps f n).setIfInBounds 67 (.int .i64 (n' : Int)) = qC L F ps f n' := by
  have h2 := q_flat h
  simp only [qC, qL, List.setIfInBounds_toArray, List.set_cons_succ]
  rw [List.set_append_right _ _ (by omega), h2]
  rfl
end
/-- b is a queue's block; the trips of l lie in it, in order. -/
def Que (w : World) (b : Nat) (L : Int) (F : Nat) (l : List Tr) : Prop := ∃ ps f n, Ring ps f n l ∧ Lies b (qC L F ps f n) 60 w
theorem Que.lt {w : World} {b : Nat} {L : Int} {F : Nat} {l : List Tr} (h : Que w b L F l) : b < w.heap.size := by
  obtain ⟨ps, f, n, h1, h2⟩ := h
  exact lt_of_block h2
theorem Que.block {w w' : World} {b : Nat} {L : Int} {F : Nat} {l : List Tr} (h : Que w b L F l) (hb : w'.heap[b]? = w.heap[b]?) : Que w' b L F l := by
  obtain ⟨ps, f, n, h1, h2⟩ := h
  exact ⟨ps, f, n, h1, hb.trans h2⟩
theorem Que.below {w w' : World} {b : Nat} {L : Int} {F : Nat} {l : List Tr} (h : Que w b L F l) (hb : Below w.heap.size w w') : Que w' b L F l := h.block (hb.block b h.lt)
theorem Que.mine {M : Nat → Prop} {w w' : World} {b : Nat} {L : Int} {F : Nat} {l : List Tr} (h : Que w b L F l) (hm : Mine M w w') (hb : ¬ M b) : Que w' b L F l := h.block (hm.block b h.lt hb)
/-- The cells of the place p. -/
structure PlAt (w : World) (b p : Nat) (t : Tr) : Prop where
  c0 : w.cell? ⟨b, 2 + p * 4, none⟩ = some (.string t.ev.key)
  c1 : w.cell? ⟨b, 2 + p * 4 + 1, none⟩ = some (.int .i64 t.ev.at_)
  c2 : w.cell? ⟨b, 2 + p * 4 + 2, none⟩ = some (.int .i64 t.ev.val)
  c3 : w.cell? ⟨b, 2 + p * 4 + 3, none⟩ = some (.int .i64 (t.n : Int))
theorem pl_at {w : World} {b : Nat} {L : Int} {F : Nat} {ps : List Tr} {f n p : Nat} {t : Tr} {T : TypeId} (h : Lies b (qC L F ps f n) T w) (hl : ps.length = 16) (hp : ps[p]? = some t) : PlAt w b p t := by
  refine ⟨h.cell (j := 2 + p * 4) ?_, h.cell (j := 2 + p * 4 + 1) ?_, h.cell (j := 2 + p * 4 + 2) ?_, h.cell (j := 2 + p * 4 + 3) ?_⟩
  · exact q_get (j := 0) hl hp (by omega)
  · rw [Nat.add_assoc]; exact q_get (j := 1) hl hp (by omega)
  · rw [Nat.add_assoc]; exact q_get (j := 2) hl hp (by omega)
  · rw [Nat.add_assoc]; exact q_get (j := 3) hl hp (by omega)
def setQ (w : World) (b p : Nat) (t : Tr) : World :=
  (((w.setCell ⟨b, 2 + p * 4, none⟩ (.string t.ev.key)).setCell ⟨b, 2 + p * 4 + 1, none⟩ (.int .i64 t.ev.at_)).setCell ⟨b, 2 + p * 4 + 2, none⟩ (.int .i64 t.ev.val)).setCell ⟨b, 2 + p * 4 + 3, none⟩ (.int .i64 (t.n : Int))
theorem lies_setQ {w : World} {b : Nat} {L : Int} {F : Nat} {ps : List Tr} {f n p : Nat} {T : TypeId} (h : Lies b (qC L F ps f n) T w) (t : Tr) (hp : p < ps.length) : Lies b (qC L F (ps.set p t) f n) T (setQ w b p t) := by
  have h1 := (((h.set (2 + p * 4) (.string t.ev.key)).set (2 + p * 4 + 1) (.int .i64 t.ev.at_)).set (2 + p * 4 + 2) (.int .i64 t.ev.val)).set (2 + p * 4 + 3) (.int .i64 (t.n : Int))
  rwa [q_set t hp] at h1
theorem mine_setQ {M : Nat → Prop} (w : World) {b : Nat} (p : Nat) (t : Tr) (h : M b) : Mine M w (setQ w b p t) :=
  (((Mine.set w (a := ⟨b, 2 + p * 4, none⟩) _ h).trans (Mine.set _ (a := ⟨b, 2 + p * 4 + 1, none⟩) _ h)).trans (Mine.set _ (a := ⟨b, 2 + p * 4 + 2, none⟩) _ h)).trans (Mine.set _ (a := ⟨b, 2 + p * 4 + 3, none⟩) _ h)
theorem idx_mod {x : Nat} : ((x : Int)).tmod 16 = ((x % 16 : Nat) : Int) := by
  rw [Int.tmod_eq_emod_of_nonneg (by omega)]; omega
set_option maxHeartbeats 1000000 in
/-- put, where there is room. -/
theorem lpPutOk (b : Nat) (L : Int) (F : Nat) (l : List Tr) (t : Tr) (w : World) (H : Que w b L F l) (hl : l.length < 16) :
    Calls Try.prog 21 #[.pointer (some ⟨b, 2, none⟩), trV t] w fun e w' => e = .returned (.bool true) ∧ Que w' b L F (l ++ [t]) ∧ Mine (· = b) w w' := by
  obtain ⟨ps, f, n, hr, hL⟩ := H
  have hn : n < 16 := by rw [← hr.len]; exact hl
  have hf := hr.first
  obtain ⟨p, hp⟩ : ∃ p, p = (f + n) % 16 := ⟨_, rfl⟩
  have hp16 : p < 16 := by omega
  obtain ⟨o, ho⟩ : ∃ o, ps[p]? = some o := ⟨_, List.getElem?_eq_getElem (by rw [hr.size]; exact hp16)⟩
  have HR := Lib.hid hr
  have HP := Lib.hid hp
  have L0 := Lib.hid hL
  have lt0 := lt_of_block hL
  obtain ⟨p0, p1, p2, p3⟩ := pl_at hL hr.size ho
  have hm1 : ((f : Int) + n).tmod 16 = (p : Int) := by rw [hp]; exact idx_mod (x := f + n)
  have hw1 := wrap_i (v := (f : Int) + n) (by unfold inI; omega)
  have hw2 := wrap_i (v := (n : Int) + 1) (by unfold inI; omega)
  have hne : ((n : Int) == 16) = false := by simp; omega
  have c66 : w.cell? ⟨b, 66, none⟩ = some (.int .i64 (f : Int)) := hL.cell (q_first hr.size)
  have c67 : w.cell? ⟨b, 67, none⟩ = some (.int .i64 (n : Int)) := hL.cell (q_n hr.size)
  have f0 := hL.free (2 + p * 4)
  have f1 := hL.free (2 + p * 4 + 1)
  have f2 := hL.free (2 + p * 4 + 2)
  have f3 := hL.free (2 + p * 4 + 3)
  have f67 := hL.free 67
  have hi1 : (p : Int) < 16 := by omega
  have RP := Lib.hid (hr.put t hn)
  rw [← hp] at RP
  have h67 := (lies_setQ hL t (p := p) (by rw [hr.size]; exact hp16)).set 67 (.int .i64 ((n : Int) + 1))
  rw [show ((n : Int) + 1) = ((n + 1 : Nat) : Int) by omega, q_setN (by rw [List.length_set]; exact hr.size)] at h67
  have H67 := Lib.hid h67
  clear hr hL hp ho hl h67
  go_enter Try.func21, Try.ntmps21
  go_wp2_with fail
  go_region
  go_wp2_with fail
  go_ret
  exact ⟨rfl, ⟨_, f, n + 1, RP.out, (H67.out.al (o := .cells (trC t) 52)).drew⟩,
    (((mine_setQ (M := (· = b)) w p t rfl).trans (Mine.set (M := (· = b)) _ (a := ⟨b, 67, none⟩) _ rfl)).trans (Mine.alloc _ _ _)).trans (Mine.drew _ _)⟩
/-- put, where there is none. -/
theorem lpPutNo (b : Nat) (L : Int) (F : Nat) (l : List Tr) (t : Tr) (w : World) (H : Que w b L F l) (hl : l.length = 16) :
    Calls Try.prog 21 #[.pointer (some ⟨b, 2, none⟩), trV t] w (TellsB false w) := by
  obtain ⟨ps, f, n, hr, hL⟩ := H
  have hn : n = 16 := by rw [← hr.len]; exact hl
  subst hn
  have lt0 := lt_of_block hL
  have c67 : w.cell? ⟨b, 67, none⟩ = some (.int .i64 16) := hL.cell (q_n hr.size)
  clear hr hL hl
  go_enter Try.func21, Try.ntmps21
  go_wp2_with fail
  go_ret
  exact ⟨rfl, below_al (Below.refl _ _)⟩
theorem take_ret {Post : Ending → World → Prop} {t : Tr} {b : Bool} {rb : Nat} {w : World} {act : Act} (ht : act.tmps.getD 2 undef = .pointer (some ⟨rb, 0, none⟩)) (hs : act.tmps.getD 3 undef = .bool b) (hd : act.defers = []) (hl : Lies rb (trC t) 52 w) (h : Post (.returned (.tuple #[trV t, .bool b])) w) :
    bodyPost Try.prog Try.f25 Post Exit.ret act w := by
  have c0 : w.cell? ⟨rb, 0, none⟩ = some (.string t.ev.key) := hl.cell (j := 0) rfl
  have c1 : w.cell? ⟨rb, 1, none⟩ = some (.int .i64 t.ev.at_) := hl.cell (j := 1) rfl
  have c2 : w.cell? ⟨rb, 2, none⟩ = some (.int .i64 t.ev.val) := hl.cell (j := 2) rfl
  have c3 : w.cell? ⟨rb, 3, none⟩ = some (.int .i64 (t.n : Int)) := hl.cell (j := 3) rfl
  have ht2 : act.tmps[2]?.getD undef = .pointer (some ⟨rb, 0, none⟩) := by simpa using ht
  have hs2 : act.tmps[3]?.getD undef = .bool b := by simpa using hs
  exact bodyPost_ret (v := .tuple #[trV t, .bool b]) (by simp [results, Try.results25, go_sem, ht2, hs2, c0, c1, c2, c3]) hd h
theorem lpTakeNo (b : Nat) (L : Int) (F : Nat) (w : World) (H : Que w b L F []) :
    Calls Try.prog 25 #[.pointer (some ⟨b, 2, none⟩)] w (GivesT zTr false w) := by
  obtain ⟨ps, f, n, hr, hL⟩ := H
  have hn : n = 0 := hr.len.symm
  subst hn
  have lt0 := lt_of_block hL
  have c67 : w.cell? ⟨b, 67, none⟩ = some (.int .i64 0) := hL.cell (q_n hr.size)
  clear hr hL
  go_enter Try.func25, Try.ntmps25
  go_wp2_with fail
  refine take_ret (t := zTr) (b := false) (rb := w.heap.size) rfl rfl rfl ?_ ?_
  · exact (Lies.new w (trC zTr) 52).al
  · exact ⟨rfl, below_al (below_al (Below.refl _ _))⟩
set_option maxHeartbeats 1000000 in
theorem lpTakeOk (b : Nat) (L : Int) (F : Nat) (t : Tr) (l : List Tr) (w : World) (H : Que w b L F (t :: l)) :
    Calls Try.prog 25 #[.pointer (some ⟨b, 2, none⟩)] w fun e w' => e = .returned (.tuple #[trV t, .bool true]) ∧ Que w' b L F l ∧ Mine (· = b) w w' := by
  obtain ⟨ps, f, n, hr, hL⟩ := H
  obtain ⟨ho, hn⟩ := hr.head
  have hf := hr.first
  have hn2 := hr.few
  obtain ⟨g, hg⟩ : ∃ g, g = (f + 1) % 16 := ⟨_, rfl⟩
  obtain ⟨m, rfl⟩ : ∃ m, n = m + 1 := ⟨n - 1, by omega⟩
  have HR := Lib.hid hr
  have HG := Lib.hid hg
  have HL0 := Lib.hid hL
  have lt0 := lt_of_block hL
  have hm1 : ((f : Int) + 1).tmod 16 = (g : Int) := by rw [hg]; exact idx_mod (x := f + 1)
  have hw1 := wrap_i (v := (f : Int) + 1) (by unfold inI; omega)
  have hw2 := wrap_i (v := (m : Int)) (by unfold inI; omega)
  have hw3 : (m : Int) + 1 - 1 = (m : Int) := by omega
  have hne : ((m : Int) + 1 == 0) = false := by simp; omega
  have c67 : w.cell? ⟨b, 67, none⟩ = some (.int .i64 ((m : Int) + 1)) := hL.cell (q_n hr.size)
  have hi1 : (f : Int) < 16 := by omega
  have RT := Lib.hid (hr.take zTr)
  rw [← hg] at RT
  have HO := Lib.hid ho
  clear hr hL hg ho
  go_enter Try.func25, Try.ntmps25
  go_wp2_with fail
  have LA := Lib.hid ((Lies.new w (trZ) 52).al (o := .cells (trZ) 52))
  have LB := Lib.hid (lies_new1 w (.cells (trZ) 52) (trZ) 52)
  have LQ := Lib.hid ((HL0.out.al (o := .cells (trZ) 52)).al (o := .cells (trZ) 52))
  have MW : Hid (Mine (· = b) w _) := Lib.hid ((Mine.alloc (· = b) w (.cells (trZ) 52)).trans (Mine.alloc _ _ (.cells (trZ) 52)))
  obtain ⟨w2, hw⟩ : ∃ w2, w2 = (w.alloc (.cells (trZ) 52)).alloc (.cells (trZ) 52) := ⟨_, rfl⟩
  have hs2 : w.heap.size + 1 < w2.heap.size := by rw [hw]; simp
  have hs1 : w.heap.size < w2.heap.size := by omega
  have lt2 : b < w2.heap.size := by omega
  rw [← hw] at LA LB LQ MW ⊢
  clear hw c67
  have c66 : w2.cell? ⟨b, 66, none⟩ = some (.int .i64 (f : Int)) := LQ.out.cell (q_first HR.out.size)
  have c67 : w2.cell? ⟨b, 67, none⟩ = some (.int .i64 ((m : Int) + 1)) := LQ.out.cell (q_n HR.out.size)
  obtain ⟨p0, p1, p2, p3⟩ := pl_at LQ.out HR.out.size HO.out
  have f0 := LQ.out.free (2 + f * 4)
  have f1 := LQ.out.free (2 + f * 4 + 1)
  have f2 := LQ.out.free (2 + f * 4 + 2)
  have f3 := LQ.out.free (2 + f * 4 + 3)
  have f66 := LQ.out.free 66
  have f67 := LQ.out.free 67
  have a0 := LA.out.cell (j := 0) rfl
  have a1 := LA.out.cell (j := 1) rfl
  have a2 := LA.out.cell (j := 2) rfl
  have a3 := LA.out.cell (j := 3) rfl
  have b0 := LB.out.cell (j := 0) rfl
  have b1 := LB.out.cell (j := 1) rfl
  have b2 := LB.out.cell (j := 2) rfl
  have b3 := LB.out.cell (j := 3) rfl
  have g0 := LA.out.free 0
  have g1 := LA.out.free 1
  have g2 := LA.out.free 2
  have g3 := LA.out.free 3
  go_region
  go_wp2_with fail
  go_region
  go_wp2_with fail
  clear p0 p1 p2 p3 f0 f1 f2 f3 f66 f67 a0 a1 a2 a3 b0 b1 b2 b3 g0 g1 g2 g3 c66 c67
  have h1 := (((lies_setQ LQ.out zTr (p := f) (by rw [HR.out.size]; exact hf)).set 66 (.int .i64 (g : Int))).set 67 (.int .i64 (m : Int)))
  rw [q_setF (by rw [List.length_set]; exact HR.out.size), q_setN (by rw [List.length_set]; exact HR.out.size)] at h1
  have hne : b ≠ w.heap.size := by omega
  have h2 := (((h1.other hne 0 (.string t.ev.key)).other hne 1 (.int .i64 t.ev.at_)).other hne 2 (.int .i64 t.ev.val)).other hne 3 (.int .i64 (t.n : Int))
  have hne2 : w.heap.size ≠ b := by omega
  have h3 := Lies.set4 (((LA.out.other hne2 (2 + f * 4) (.string ⟨#[]⟩)).other hne2 (2 + f * 4 + 1) (.int .i64 0)).other hne2 (2 + f * 4 + 2) (.int .i64 0) |>.other hne2 (2 + f * 4 + 3) (.int .i64 0) |>.other hne2 66 (.int .i64 (g : Int)) |>.other hne2 67 (.int .i64 (m : Int)))
    (.string t.ev.key) (.int .i64 t.ev.at_) (.int .i64 t.ev.val) (.int .i64 (t.n : Int))
  have h4 : Mine (· = b) w2 _ := ((mine_setQ (M := (· = b)) w2 f zTr rfl).trans (Mine.set (M := (· = b)) _ (a := ⟨b, 66, none⟩) (.int .i64 (g : Int)) rfl)).trans (Mine.set (M := (· = b)) _ (a := ⟨b, 67, none⟩) (.int .i64 (m : Int)) rfl)
  have h5 := (((MW.out.trans h4).set_new (a := ⟨w.heap.size, 0, none⟩) (Nat.le_refl _) (.string t.ev.key)).set_new (a := ⟨w.heap.size, 1, none⟩) (Nat.le_refl _) (.int .i64 t.ev.at_)).set_new (a := ⟨w.heap.size, 2, none⟩) (Nat.le_refl _) (.int .i64 t.ev.val) |>.set_new (a := ⟨w.heap.size, 3, none⟩) (Nat.le_refl _) (.int .i64 (t.n : Int))
  refine take_ret (t := t) (b := true) (rb := w.heap.size) rfl rfl rfl (h3.al (o := .cells (trC t) 52)).drew.drew ?_
  exact ⟨rfl, ⟨_, g, m, RT.out, (h2.al (o := .cells (trC t) 52)).drew.drew⟩, ((h5.trans (Mine.alloc _ _ (.cells (trC t) 52))).trans (Mine.drew _ _)).trans (Mine.drew _ _)⟩
end Lp
end Go.Proofs.Ytdfdfdhgggilbaa
