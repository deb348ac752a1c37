/- Marks that a call has copied; what the code's functions hand back. -/
import Derived.Test.YtciagbeamphihaaMarkCopied
import Derived.Test.YtciagbeamphihaaMarkCk
namespace Go.Proofs.Ytciagbeamphihaa
open Go.RowKit
set_option linter.unusedVariables false
set_option maxRecDepth 8000
namespace Wm
theorem setC_ret {w wF : World} {R : Nat} {o : Mk × Nat} {A : Option Addr} {c : Nat} {B : Option Addr} {d : Nat} {act : Act} (ht : act.tmps.getD 6 undef = .pointer (some ⟨R, 0, none⟩)) (hs : act.tmps.getD 7 undef = .int .i64 (o.2 : Nat)) (hd : act.defers = [])
    (hL : Lies R (mkC (.slice A o.1.ins.length c) (.slice B o.1.holds.length d) o.1.out) 25 wF) (hH : Has o.1 A c B d wF) (hB : Below w.heap.size w wF) :
    bodyPost Try.prog Try.f18 (GivesM o w) .ret act wF := by
  have c0 := hL.cell (j := 0) rfl
  have c1 := hL.cell (j := 1) rfl
  have c2 := hL.cell (j := 2) rfl
  refine bodyPost_ret (v := .tuple #[mv o.1 A c B d, .int .i64 (o.2 : Nat)]) ?_ hd ⟨A, c, B, d, rfl, hH, hB⟩
  have ht2 : act.tmps[6]?.getD undef = .pointer (some ⟨R, 0, none⟩) := by simpa using ht
  have hs2 : act.tmps[7]?.getD undef = .int .i64 (o.2 : Nat) := by simpa using hs
  simp [results, Try.results18, go_sem, ht2, hs2, c0, c1, c2]
theorem idleC_ret {w wF : World} {R : Nat} {o : Mk × Nat} {A : Option Addr} {c : Nat} {B : Option Addr} {d : Nat} {act : Act} (ht : act.tmps.getD 4 undef = .pointer (some ⟨R, 0, none⟩)) (hs : act.tmps.getD 5 undef = .int .i64 (o.2 : Nat)) (hd : act.defers = [])
    (hL : Lies R (mkC (.slice A o.1.ins.length c) (.slice B o.1.holds.length d) o.1.out) 25 wF) (hH : Has o.1 A c B d wF) (hB : Below w.heap.size w wF) :
    bodyPost Try.prog Try.f19 (GivesM o w) .ret act wF := by
  have c0 := hL.cell (j := 0) rfl
  have c1 := hL.cell (j := 1) rfl
  have c2 := hL.cell (j := 2) rfl
  refine bodyPost_ret (v := .tuple #[mv o.1 A c B d, .int .i64 (o.2 : Nat)]) ?_ hd ⟨A, c, B, d, rfl, hH, hB⟩
  have ht2 : act.tmps[4]?.getD undef = .pointer (some ⟨R, 0, none⟩) := by simpa using ht
  have hs2 : act.tmps[5]?.getD undef = .int .i64 (o.2 : Nat) := by simpa using hs
  simp [results, Try.results19, go_sem, ht2, hs2, c0, c1, c2]
theorem holdC_ret {w wF : World} {R : Nat} {o : Mk × Nat} {A : Option Addr} {c : Nat} {B : Option Addr} {d : Nat} {act : Act} (ht : act.tmps.getD 6 undef = .pointer (some ⟨R, 0, none⟩)) (hs : act.tmps.getD 7 undef = .int .i64 (o.2 : Nat)) (hd : act.defers = [])
    (hL : Lies R (mkC (.slice A o.1.ins.length c) (.slice B o.1.holds.length d) o.1.out) 25 wF) (hH : Has o.1 A c B d wF) (hB : Below w.heap.size w wF) :
    bodyPost Try.prog Try.f20 (GivesM o w) .ret act wF := by
  have c0 := hL.cell (j := 0) rfl
  have c1 := hL.cell (j := 1) rfl
  have c2 := hL.cell (j := 2) rfl
  refine bodyPost_ret (v := .tuple #[mv o.1 A c B d, .int .i64 (o.2 : Nat)]) ?_ hd ⟨A, c, B, d, rfl, hH, hB⟩
  have ht2 : act.tmps[6]?.getD undef = .pointer (some ⟨R, 0, none⟩) := by simpa using ht
  have hs2 : act.tmps[7]?.getD undef = .int .i64 (o.2 : Nat) := by simpa using hs
  simp [results, Try.results20, go_sem, ht2, hs2, c0, c1, c2]
theorem freeC_ret {w wF : World} {R : Nat} {o : Mk × Nat} {A : Option Addr} {c : Nat} {B : Option Addr} {d : Nat} {act : Act} (ht : act.tmps.getD 4 undef = .pointer (some ⟨R, 0, none⟩)) (hs : act.tmps.getD 5 undef = .int .i64 (o.2 : Nat)) (hd : act.defers = [])
    (hL : Lies R (mkC (.slice A o.1.ins.length c) (.slice B o.1.holds.length d) o.1.out) 25 wF) (hH : Has o.1 A c B d wF) (hB : Below w.heap.size w wF) :
    bodyPost Try.prog Try.f21 (GivesM o w) .ret act wF := by
  have c0 := hL.cell (j := 0) rfl
  have c1 := hL.cell (j := 1) rfl
  have c2 := hL.cell (j := 2) rfl
  refine bodyPost_ret (v := .tuple #[mv o.1 A c B d, .int .i64 (o.2 : Nat)]) ?_ hd ⟨A, c, B, d, rfl, hH, hB⟩
  have ht2 : act.tmps[4]?.getD undef = .pointer (some ⟨R, 0, none⟩) := by simpa using ht
  have hs2 : act.tmps[5]?.getD undef = .int .i64 (o.2 : Nat) := by simpa using hs
  simp [results, Try.results21, go_sem, ht2, hs2, c0, c1, c2]
theorem newC_ret {w wF : World} {R : Nat} {o : Mk × Nat} {A : Option Addr} {c : Nat} {B : Option Addr} {d : Nat} {act : Act} (ht : act.tmps.getD 2 undef = .pointer (some ⟨R, 0, none⟩)) (hs : act.tmps.getD 3 undef = .int .i64 (o.2 : Nat)) (hd : act.defers = [])
    (hL : Lies R (mkC (.slice A o.1.ins.length c) (.slice B o.1.holds.length d) o.1.out) 25 wF) (hH : Has o.1 A c B d wF) (hB : Below w.heap.size w wF) :
    bodyPost Try.prog Try.f9 (GivesM o w) .ret act wF := by
  have c0 := hL.cell (j := 0) rfl
  have c1 := hL.cell (j := 1) rfl
  have c2 := hL.cell (j := 2) rfl
  refine bodyPost_ret (v := .tuple #[mv o.1 A c B d, .int .i64 (o.2 : Nat)]) ?_ hd ⟨A, c, B, d, rfl, hH, hB⟩
  have ht2 : act.tmps[2]?.getD undef = .pointer (some ⟨R, 0, none⟩) := by simpa using ht
  have hs2 : act.tmps[3]?.getD undef = .int .i64 (o.2 : Nat) := by simpa using hs
  simp [results, Try.results9, go_sem, ht2, hs2, c0, c1, c2]
theorem tellC_ret {w wF : World} {R : Nat} {o : Mk × Int × Bool} {A : Option Addr} {c : Nat} {B : Option Addr} {d : Nat} {act : Act} (ht : act.tmps.getD 2 undef = .pointer (some ⟨R, 0, none⟩)) (hs : act.tmps.getD 3 undef = .int .i64 o.2.1) (hb : act.tmps.getD 4 undef = .bool o.2.2) (hd : act.defers = [])
    (hL : Lies R (mkC (.slice A o.1.ins.length c) (.slice B o.1.holds.length d) o.1.out) 25 wF) (hH : Has o.1 A c B d wF) (hB : Below w.heap.size w wF) :
    bodyPost Try.prog Try.f16 (GivesT o w) .ret act wF := by
  have c0 := hL.cell (j := 0) rfl
  have c1 := hL.cell (j := 1) rfl
  have c2 := hL.cell (j := 2) rfl
  refine bodyPost_ret (v := .tuple #[mv o.1 A c B d, .int .i64 o.2.1, .bool o.2.2]) ?_ hd ⟨A, c, B, d, rfl, hH, hB⟩
  have ht2 : act.tmps[2]?.getD undef = .pointer (some ⟨R, 0, none⟩) := by simpa using ht
  have hs2 : act.tmps[3]?.getD undef = .int .i64 o.2.1 := by simpa using hs
  have hb2 : act.tmps[4]?.getD undef = .bool o.2.2 := by simpa using hb
  simp [results, Try.results16, go_sem, ht2, hs2, hb2, c0, c1, c2]
/-- Behind copied: the call's block of marks holds rows of the call's own; the answer's block. -/
structure CpAt (w0 : World) (m : Mk) (A : Option Addr) (c : Nat) (B : Option Addr) (d : Nat) (w : World) : Prop where
  ma : MkAt w0.heap.size m A c B d w
  res : Lies (w0.heap.size + 1) (mkC (.slice none 0 0) (.slice none 0 0) 0) 25 w
  fr : Fresh (w0.heap.size + 2) m (.slice A m.ins.length c) (.slice B m.holds.length d) w
  below : Below w0.heap.size w0 w
theorem Fresh.next {K : Nat} {m : Mk} {vi vh : Value} {w w' : World} (h : Fresh K m vi vh w) (hb : Below w.heap.size w w') : Fresh K m vi vh w' := ⟨own_up h.i hb, own_up h.h hb, h.apart⟩
theorem CpAt.next {w0 : World} {m : Mk} {A : Option Addr} {c : Nat} {B : Option Addr} {d : Nat} {w w' : World} (h : CpAt w0 m A c B d w) (hb : Below w.heap.size w w') : CpAt w0 m A c B d w' :=
  ⟨h.ma.next hb, (hb.block _ (lt_of_block h.res)).trans h.res, h.fr.next hb, below_next h.below hb⟩
theorem lies_otherM {b R : Nat} {C : Array Value} {T : TypeId} {w : World} (h : Lies b C T w) (hne : b ≠ R) (x y : Value) (o : Int) : Lies b C T (setM3 w R x y o) := ((h.other hne _ _).other hne _ _).other hne _ _
/-- What copied hands back is stored into the call's block. -/
theorem CpAt.start {w0 : World} {m : Mk} {A : Option Addr} {c : Nat} {B : Option Addr} {d : Nat} {A' : Option Addr} {c' : Nat} {B' : Option Addr} {d' : Nat} {w1 w2 : World} (h : SeAt w0 m A c B d w1)
    (hf : Fresh w1.heap.size m (.slice A' m.ins.length c') (.slice B' m.holds.length d') w2) (hb : Below w1.heap.size w1 w2) :
    CpAt w0 m A' c' B' d' (setM3 w2 w0.heap.size (.slice A' m.ins.length c') (.slice B' m.holds.length d') m.out) := by
  have h2 := h.next hb
  have hk : w0.heap.size + 2 ≤ w1.heap.size := lt_of_block h.res
  exact ⟨lies_setM3 h2.ma _ _ _, lies_otherM h2.res (by omega) _ _ _, ⟨own_setM3 (own_base hf.i hk) (by omega) _ _ _, own_setM3 (own_base hf.h hk) (by omega) _ _ _, hf.apart⟩, below_setM3 h2.below (Nat.le_refl _) _ _ _⟩
theorem Has.of_own {K : Nat} {m : Mk} {A : Option Addr} {c : Nat} {B : Option Addr} {d : Nat} {w : World} (hi : w.ownsRow K 42 2 (.slice A m.ins.length c) m.ins.length (ic m.ins)) (hh : w.ownsRow K 44 2 (.slice B m.holds.length d) m.holds.length (hc m.holds)) : Has m A c B d w := by
  obtain ⟨A1, c1, e1, a1, a2, _, a3, _⟩ := own_form hi (by omega)
  obtain ⟨B1, d1, e2, b1, b2, _, b3, _⟩ := own_form hh (by omega)
  cases e1
  cases e2
  exact ⟨a3, b3, a1, a2, b1, b2⟩
/-- The answer is written. -/
theorem fin_own {w0 wE : World} {m : Mk} {A : Option Addr} {c : Nat} {B : Option Addr} {d : Nat} (hr : Lies (w0.heap.size + 1) (mkC (.slice none 0 0) (.slice none 0 0) 0) 25 wE)
    (hi : wE.ownsRow (w0.heap.size + 2) 42 2 (.slice A m.ins.length c) m.ins.length (ic m.ins)) (hh : wE.ownsRow (w0.heap.size + 2) 44 2 (.slice B m.holds.length d) m.holds.length (hc m.holds)) (hb : Below w0.heap.size w0 wE) :
    Lies (w0.heap.size + 1) (mkC (.slice A m.ins.length c) (.slice B m.holds.length d) m.out) 25 (setM3 wE (w0.heap.size + 1) (.slice A m.ins.length c) (.slice B m.holds.length d) m.out) ∧
    Has m A c B d (setM3 wE (w0.heap.size + 1) (.slice A m.ins.length c) (.slice B m.holds.length d) m.out) ∧ Below w0.heap.size w0 (setM3 wE (w0.heap.size + 1) (.slice A m.ins.length c) (.slice B m.holds.length d) m.out) :=
  ⟨lies_setM3 hr _ _ _, Has.of_own (own_setM3 hi (by omega) _ _ _) (own_setM3 hh (by omega) _ _ _), below_setM3 hb (by omega) _ _ _⟩
/-- An input of an own row: where it lies; laid anew. -/
theorem own_at {w : World} {K n : Nat} {T : TypeId} {A : Option Addr} {c : Nat} {xs : List Value} (h : w.ownsRow K T 2 (.slice A n c) n xs) (hn : 0 < n) : ∃ g, A = some ⟨g, 0, none⟩ ∧ K ≤ g ∧ g < w.heap.size := by
  obtain ⟨_, ⟨e, e0⟩ | ⟨g, cap, cur, e, hg, hh, _⟩⟩ := h
  · omega
  · cases e; exact ⟨g, rfl, hg, lt_of_block hh⟩
theorem own_cellI2 {w : World} {K n c g : Nat} {l : List In} (h : w.ownsRow K 42 2 (.slice (some ⟨g, 0, none⟩) n c) n (ic l)) {i : Nat} {x : In} (hi : l[i]? = some x) :
    w.cell? ⟨g, i * 2, none⟩ = some (.int .i64 x.mark) ∧ w.cell? ⟨g, i * 2 + 1, none⟩ = some (.bool x.idle) ∧ w.frozen? ⟨g, i * 2, none⟩ = false ∧ w.frozen? ⟨g, i * 2 + 1, none⟩ = false := by
  have hl := (List.getElem?_eq_some_iff.1 hi).1
  have hn : l.length * 2 = n * 2 := by rw [← ic_len, h.1]
  refine ⟨?_, ?_, h.frozenAt _, h.frozenAt _⟩
  · rw [h.cellAt _ (by omega)]
    exact (fl_get iL (fun _ => rfl) (n := 2) (j := 0) hi (by omega)).trans rfl
  · rw [h.cellAt _ (by omega)]
    exact (fl_get iL (fun _ => rfl) (n := 2) (j := 1) hi (by omega)).trans rfl
theorem ic_set {l : List In} {i : Nat} {x : In} (hi : i < l.length) : ((ic l).set (i * 2) (.int .i64 x.mark)).set (i * 2 + 1) (.bool x.idle) = ic (l.set i x) := by
  have e : l = l.take i ++ l[i] :: l.drop (i + 1) := by rw [List.getElem_cons_drop, List.take_append_drop]
  have hl : (ic (l.take i)).length = i * 2 := by rw [ic_len, List.length_take]; omega
  have hs : l.set i x = l.take i ++ x :: l.drop (i + 1) := by
    rw [List.set_eq_take_append_cons_drop, if_pos hi]
  rw [hs]
  have e2 : ic l = ic (l.take i) ++ (.int .i64 l[i].mark :: .bool l[i].idle :: ic (l.drop (i + 1))) := by
    conv => lhs; rw [e]
    rw [ic_app]; rfl
  rw [e2, List.set_append_right _ _ (by omega), List.set_append_right _ _ (by omega), hl, Nat.sub_self, show i * 2 + 1 - i * 2 = 1 by omega, ic_app]
  rfl
theorem own_setI2 {w : World} {K n c g : Nat} {l : List In} (h : w.ownsRow K 42 2 (.slice (some ⟨g, 0, none⟩) n c) n (ic l)) {i : Nat} (x : In) (hi : i < l.length) :
    ((w.setCell ⟨g, i * 2, none⟩ (.int .i64 x.mark)).setCell ⟨g, i * 2 + 1, none⟩ (.bool x.idle)).ownsRow K 42 2 (.slice (some ⟨g, 0, none⟩) n c) n (ic (l.set i x)) := by
  have h1 := (h.stored (i * 2) (.int .i64 x.mark)).1
  have h2 := (h1.stored (i * 2 + 1) (.bool x.idle)).1
  rwa [ic_set hi] at h2
/-- The walk stops ahead of the operation that writes slot n. -/
theorem hold_at {P : Program} {ops : Array Oper} {Q : Exit → Act → World → Prop} {o : Oper} {rest : List Oper} {a : Act} {w : World} (n : Nat) (hd : o.dst = some n) (h : Hold (wpList P ops Q (o :: rest) a w)) : wpList P ops Q (o :: rest) a w := h
end Wm
end Go.Proofs.Ytciagbeamphihaa
