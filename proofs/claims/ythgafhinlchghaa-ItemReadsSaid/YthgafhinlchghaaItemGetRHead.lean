/- Contract of the reference's Get. -/
import Derived.Test.YthgafhinlchghaaItemGetAny
import Derived.Test.YthgafhinlchghaaItemFieldR
import Derived.Test.YthgafhinlchghaaItemOkRef
import Derived.Deep.Cut
import Derived.Deep.CutBlock
namespace Go.Proofs.Ythgafhinlchghaa
open Go.RowKit
open Itm Vlq
set_option linter.unusedVariables false
/-- Reading on: a place within the bytes, an error. -/
structure WhereR (s : ByteArray) (p : Nat × Nat) (g : Nat) (w : World) : Prop where
  le : p.1 ≤ s.size
  rd : RdAt 54 g s p.1 p.2 w
def TookR (g : Nat) (s : ByteArray) (v : Value) (p : Nat × Nat) (w : World) (e : Ending) (w' : World) : Prop := e = .returned v ∧ WhereR s p g w' ∧ But g w w'
theorem rgNumber {g : Nat} {s : ByteArray} {p : Nat × Nat} {w : World} (hs : s.size ≤ 140737488355328) (h : WhereR s p g w) :
    Calls Try.prog 30 #[.pointer (some ⟨g, 0, none⟩)] w (TookR g s (numV (numS s p)) (numS s p).2 w) :=
  (rfNumber g s hs p.1 p.2 h.le w h.rd).mono fun _ _ ⟨a, b, c⟩ => ⟨a, ⟨numS_to s p h.le, b⟩, c⟩
theorem rgSigned {g : Nat} {s : ByteArray} {p : Nat × Nat} {w : World} (hs : s.size ≤ 140737488355328) (h : WhereR s p g w) :
    Calls Try.prog 32 #[.pointer (some ⟨g, 0, none⟩)] w (TookR g s (sgnV (sgnS s p)) (sgnS s p).2 w) :=
  (rfSigned g s hs p.1 p.2 h.le w h.rd).mono fun _ _ ⟨a, b, c⟩ => ⟨a, ⟨sgnS_to s p h.le, b⟩, c⟩
theorem rgText {g : Nat} {s : ByteArray} {p : Nat × Nat} {w : World} (hs : s.size ≤ 140737488355328) (h : WhereR s p g w) :
    Calls Try.prog 31 #[.pointer (some ⟨g, 0, none⟩)] w (TookR g s (txtV (txtS s p)) (txtS s p).2 w) :=
  (rfTextR g s hs p.1 p.2 h.le w h.rd).mono fun _ _ ⟨a, b, c⟩ => ⟨a, ⟨txtS_to s p h.le, b⟩, c⟩
theorem WhereR.below {s : ByteArray} {p : Nat × Nat} {g : Nat} {w w' : World} (h : WhereR s p g w) (hb : Below w.heap.size w w') : WhereR s p g w' := ⟨h.le, h.rd.below hb⟩
theorem WhereR.set {s : ByteArray} {p : Nat × Nat} {g b : Nat} {w : World} (h : WhereR s p g w) (hb : b ≠ g) (o : Nat) (v : Value) : WhereR s p g (w.setCell ⟨b, o, none⟩ v) :=
  ⟨h.le, (Below.heap_setCell w ⟨b, o, none⟩ v g (Ne.symm hb)).trans h.rd⟩
theorem WhereR.al {s : ByteArray} {p : Nat × Nat} {g : Nat} {w : World} {o : Obj} (h : WhereR s p g w) : WhereR s p g (w.alloc o) := h.below (below_al (Below.refl _ _))
theorem get_retR {w wF : World} {R : Nat} {a : It} {c : Int} {act : Act} (ht : act.tmps.getD 2 undef = .pointer (some ⟨R, 0, none⟩)) (hc : act.tmps.getD 3 undef = .int .i64 c) (hd : act.defers = []) (hL : Lies R (itC a) 29 wF) (hB : Below w.heap.size w wF) :
    bodyPost Try.prog Try.f17 (GotI a c w) .ret act wF := by
  have c0 := hL.cell (j := 0) rfl
  have c1 := hL.cell (j := 1) rfl
  have c2 := hL.cell (j := 2) rfl
  have c3 := hL.cell (j := 3) rfl
  have c4 := hL.cell (j := 4) rfl
  have c5 := hL.cell (j := 5) rfl
  have c6 := hL.cell (j := 6) rfl
  have c7 := hL.cell (j := 7) rfl
  have c8 := hL.cell (j := 8) rfl
  have c9 := hL.cell (j := 9) rfl
  have c10 := hL.cell (j := 10) rfl
  refine bodyPost_ret (v := .tuple #[itV a, .int .i64 c]) ?_ hd ⟨rfl, hB⟩
  have ht2 : act.tmps[2]?.getD undef = .pointer (some ⟨R, 0, none⟩) := by simpa using ht
  have hc2 : act.tmps[3]?.getD undef = .int .i64 c := by simpa using hc
  simp [results, Try.results17, go_sem, ht2, hc2, c0, c1, c2, c3, c4, c5, c6, c7, c8, c9, c10]
def Mid (s : ByteArray) (a : It) (i c : Nat) (w : World) (I : Nat) (wc : World) : Prop :=
  Lies I (itC a) 29 wc ∧ WhereR s (i, c) (w.heap.size + 1) wc ∧ Lies w.heap.size (itC (bare 0)) 29 wc ∧ Below w.heap.size w wc
theorem Mid.below {s : ByteArray} {a : It} {i c : Nat} {w : World} {I : Nat} {u v : World} (h : Mid s a i c w I u) (hb : Below u.heap.size u v) (hs : w.heap.size ≤ u.heap.size) : Mid s a i c w I v :=
  ⟨(hb.block _ (lt_of_block h.1)).trans h.1, h.2.1.below hb, (hb.block _ (lt_of_block h.2.2.1)).trans h.2.2.1, h.2.2.2.trans (hb.mono hs)⟩
theorem Mid.bad {s : ByteArray} {a : It} {i c : Nat} {w : World} {I : Nat} {u : World} (h : Mid s a i c w I u) (hI : I ≠ w.heap.size + 1) (x : Nat) : Mid s a i x w I (u.setCell ⟨w.heap.size + 1, 2, none⟩ (.int .i64 (x : Int))) :=
  ⟨h.1.other hI 2 _, ⟨h.2.1.le, h.2.1.rd.set2 x⟩, h.2.2.1.other (by omega) 2 _, h.2.2.2.setCell (by simp) _⟩
end Go.Proofs.Ythgafhinlchghaa
