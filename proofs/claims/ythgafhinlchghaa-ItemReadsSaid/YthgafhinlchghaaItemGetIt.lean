/- Contracts of what reads a whole item, of package item. -/
import Derived.Test.YthgafhinlchghaaItemRead
namespace Go.Proofs.Ythgafhinlchghaa
open Go.RowKit
open Itm Vlq
set_option linter.unusedVariables false
abbrev RT : TypeId := 50
/-- Reading on: a place within the bytes, an error. -/
structure Where (s : ByteArray) (p : Nat × Nat) (g : Nat) (w : World) : Prop where
  le : p.1 ≤ s.size
  rd : RdAt 50 g s p.1 p.2 w
def TookP (g : Nat) (s : ByteArray) (v : Value) (p : Nat × Nat) (w : World) (e : Ending) (w' : World) : Prop := e = .returned v ∧ Where s p g w' ∧ But g w w'
theorem goNumber {g : Nat} {s : ByteArray} {p : Nat × Nat} {w : World} (hs : s.size ≤ 9223372036854775807) (h : Where s p g w) :
    Calls Try.prog 38 #[.pointer (some ⟨g, 0, none⟩)] w (TookP g s (numV (numS s p)) (numS s p).2 w) :=
  (itNumber g s hs p.1 p.2 h.le w h.rd).mono fun _ _ ⟨a, b, c⟩ => ⟨a, ⟨numS_to s p h.le, b⟩, c⟩
theorem goSigned {g : Nat} {s : ByteArray} {p : Nat × Nat} {w : World} (hs : s.size ≤ 9223372036854775807) (h : Where s p g w) :
    Calls Try.prog 41 #[.pointer (some ⟨g, 0, none⟩)] w (TookP g s (sgnV (sgnS s p)) (sgnS s p).2 w) :=
  (itSigned g s hs p.1 p.2 h.le w h.rd).mono fun _ _ ⟨a, b, c⟩ => ⟨a, ⟨sgnS_to s p h.le, b⟩, c⟩
theorem goText {g : Nat} {s : ByteArray} {p : Nat × Nat} {w : World} (hs : s.size ≤ 9223372036854775807) (h : Where s p g w) :
    Calls Try.prog 40 #[.pointer (some ⟨g, 0, none⟩)] w (TookP g s (txtV (txtS s p)) (txtS s p).2 w) :=
  (itTextR g s hs p.1 p.2 h.le w h.rd).mono fun _ _ ⟨a, b, c⟩ => ⟨a, ⟨txtS_to s p h.le, b⟩, c⟩
theorem Where.below {s : ByteArray} {p : Nat × Nat} {g : Nat} {w w' : World} (h : Where s p g w) (hb : Below w.heap.size w w') : Where s p g w' := ⟨h.le, h.rd.below hb⟩
/-- A block beside the reader's. -/
def Lies (b : Nat) (C : Array Value) (T : TypeId) (w : World) : Prop := w.heap[b]? = some (.cells C T (0, 0))
theorem Lies.but {b : Nat} {C : Array Value} {T : TypeId} {g : Nat} {w w' : World} (h : Lies b C T w) (hg : b ≠ g) (hb : But g w w') : Lies b C T w' := (hb.block b (lt_of_block h) hg).trans h
theorem Lies.new (w : World) (C : Array Value) (T : TypeId) : Lies w.heap.size C T (w.alloc (.cells C T)) := heap_alloc_new w _
theorem Lies.cell {b : Nat} {C : Array Value} {T : TypeId} {w : World} (h : Lies b C T w) {j : Nat} {v : Value} (hv : C[j]? = some v) : w.cell? ⟨b, j, none⟩ = some v := by
  unfold Lies at h
  simp only [World.cell?, h]
  exact hv
theorem Lies.free {b : Nat} {C : Array Value} {T : TypeId} {w : World} (h : Lies b C T w) (j : Nat) : w.frozen? ⟨b, j, none⟩ = false := by
  unfold Lies at h
  simp [World.frozen?, h]
theorem Lies.set {b : Nat} {C : Array Value} {T : TypeId} {w : World} (h : Lies b C T w) (o : Nat) (v : Value) : Lies b (C.setIfInBounds o v) T (w.setCell ⟨b, o, none⟩ v) := by
  unfold Lies at h ⊢
  exact heap_setCell_same w b o _ T v h
theorem Where.set {s : ByteArray} {p : Nat × Nat} {g b : Nat} {w : World} (h : Where s p g w) (hb : b ≠ g) (o : Nat) (v : Value) : Where s p g (w.setCell ⟨b, o, none⟩ v) :=
  ⟨h.le, (Below.heap_setCell w ⟨b, o, none⟩ v g (Ne.symm hb)).trans h.rd⟩
theorem But.setNew {g b : Nat} {u w : World} (h : But g u w) (hb : u.heap.size ≤ b) (o : Nat) (v : Value) : But g u (w.setCell ⟨b, o, none⟩ v) :=
  ⟨h.os, h.tape, h.output, by simpa using h.size, fun k hk hg => (Below.heap_setCell w ⟨b, o, none⟩ v k (by simp only; omega)).trans (h.block k hk hg)⟩
theorem itGetEvent {g : Nat} {s : ByteArray} {p : Nat × Nat} {w : World} (hs : s.size ≤ 9223372036854775807) (h : Where s p g w) (A B C : Nat × Nat) (t : List UInt8) (a v : Nat)
    (hA : txtS s p = (t, A)) (hB : numS s A = (a, B)) (hC : sgnS s B = (v, C)) :
    Calls Try.prog 39 #[.func (.func 40) #[.pointer (some ⟨g, 0, none⟩)] #[], .func (.func 38) #[.pointer (some ⟨g, 0, none⟩)] #[], .func (.func 41) #[.pointer (some ⟨g, 0, none⟩)] #[]] w
      (TookP g s (evV ⟨t.toArray⟩ a (un v)) C w) := by
  have hne : w.heap.size ≠ g := by have := h.rd.lt; omega
  have W1 := Lib.hid (h.below (below_al (o := .cells (evC no 0 0) 23) (Below.refl _ _)))
  have L1 := Lib.hid (Lies.new w (evC no 0 0) 23)
  have B1 := Lib.hid (But.of_below (g := g) (below_al (o := .cells (evC no 0 0) 23) (Below.refl w.heap.size w)))
  have HA := Lib.hid hA; have HB := Lib.hid hB; have HC := Lib.hid hC
  clear h hA hB hC
  go_enter Try.func39, Try.ntmps39
  go_wp2_with fail
  refine (goText hs W1.out).mono ?_
  rw [HA.out]
  rintro e w2 ⟨rfl, W2, B2⟩
  have L2 := Lib.hid (L1.out.but hne B2)
  go_wp2_with fail
  refine (goNumber hs W2).mono ?_
  rw [HB.out]
  rintro e w3 ⟨rfl, W3, B3⟩
  have L3 := Lib.hid (L2.out.but hne B3)
  go_wp2_with fail
  refine (goSigned hs W3).mono ?_
  rw [HC.out]
  rintro e w4 ⟨rfl, W4, B4⟩
  have L4 := Lib.hid (L3.out.but hne B4)
  have c0 := L4.out.cell (j := 0) rfl; have c1 := L4.out.cell (j := 1) rfl; have c2 := L4.out.cell (j := 2) rfl
  have f0 := L4.out.free 0; have f1 := L4.out.free 1; have f2 := L4.out.free 2
  go_wp2_with fail
  have B5 := (((B1.out.trans B2).trans B3).trans B4)
  refine bodyPost_ret (v := evV ⟨t.toArray⟩ a (un v)) (by simp [results, Try.results39, go_sem, c0, c1, c2]) rfl ⟨rfl, ((W4.set hne 0 _).set hne 1 _).set hne 2 _, ((B5.setNew (Nat.le_refl _) 0 _).setNew (Nat.le_refl _) 1 _).setNew (Nat.le_refl _) 2 _⟩
theorem itGetResult {g : Nat} {s : ByteArray} {p : Nat × Nat} {w : World} (hs : s.size ≤ 9223372036854775807) (h : Where s p g w) (A B C D E : Nat × Nat) (t : List UInt8) (lo hi n v : Nat)
    (hA : txtS s p = (t, A)) (hB : numS s A = (lo, B)) (hC : numS s B = (hi, C)) (hD : numS s C = (n, D)) (hE : sgnS s D = (v, E)) :
    Calls Try.prog 42 #[.func (.func 40) #[.pointer (some ⟨g, 0, none⟩)] #[], .func (.func 38) #[.pointer (some ⟨g, 0, none⟩)] #[], .func (.func 41) #[.pointer (some ⟨g, 0, none⟩)] #[]] w
      (TookP g s (resV lo hi ⟨t.toArray⟩ n (un v)) E w) := by
  have hne : w.heap.size ≠ g := by have := h.rd.lt; omega
  have W1 := Lib.hid (h.below (below_al (o := .cells (resC 0 0 no 0 0) 27) (Below.refl _ _)))
  have L1 := Lib.hid (Lies.new w (resC 0 0 no 0 0) 27)
  have B1 := Lib.hid (But.of_below (g := g) (below_al (o := .cells (resC 0 0 no 0 0) 27) (Below.refl w.heap.size w)))
  have HA := Lib.hid hA; have HB := Lib.hid hB; have HC := Lib.hid hC; have HD := Lib.hid hD; have HE := Lib.hid hE
  clear h hA hB hC hD hE
  go_enter Try.func42, Try.ntmps42
  go_wp2_with fail
  refine (goText hs W1.out).mono ?_
  rw [HA.out]
  rintro e w2 ⟨rfl, W2, B2⟩
  have L2 := Lib.hid (L1.out.but hne B2)
  go_wp2_with fail
  refine (goNumber hs W2).mono ?_
  rw [HB.out]
  rintro e w3 ⟨rfl, W3, B3⟩
  have L3 := Lib.hid (L2.out.but hne B3)
  go_wp2_with fail
  refine (goNumber hs W3).mono ?_
  rw [HC.out]
  rintro e w4 ⟨rfl, W4, B4⟩
  have L4 := Lib.hid (L3.out.but hne B4)
  go_wp2_with fail
  refine (goNumber hs W4).mono ?_
  rw [HD.out]
  rintro e w5 ⟨rfl, W5, B5⟩
  have L5 := Lib.hid (L4.out.but hne B5)
  go_wp2_with fail
  refine (goSigned hs W5).mono ?_
  rw [HE.out]
  rintro e w6 ⟨rfl, W6, B6⟩
  have L6 := Lib.hid (L5.out.but hne B6)
  have c0 := L6.out.cell (j := 0) rfl; have c1 := L6.out.cell (j := 1) rfl; have c2 := L6.out.cell (j := 2) rfl; have c3 := L6.out.cell (j := 3) rfl; have c4 := L6.out.cell (j := 4) rfl
  have f0 := L6.out.free 0; have f1 := L6.out.free 1; have f2 := L6.out.free 2; have f3 := L6.out.free 3; have f4 := L6.out.free 4
  go_wp2_with fail
  have B7 := (((((B1.out.trans B2).trans B3).trans B4).trans B5).trans B6)
  refine bodyPost_ret (v := resV lo hi ⟨t.toArray⟩ n (un v)) (by simp [results, Try.results42, go_sem, c0, c1, c2, c3, c4]) rfl ⟨rfl, ((((W6.set hne 0 _).set hne 1 _).set hne 2 _).set hne 3 _).set hne 4 _, ((((B7.setNew (Nat.le_refl _) 0 _).setNew (Nat.le_refl _) 1 _).setNew (Nat.le_refl _) 2 _).setNew (Nat.le_refl _) 3 _).setNew (Nat.le_refl _) 4 _⟩
end Go.Proofs.Ythgafhinlchghaa
