/- Contracts of the reader: a field is read, the first error is kept. -/
import Derived.Test.YthgafhinlchghaaItemPut
import Derived.Test.YthgafhinlchghaaVlqGetText
import Derived.Deep.RegionWith
namespace Go.Proofs.Ythgafhinlchghaa
open Go.RowKit
open Itm Vlq
set_option linter.unusedVariables false
/-- Block g holds a reader of s, at a place, with an error. -/
def RdAt (T : TypeId) (g : Nat) (s : ByteArray) (i c : Int) (w : World) : Prop := w.heap[g]? = some (.cells #[.string s, .int .i64 i, .int .i64 c] T (0, 0))
/-- All old blocks but one stay. -/
structure But (g : Nat) (w w' : World) : Prop where
  os : w'.os = w.os
  tape : w'.tape = w.tape
  output : w'.output = w.output
  size : w.heap.size ≤ w'.heap.size
  block : ∀ k, k < w.heap.size → k ≠ g → w'.heap[k]? = w.heap[k]?
namespace But
theorem refl (g : Nat) (w : World) : But g w w := ⟨rfl, rfl, rfl, Nat.le_refl _, fun _ _ _ => rfl⟩
theorem trans {g : Nat} {a b c : World} (h : But g a b) (k : But g b c) : But g a c :=
  ⟨k.os.trans h.os, k.tape.trans h.tape, k.output.trans h.output, Nat.le_trans h.size k.size, fun i hi hg => (k.block i (Nat.lt_of_lt_of_le hi h.size) hg).trans (h.block i hi hg)⟩
theorem of_below {g : Nat} {a b : World} (h : Below a.heap.size a b) : But g a b := ⟨h.os, h.tape, h.output, h.size, fun k hk _ => h.block k hk⟩
theorem drew {g : Nat} {a b : World} (h : But g a b) : But g a b.drew := ⟨h.os, h.tape, h.output, h.size, h.block⟩
theorem drew_left {g : Nat} {a b : World} (h : But g a.drew b) : But g a b := ⟨h.os, h.tape, h.output, h.size, h.block⟩
theorem setCell {g : Nat} {a b : World} (h : But g a b) (o : Nat) (u : Value) : But g a (b.setCell ⟨g, o, none⟩ u) :=
  ⟨h.os, h.tape, h.output, by simpa using h.size, fun k hk hg => (Below.heap_setCell b ⟨g, o, none⟩ u k hg).trans (h.block k hk hg)⟩
theorem below {g B : Nat} {W a b : World} (h : But g a b) (h0 : Below B W a) (hB : B ≤ g) (hs : B ≤ a.heap.size) : Below B W b :=
  ⟨h.os.trans h0.os, h.tape.trans h0.tape, h.output.trans h0.output, Nat.le_trans h0.size h.size, fun k hk => (h.block k (by omega) (by omega)).trans (h0.block k hk)⟩
end But
namespace RdAt
variable {T : TypeId} {g : Nat} {s : ByteArray} {i c : Int} {w w' : World}
theorem lt (h : RdAt T g s i c w) : g < w.heap.size := lt_of_block h
theorem c0 (h : RdAt T g s i c w) : w.cell? ⟨g, 0, none⟩ = some (.string s) := by unfold RdAt at h; simp [World.cell?, h]
theorem c1 (h : RdAt T g s i c w) : w.cell? ⟨g, 1, none⟩ = some (.int .i64 i) := by unfold RdAt at h; simp [World.cell?, h]
theorem c2 (h : RdAt T g s i c w) : w.cell? ⟨g, 2, none⟩ = some (.int .i64 c) := by unfold RdAt at h; simp [World.cell?, h]
theorem free (h : RdAt T g s i c w) (o : Nat) : w.frozen? ⟨g, o, none⟩ = false := by
  unfold RdAt at h; simp [World.frozen?, h]
theorem set1 (h : RdAt T g s i c w) (x : Int) : RdAt T g s x c (w.setCell ⟨g, 1, none⟩ (.int .i64 x)) := by
  unfold RdAt at h ⊢
  rw [heap_setCell_same w g 1 _ T _ h]; rfl
theorem set2 (h : RdAt T g s i c w) (x : Int) : RdAt T g s i x (w.setCell ⟨g, 2, none⟩ (.int .i64 x)) := by
  unfold RdAt at h ⊢
  rw [heap_setCell_same w g 2 _ T _ h]; rfl
theorem below (h : RdAt T g s i c w) (hb : Below w.heap.size w w') : RdAt T g s i c w' := (hb.block g h.lt).trans h
end RdAt
/-- A value was read by way of the reader in block g. -/
def Took (T : TypeId) (g : Nat) (s : ByteArray) (v : Value) (i c : Int) (w : World) (e : Ending) (w' : World) : Prop := e = .returned v ∧ RdAt T g s i c w' ∧ But g w w'
theorem after_two {T : TypeId} {g : Nat} {s : ByteArray} {i c x y : Int} {w w5 : World} (h : RdAt T g s i c w) (hb : Below w.heap.size w.drew w5) :
    RdAt T g s x y ((w5.setCell ⟨g, 1, none⟩ (.int .i64 x)).setCell ⟨g, 2, none⟩ (.int .i64 y)) ∧ But g w ((w5.setCell ⟨g, 1, none⟩ (.int .i64 x)).setCell ⟨g, 2, none⟩ (.int .i64 y)) := by
  have hb' : Below w.heap.size w w5 := ⟨hb.os, hb.tape, hb.output, hb.size, hb.block⟩
  exact ⟨((h.below hb').set1 x).set2 y, ((But.of_below hb').setCell 1 _).setCell 2 _⟩
theorem itField_number (g : Nat) (s : ByteArray) (i : Int) (v : Value) (x y : Int) (hG : ∀ w, Calls Try.prog 51 #[.string s, .int .i64 i] w fun e w' => e = .returned (.tuple #[v, .int .i64 x, .int .i64 y]) ∧ Below w.heap.size w w')
    (w : World) (h : RdAt 50 g s i 0 w) :
    Calls Try.prog 50 #[.pointer (some ⟨g, 0, none⟩), .func (.func 51) #[] #[]] w (Took 50 g s v x y w) := by
  have HG := Lib.hid hG
  have H := Lib.hid h
  have c0 := h.c0; have c1 := h.c1; have c2 := h.c2
  clear hG h
  go_enter Try.func50, Try.ntmps50
  go_wp2_with fail
  go_region_with (go_at_call 51; refine (HG.out _).mono ?_; rintro e w5 ⟨rfl, hb5⟩; have H5 := Lib.hid (RdAt.below (w := w) H.out ⟨hb5.os, hb5.tape, hb5.output, hb5.size, hb5.block⟩); have d1 := H5.out.c1; have d2 := H5.out.c2; have f1 := H5.out.free 1; have f2 := H5.out.free 2)
  all_goals (
    go_wp2_with fail
    go_ret
    exact ⟨rfl, after_two H.out hb5⟩)
theorem itFieldE_number (g : Nat) (s : ByteArray) (i c : Int) (hc : c ≠ 0) (w : World) (h : RdAt 50 g s i c w) :
    Calls Try.prog 50 #[.pointer (some ⟨g, 0, none⟩), .func (.func 51) #[] #[]] w (Took 50 g s (.int .i64 0) i c w) := by
  have H := Lib.hid h
  have c2 := h.c2
  have e0 := ne_b hc
  clear h hc
  go_enter Try.func50, Try.ntmps50
  go_wp2_with fail
  go_ret
  exact ⟨rfl, H.out, But.refl _ _⟩
theorem itMeth_number (g : Nat) (s : ByteArray) (v : Value) (x y : Int) (w : World) (hF : Calls Try.prog 50 #[.pointer (some ⟨g, 0, none⟩), .func (.func 51) #[] #[]] w (Took 50 g s v x y w)) :
    Calls Try.prog 38 #[.pointer (some ⟨g, 0, none⟩)] w (Took 50 g s v x y w) := by
  have HF := Lib.hid hF
  clear hF
  go_enter Try.func38, Try.ntmps38
  go_wp2_with fail
  refine HF.out.mono ?_
  rintro e w2 ⟨rfl, h2, h3⟩
  go_wp2_with fail
  go_ret
  exact ⟨rfl, h2, h3⟩
theorem itField_signed (g : Nat) (s : ByteArray) (i : Int) (v : Value) (x y : Int) (hG : ∀ w, Calls Try.prog 54 #[.string s, .int .i64 i] w fun e w' => e = .returned (.tuple #[v, .int .i64 x, .int .i64 y]) ∧ Below w.heap.size w w')
    (w : World) (h : RdAt 50 g s i 0 w) :
    Calls Try.prog 50 #[.pointer (some ⟨g, 0, none⟩), .func (.func 54) #[] #[]] w (Took 50 g s v x y w) := by
  have HG := Lib.hid hG
  have H := Lib.hid h
  have c0 := h.c0; have c1 := h.c1; have c2 := h.c2
  clear hG h
  go_enter Try.func50, Try.ntmps50
  go_wp2_with fail
  go_region_with (go_at_call 54; refine (HG.out _).mono ?_; rintro e w5 ⟨rfl, hb5⟩; have H5 := Lib.hid (RdAt.below (w := w) H.out ⟨hb5.os, hb5.tape, hb5.output, hb5.size, hb5.block⟩); have d1 := H5.out.c1; have d2 := H5.out.c2; have f1 := H5.out.free 1; have f2 := H5.out.free 2)
  all_goals (
    go_wp2_with fail
    go_ret
    exact ⟨rfl, after_two H.out hb5⟩)
theorem itFieldE_signed (g : Nat) (s : ByteArray) (i c : Int) (hc : c ≠ 0) (w : World) (h : RdAt 50 g s i c w) :
    Calls Try.prog 50 #[.pointer (some ⟨g, 0, none⟩), .func (.func 54) #[] #[]] w (Took 50 g s (.int .i64 0) i c w) := by
  have H := Lib.hid h
  have c2 := h.c2
  have e0 := ne_b hc
  clear h hc
  go_enter Try.func50, Try.ntmps50
  go_wp2_with fail
  go_ret
  exact ⟨rfl, H.out, But.refl _ _⟩
theorem itMeth_signed (g : Nat) (s : ByteArray) (v : Value) (x y : Int) (w : World) (hF : Calls Try.prog 50 #[.pointer (some ⟨g, 0, none⟩), .func (.func 54) #[] #[]] w (Took 50 g s v x y w)) :
    Calls Try.prog 41 #[.pointer (some ⟨g, 0, none⟩)] w (Took 50 g s v x y w) := by
  have HF := Lib.hid hF
  clear hF
  go_enter Try.func41, Try.ntmps41
  go_wp2_with fail
  refine HF.out.mono ?_
  rintro e w2 ⟨rfl, h2, h3⟩
  go_wp2_with fail
  go_ret
  exact ⟨rfl, h2, h3⟩
theorem itField_text (g : Nat) (s : ByteArray) (i : Int) (v : Value) (x y : Int) (hG : ∀ w, Calls Try.prog 53 #[.string s, .int .i64 i] w fun e w' => e = .returned (.tuple #[v, .int .i64 x, .int .i64 y]) ∧ Below w.heap.size w w')
    (w : World) (h : RdAt 50 g s i 0 w) :
    Calls Try.prog 52 #[.pointer (some ⟨g, 0, none⟩), .func (.func 53) #[] #[]] w (Took 50 g s v x y w) := by
  have HG := Lib.hid hG
  have H := Lib.hid h
  have c0 := h.c0; have c1 := h.c1; have c2 := h.c2
  clear hG h
  go_enter Try.func52, Try.ntmps52
  go_wp2_with fail
  go_region_with (go_at_call 53; refine (HG.out _).mono ?_; rintro e w5 ⟨rfl, hb5⟩; have H5 := Lib.hid (RdAt.below (w := w) H.out ⟨hb5.os, hb5.tape, hb5.output, hb5.size, hb5.block⟩); have d1 := H5.out.c1; have d2 := H5.out.c2; have f1 := H5.out.free 1; have f2 := H5.out.free 2)
  all_goals (
    go_wp2_with fail
    go_ret
    exact ⟨rfl, after_two H.out hb5⟩)
theorem itFieldE_text (g : Nat) (s : ByteArray) (i c : Int) (hc : c ≠ 0) (w : World) (h : RdAt 50 g s i c w) :
    Calls Try.prog 52 #[.pointer (some ⟨g, 0, none⟩), .func (.func 53) #[] #[]] w (Took 50 g s (.string ⟨#[]⟩) i c w) := by
  have H := Lib.hid h
  have c2 := h.c2
  have e0 := ne_b hc
  clear h hc
  go_enter Try.func52, Try.ntmps52
  go_wp2_with fail
  go_ret
  exact ⟨rfl, H.out, But.refl _ _⟩
theorem itMeth_text (g : Nat) (s : ByteArray) (v : Value) (x y : Int) (w : World) (hF : Calls Try.prog 52 #[.pointer (some ⟨g, 0, none⟩), .func (.func 53) #[] #[]] w (Took 50 g s v x y w)) :
    Calls Try.prog 40 #[.pointer (some ⟨g, 0, none⟩)] w (Took 50 g s v x y w) := by
  have HF := Lib.hid hF
  clear hF
  go_enter Try.func40, Try.ntmps40
  go_wp2_with fail
  refine HF.out.mono ?_
  rintro e w2 ⟨rfl, h2, h3⟩
  go_wp2_with fail
  go_ret
  exact ⟨rfl, h2, h3⟩
end Go.Proofs.Ythgafhinlchghaa
