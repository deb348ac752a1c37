/- Sorting by exchanges: rows as functions of a place; the memory of a row of 32-bit numbers. -/
import Derived.Test.YtgpcbiballdioaaDoorMem
namespace Go.Proofs.YtgpcbiballdioaaDoor
open Go.RowKit
set_option linter.unusedVariables false
namespace Srt
abbrev Fn := Nat → Int
def sw (d : Fn) (i j : Nat) : Fn := fun k => if k = j then d i else if k = i then d j else d k
theorem sw_j (d : Fn) (i j : Nat) : sw d i j j = d i := by simp [sw]
theorem sw_i (d : Fn) (i j : Nat) : sw d i j i = d j := by unfold sw; split <;> simp_all
theorem sw_o (d : Fn) {i j k : Nat} (h1 : k ≠ i) (h2 : k ≠ j) : sw d i j k = d k := by simp [sw, h1, h2]
/-- What comes of a row by exchanges within [a, c). -/
inductive Sw (a c : Nat) : Fn → Fn → Prop
  | refl (d) : Sw a c d d
  | step {d e} (i j : Nat) : a ≤ i → i < c → a ≤ j → j < c → Sw a c d e → Sw a c d (sw e i j)
namespace Sw
variable {a c : Nat} {d e f : Fn}
theorem one (d : Fn) {i j : Nat} (h1 : a ≤ i) (h2 : i < c) (h3 : a ≤ j) (h4 : j < c) : Sw a c d (sw d i j) := .step i j h1 h2 h3 h4 (.refl d)
theorem trans (h : Sw a c d e) (k : Sw a c e f) : Sw a c d f := by
  induction k with
  | refl => exact h
  | step i j h1 h2 h3 h4 _ ih => exact .step i j h1 h2 h3 h4 ih
theorem mono {a' c' : Nat} (h : Sw a c d e) (ha : a' ≤ a) (hc : c ≤ c') : Sw a' c' d e := by
  induction h with
  | refl => exact .refl _
  | step i j h1 h2 h3 h4 _ ih => exact .step i j (by omega) (by omega) (by omega) (by omega) ih
theorem out (h : Sw a c d e) {k : Nat} (hk : k < a ∨ c ≤ k) : e k = d k := by
  induction h with
  | refl => rfl
  | step i j h1 h2 h3 h4 _ ih => rw [sw_o _ (by omega) (by omega), ih]
theorem all (h : Sw a c d e) {P : Int → Prop} (hp : ∀ k, a ≤ k → k < c → P (d k)) : ∀ k, a ≤ k → k < c → P (e k) := by
  induction h with
  | refl => exact hp
  | step i j h1 h2 h3 h4 _ ih =>
    intro k k1 k2
    unfold sw
    split
    · exact ih i h1 h2
    · split
      · exact ih j h3 h4
      · exact ih k k1 k2
end Sw
theorem turn_set {l : List Int} {j k : Nat} {u v : Int} (hu : l[j]? = some u) (hv : l[k]? = some v) : ((l.set j v).set k u).Perm l := by
  obtain ⟨hj, rfl⟩ := List.getElem?_eq_some_iff.1 hu
  obtain ⟨hk, rfl⟩ := List.getElem?_eq_some_iff.1 hv
  exact List.set_set_perm hj hk
theorem Sw.perm {a c n : Nat} {d e : Fn} (h : Sw a c d e) (hc : c ≤ n) : ((List.range n).map e).Perm ((List.range n).map d) := by
  induction h with
  | refl => exact .refl _
  | step i j h1 h2 h3 h4 _ ih =>
    rename_i e _
    refine List.Perm.trans ?_ ih
    have hi : ((List.range n).map e)[i]? = some (e i) := by rw [List.getElem?_map, List.getElem?_range (by omega)]; rfl
    have hj : ((List.range n).map e)[j]? = some (e j) := by rw [List.getElem?_map, List.getElem?_range (by omega)]; rfl
    have := turn_set hi hj
    refine List.Perm.trans (.of_eq ?_) this
    refine List.ext_getElem? fun k => ?_
    simp only [List.getElem?_set, List.getElem?_map, List.length_set, List.length_map, List.length_range]
    by_cases hk : k < n
    · rw [List.getElem?_range hk]
      unfold sw
      by_cases e1 : k = j
      · subst e1; simp [hk]
      · by_cases e2 : k = i
        · subst e2; simp [hk, e1, Ne.symm e1]
        · simp [e1, e2, Ne.symm e1, Ne.symm e2]
    · rw [List.getElem?_eq_none (by simp; omega)]
      have k1 : j ≠ k := by omega
      have k2 : i ≠ k := by omega
      simp [k1, k2]
def Sorted (a c : Nat) (d : Fn) : Prop := ∀ i j, a ≤ i → i ≤ j → j < c → d i ≤ d j
/-- All in place up to i but what is at j, which is not above what stands behind it. -/
structure Hole (a i j : Nat) (e : Fn) : Prop where
  rest : ∀ p q, a ≤ p → p ≤ q → q ≤ i → p ≠ j → q ≠ j → e p ≤ e q
  hole : ∀ q, j < q → q ≤ i → e j ≤ e q
theorem Hole.start {a i : Nat} {e : Fn} (h : Sorted a i e) : Hole a i i e := ⟨fun p q h1 h2 h3 h4 h5 => h p q h1 h2 (by omega), fun q h1 h2 => by omega⟩
theorem Hole.next {a i k : Nat} {e : Fn} (h : Hole a i (k + 1) e) (hk : a ≤ k) (hi : k + 1 ≤ i) (hlt : e (k + 1) < e k) : Hole a i k (sw e (k + 1) k) := by
  refine ⟨fun p q h1 h2 h3 h4 h5 => ?_, fun q h1 h2 => ?_⟩
  · by_cases p1 : p = k + 1
    · subst p1
      rw [sw_i]
      by_cases q1 : q = k + 1
      · subst q1; rw [sw_i]; exact Int.le_refl _
      · rw [sw_o _ q1 h5]; exact h.rest k q hk (by omega) h3 (by omega) q1
    · rw [sw_o _ p1 h4]
      by_cases q1 : q = k + 1
      · subst q1; rw [sw_i]; exact h.rest p k h1 (by omega) (by omega) p1 (by omega)
      · rw [sw_o _ q1 h5]; exact h.rest p q h1 h2 h3 p1 q1
  · rw [sw_j]
    by_cases q1 : q = k + 1
    · subst q1; rw [sw_i]; omega
    · rw [sw_o _ q1 (by omega)]; exact h.hole q (by omega) h2
theorem Hole.done {a i j : Nat} {e : Fn} (h : Hole a i j e) (hj : j = a ∨ ∃ k, j = k + 1 ∧ ¬ e (k + 1) < e k) (ha : a ≤ j) : Sorted a (i + 1) e := by
  intro p q h1 h2 h3
  by_cases p1 : p = j
  · subst p1
    by_cases q1 : q = p
    · subst q1; exact Int.le_refl _
    · exact h.hole q (by omega) (by omega)
  · by_cases q1 : q = j
    · subst q1
      rcases hj with rfl | ⟨k, rfl, hk⟩
      · omega
      · have h4 : e p ≤ e k := h.rest p k h1 (by omega) (by omega) p1 (by omega)
        omega
    · exact h.rest p q h1 h2 (by omega) p1 q1
/-- The row in the block b from off on: n numbers. -/
structure At (b off n : Nat) (d : Fn) (w : World) : Prop where
  cell : ∀ t, t < n → w.cell? ⟨b, off + t, none⟩ = some (.int .u32 (d t))
  free : ∀ t, t < n → w.frozen? ⟨b, off + t, none⟩ = false
/-- Nothing has turned but b, and new memory. -/
structure Only (b : Nat) (W W' : World) : Prop where
  os : W'.os = W.os
  tape : W'.tape = W.tape
  output : W'.output = W.output
  size : W.heap.size ≤ W'.heap.size
  block : ∀ k, k < W.heap.size → k ≠ b → W'.heap[k]? = W.heap[k]?
namespace Only
variable {b : Nat} {X Y Z : World}
theorem refl (b : Nat) (W : World) : Only b W W := ⟨rfl, rfl, rfl, Nat.le_refl _, fun _ _ _ => rfl⟩
theorem trans (h : Only b X Y) (k : Only b Y Z) : Only b X Z :=
  ⟨k.os.trans h.os, k.tape.trans h.tape, k.output.trans h.output, Nat.le_trans h.size k.size, fun i hi hn => (k.block i (Nat.lt_of_lt_of_le hi h.size) hn).trans (h.block i hi hn)⟩
theorem of_below (h : Below X.heap.size X Y) : Only b X Y := ⟨h.os, h.tape, h.output, h.size, fun k hk _ => h.block k hk⟩
theorem drew (h : Only b X Y) : Only b X Y.drew := ⟨h.os, h.tape, h.output, h.size, h.block⟩
theorem drewN (h : Only b X Y) (n : Nat) : Only b X (Y.drewN n) := ⟨h.os, h.tape, h.output, h.size, h.block⟩
theorem set (h : Only b X Y) (o : Nat) (v : Value) : Only b X (Y.setCell ⟨b, o, none⟩ v) :=
  h.trans ⟨rfl, rfl, rfl, by show Y.heap.size ≤ (Y.heap.modify _ _).size; rw [Array.size_modify]; exact Nat.le_refl _, fun k _ hn => Below.heap_setCell Y ⟨b, o, none⟩ v k hn⟩
theorem below {B : Nat} {U : World} (hU : Below B U X) (h : Only b X Y) (hb : B ≤ b) (hB : B ≤ X.heap.size) : Below B U Y :=
  hU.trans ⟨h.os, h.tape, h.output, h.size, fun k hk => h.block k (by omega) (by omega)⟩
end Only
namespace At
variable {b off n : Nat} {d : Fn} {w w' : World}
theorem drewN (h : At b off n d w) (m : Nat) : At b off n d (w.drewN m) := ⟨h.cell, h.free⟩
theorem drew (h : At b off n d w) : At b off n d w.drew := ⟨h.cell, h.free⟩
theorem below (h : At b off n d w) (hb : Below w.heap.size w w') : At b off n d w' :=
  ⟨fun t ht => (hb.cell (p := ⟨b, off + t, none⟩) (lt_of_cell (h.cell t ht))).trans (h.cell t ht), fun t ht => by
    have h1 := hb.frozen (p := ⟨b, off + t, none⟩) (lt_of_cell (h.cell t ht))
    rw [h1]; exact h.free t ht⟩
theorem set (h : At b off n d w) {i : Nat} (hi : i < n) (x : Int) : At b off n (fun k => if k = i then x else d k) (w.setCell ⟨b, off + i, none⟩ (.int .u32 x)) := by
  refine ⟨fun t ht => ?_, fun t ht => ?_⟩
  · by_cases e : t = i
    · subst e
      rw [if_pos rfl]
      exact World.cell?_setCell_same (h := h.cell t ht) ..
    · rw [if_neg e, World.cell?_setCell_other (h := by intro h0; injection h0 with _ h1; omega)]
      exact h.cell t ht
  · rw [World.frozen?_setCell]; exact h.free t ht
end At
end Srt
end Go.Proofs.YtgpcbiballdioaaDoor
