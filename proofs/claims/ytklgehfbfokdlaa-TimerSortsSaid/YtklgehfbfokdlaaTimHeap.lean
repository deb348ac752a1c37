/- A Heap in memory, whose block is whose; a queue's Swap; container/heap's up, down. -/
import Derived.Test.YtklgehfbfokdlaaTim
import Derived.RegionTactic
import Derived.BigRegion
namespace Go.Proofs.Ytklgehfbfokdlaa
open Go.RowKit
set_option linter.unusedVariables false
namespace Tim
/-- From W to W' nobody but the owner of M has turned what lay: blocks of M alone, and new ones. -/
structure Mine (M : Nat → Prop) (W W' : World) : Prop where
  os : W'.os = W.os
  tape : W'.tape = W.tape
  output : W'.output = W.output
  size : W.heap.size ≤ W'.heap.size
  block : ∀ k, k < W.heap.size → ¬ M k → W'.heap[k]? = W.heap[k]?
theorem Mine.refl (M : Nat → Prop) (W : World) : Mine M W W := ⟨rfl, rfl, rfl, Nat.le_refl _, fun _ _ _ => rfl⟩
theorem Mine.sub {M M' : Nat → Prop} {W W' : World} (h : Mine M W W') (hs : ∀ k, M k → M' k) : Mine M' W W' := ⟨h.os, h.tape, h.output, h.size, fun k hk hn => h.block k hk fun hm => hn (hs k hm)⟩
theorem Mine.trans {M : Nat → Prop} {X Y Z : World} (h : Mine M X Y) (k : Mine M Y Z) : Mine M X Z :=
  ⟨k.os.trans h.os, k.tape.trans h.tape, k.output.trans h.output, Nat.le_trans h.size k.size, fun i hi hn => (k.block i (Nat.lt_of_lt_of_le hi h.size) hn).trans (h.block i hi hn)⟩
/-- The later owner may own new blocks. -/
theorem Mine.next {M M' : Nat → Prop} {X Y Z : World} (h : Mine M X Y) (hM : ∀ k, M' k → M k ∨ X.heap.size ≤ k) (k : Mine M' Y Z) : Mine M X Z :=
  ⟨k.os.trans h.os, k.tape.trans h.tape, k.output.trans h.output, Nat.le_trans h.size k.size, fun i hi hn =>
    (k.block i (Nat.lt_of_lt_of_le hi h.size) fun hm => (hM i hm).elim hn fun h1 => by omega).trans (h.block i hi hn)⟩
theorem Mine.alloc (M : Nat → Prop) (W : World) (o : Obj) : Mine M W (W.alloc o) := ⟨rfl, rfl, rfl, by simp, fun k hk _ => Below.heap_alloc W o k hk⟩
theorem Mine.drew (M : Nat → Prop) (W : World) : Mine M W W.drew := ⟨rfl, rfl, rfl, Nat.le_refl _, fun _ _ _ => rfl⟩
theorem Mine.set {M : Nat → Prop} (W : World) {a : Addr} (v : Value) (h : M a.block) : Mine M W (W.setCell a v) :=
  ⟨rfl, rfl, rfl, by show W.heap.size ≤ (W.heap.modify _ _).size; rw [Array.size_modify]; exact Nat.le_refl _, fun k _ hn => Below.heap_setCell W a v k fun e => hn (e ▸ h)⟩
theorem Mine.of_below {M : Nat → Prop} {B : Nat} {W W' : World} (h : Below B W W') (hB : W.heap.size ≤ B) : Mine M W W' := ⟨h.os, h.tape, h.output, h.size, fun k hk _ => h.block k (by omega)⟩
theorem Mine.below {M : Nat → Prop} {B : Nat} {U W W' : World} (hU : Below B U W) (h : Mine M W W') (hM : ∀ k, M k → B ≤ k) (hB : B ≤ W.heap.size) : Below B U W' :=
  hU.trans ⟨h.os, h.tape, h.output, h.size, fun k hk => h.block k (by omega) fun hm => by have := hM k hm; omega⟩
theorem Mine.lies {M : Nat → Prop} {W W' : World} (h : Mine M W W') {b : Nat} {C : Array Value} {T : TypeId} (hl : Lies b C T W) (hb : ¬ M b) : Lies b C T W' := (h.block b (lt_of_block hl) hb).trans hl
theorem Mine.cell {M : Nat → Prop} {W W' : World} (h : Mine M W W') {p : Addr} {u : Value} (hc : W.cell? p = some u) (hb : ¬ M p.block) : W'.cell? p = some u := by
  have := h.block p.block (lt_of_cell hc) hb
  unfold World.cell? at hc ⊢
  rw [this]; exact hc
theorem Mine.row {M : Nat → Prop} {W W' : World} (h : Mine M W W') {A : Option Addr} {cs : List Value} (hr : Row W A cs) (hA : ∀ a, A = some a → ¬ M a.block) : Row W' A cs := by
  rcases hr with hr | ⟨b, off, rfl, hr⟩
  · exact .inl hr
  · exact .inr ⟨b, off, rfl, fun j u hu => h.cell (hr j u hu) (hA ⟨b, off, none⟩ rfl)⟩
/-- h is a Heap's block, its timers lie as d; all its memory is M's. -/
structure HeapAt (M : Nat → Prop) (w : World) (h : Nat) (d : List Tm) : Prop where
  own : M h
  lt : ∀ k, M k → k < w.heap.size
  at_ : ∃ v, Lies h #[v] 50 w ∧ w.ownsRow 0 27 2 v d.length (tc d) ∧ ∀ k, v.ownBlock = some k → M k ∧ k ≠ h
theorem HeapAt.open_ {M : Nat → Prop} {w : World} {h : Nat} {d : List Tm} (H : HeapAt M w h d) (h0 : 0 < d.length) :
    ∃ g cap, Lies h #[.slice (some ⟨g, 0, none⟩) d.length cap] 50 w ∧ w.ownsRow 0 27 2 (.slice (some ⟨g, 0, none⟩) d.length cap) d.length (tc d) ∧ M g ∧ g ≠ h ∧ d.length ≤ cap ∧ cap ≤ maxLen := by
  obtain ⟨v, hl, ho, hb⟩ := H.at_
  have ho' := ho
  obtain ⟨_, ⟨rfl, e⟩ | ⟨g, cap, cur, rfl, hg, hh, hn, hm, hc, hx⟩⟩ := ho
  · omega
  · have := hb g rfl
    exact ⟨g, cap, hl, ho', this.1, this.2, hn, hm⟩
theorem ownsRow_block {w w' : World} {B size n : Nat} {e : TypeId} {v : Value} {xs : List Value} (h : w.ownsRow B e size v n xs) (hk : ∀ k, v.ownBlock = some k → k < w.heap.size → w'.heap[k]? = w.heap[k]?) : w'.ownsRow B e size v n xs := by
  obtain ⟨hl, ⟨rfl, e⟩ | ⟨g, cap, cur, rfl, hg, hh, hn, hm, hc, hx⟩⟩ := h
  · exact ⟨hl, .inl ⟨rfl, e⟩⟩
  · exact ⟨hl, .inr ⟨g, cap, cur, rfl, hg, (hk g rfl (lt_of_block hh)).trans hh, hn, hm, hc, hx⟩⟩
theorem HeapAt.mine {M M2 : Nat → Prop} {w w' : World} {h : Nat} {d : List Tm} (H : HeapAt M w h d) (hm : Mine M2 w w') (hd : ∀ k, M k → ¬ M2 k) : HeapAt M w' h d := by
  obtain ⟨v, hl, ho, hb⟩ := H.at_
  exact ⟨H.own, fun k hk => Nat.lt_of_lt_of_le (H.lt k hk) hm.size, v, hm.lies hl (hd _ H.own), ownsRow_block ho fun k hk hlt => hm.block k hlt (hd k (hb k hk).1), hb⟩
theorem HeapAt.below {M : Nat → Prop} {w w' : World} {h : Nat} {d : List Tm} (H : HeapAt M w h d) (hb : Below w.heap.size w w') : HeapAt M w' h d :=
  H.mine (M2 := fun _ => False) (Mine.of_below hb (Nat.le_refl _)) fun _ _ h => h
theorem HeapAt.row {M : Nat → Prop} {w : World} {h : Nat} {d : List Tm} (H : HeapAt M w h d) :
    ∃ A c, Lies h #[.slice A d.length c] 50 w ∧ Row w A (tc d) ∧ d.length ≤ c ∧ c ≤ maxLen := by
  obtain ⟨v, hl, ho, hb⟩ := H.at_
  obtain ⟨A, c, rfl, h1, h2, h3, h4, h5⟩ := own_form ho (by omega)
  exact ⟨A, c, hl, h4, h1, h2⟩
theorem own_setT {w : World} {B n cap g : Nat} {d : List Tm} (h : w.ownsRow B 27 2 (.slice (some ⟨g, 0, none⟩) n cap) n (tc d)) {i : Nat} (x : Tm) (hi : i < d.length) :
    ((w.setCell ⟨g, i * 2, none⟩ (.int .i64 x.at_)).setCell ⟨g, i * 2 + 1, none⟩ (.string (kS x.name))).ownsRow B 27 2 (.slice (some ⟨g, 0, none⟩) n cap) n (tc (d.set i x)) := by
  have h1 := (h.stored (i * 2) (.int .i64 x.at_)).1
  have h2 := (h1.stored (i * 2 + 1) (.string (kS x.name))).1
  rwa [tc_set x hi] at h2
theorem own_cellsT {w : World} {B n cap g : Nat} {d : List Tm} (h : w.ownsRow B 27 2 (.slice (some ⟨g, 0, none⟩) n cap) n (tc d)) {i : Nat} {x : Tm} (hi : d[i]? = some x) :
    w.cell? ⟨g, i * 2, none⟩ = some (.int .i64 x.at_) ∧ w.cell? ⟨g, i * 2 + 1, none⟩ = some (.string (kS x.name)) ∧ w.frozen? ⟨g, i * 2, none⟩ = false ∧ w.frozen? ⟨g, i * 2 + 1, none⟩ = false := by
  have hl := h.1
  rw [tc_len] at hl
  have := (List.getElem?_eq_some_iff.1 hi).1
  refine ⟨?_, ?_, h.frozenAt _, h.frozenAt _⟩
  · rw [h.cellAt _ (by omega)]; exact tc_0 hi
  · rw [h.cellAt _ (by omega)]; exact tc_1 hi
set_option maxHeartbeats 2000000 in
theorem qSwap (d : List Tm) (g n cap i j : Nat) (x y : Tm) (w : World) (hn : n = d.length) (h : w.ownsRow 0 27 2 (.slice (some ⟨g, 0, none⟩) n cap) n (tc d)) (hi : d[i]? = some x) (hj : d[j]? = some y) (hl : n ≤ maxLen) :
    Calls Try.prog 50 #[.slice (some ⟨g, 0, none⟩) n cap, .int .i64 i, .int .i64 j] w fun e w' => e = .returned (.tuple #[]) ∧
      w'.ownsRow 0 27 2 (.slice (some ⟨g, 0, none⟩) n cap) n (tc (swp d i j x y)) ∧ Mine (· = g) w w' := by
  have hin := (List.getElem?_eq_some_iff.1 hi).1
  have hjn := (List.getElem?_eq_some_iff.1 hj).1
  rw [← hn] at hin hjn
  obtain ⟨i1, i2, i3, i4⟩ := own_cellsT h hi
  obtain ⟨j1, j2, j3, j4⟩ := own_cellsT h hj
  have HO2 := Lib.hid (own_setT (own_setT h y (i := i) (by omega)) x (i := j) (by simp; omega)).drew
  have HM : Hid (Mine (· = g) w ((((w.setCell ⟨g, i * 2, none⟩ (.int .i64 y.at_)).setCell ⟨g, i * 2 + 1, none⟩ (.string (kS y.name))).setCell ⟨g, j * 2, none⟩ (.int .i64 x.at_)).setCell ⟨g, j * 2 + 1, none⟩ (.string (kS x.name))).drew) :=
    Lib.hid (((((Mine.set (M := (· = g)) w (a := ⟨g, i * 2, none⟩) _ rfl).trans (Mine.set (M := (· = g)) _ (a := ⟨g, i * 2 + 1, none⟩) _ rfl)).trans (Mine.set (M := (· = g)) _ (a := ⟨g, j * 2, none⟩) _ rfl)).trans (Mine.set (M := (· = g)) _ (a := ⟨g, j * 2 + 1, none⟩) _ rfl)).trans (Mine.drew _ _))
  unfold maxLen at hl
  have hxy : i = j → x = y := by
    rintro rfl
    rw [hi] at hj; cases hj; rfl
  clear hi hj h hn
  rcases Nat.lt_trichotomy i j with hij | hij | hij
  · clear hxy
    go_enter Try.func50, Try.ntmps50
    go_wp2_with fail
    go_region
    clear i1 i2 i3 i4 j1 j2 j3 j4
    go_end0
    exact ⟨rfl, HO2.out, HM.out⟩
  · subst hij
    obtain rfl := hxy rfl
    clear hxy
    go_enter Try.func50, Try.ntmps50
    go_wp2_with fail
    go_region
    clear i1 i2 i3 i4 j1 j2 j3 j4
    go_end0
    exact ⟨rfl, HO2.out, HM.out⟩
  · clear hxy
    go_enter Try.func50, Try.ntmps50
    go_wp2_with fail
    go_region
    clear i1 i2 i3 i4 j1 j2 j3 j4
    go_end0
    exact ⟨rfl, HO2.out, HM.out⟩
end Tim
end Go.Proofs.Ytklgehfbfokdlaa
