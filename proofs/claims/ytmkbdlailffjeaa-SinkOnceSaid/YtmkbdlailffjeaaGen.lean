/- Words for all stages from the twelfth on: rows of things, whose block is whose, counts in a map, small facts. -/
import Derived.Test.YtmkbdlailffjeaaMem
import Derived.Deep.Slices
import Derived.Deep.SlicePairs
import Derived.OpenShut
import Derived.WideKeyEntry
import Derived.Maps.OwnSet
import Derived.DeepKeys4
namespace Go.Proofs.Ytmkbdlailffjeaa
open Go.ChangeShapes Go.WideShapes Go.ChangeAt Go.RowKit
set_option linter.unusedVariables false
namespace Gen
theorem flat_len {α : Type} (f : α → List Value) {n : Nat} (hf : ∀ x, (f x).length = n) (xs : List α) : (xs.flatMap f).length = xs.length * n := by
  induction xs with
  | nil => simp
  | cons x r ih => rw [List.flatMap_cons, List.length_append, ih, hf, List.length_cons, Nat.add_mul]; omega
theorem flat_get {α : Type} (f : α → List Value) {n : Nat} (hf : ∀ x, (f x).length = n) : ∀ {xs : List α} {i j : Nat} {x : α}, xs[i]? = some x → j < n → (xs.flatMap f)[i * n + j]? = (f x)[j]?
  | [], _, _, _, h, _ => by simp at h
  | y :: r, 0, j, x, h, hj => by
    simp only [List.getElem?_cons_zero, Option.some.injEq] at h
    subst h
    rw [List.flatMap_cons, Nat.zero_mul, Nat.zero_add, List.getElem?_append_left (by rw [hf]; exact hj)]
  | y :: r, i + 1, j, x, h, hj => by
    rw [List.getElem?_cons_succ] at h
    rw [List.flatMap_cons, List.getElem?_append_right (by rw [hf, Nat.add_mul]; omega), hf, show (i + 1) * n + j - n = i * n + j by rw [Nat.add_mul]; omega]
    exact flat_get f hf h hj
theorem flat_take {α : Type} (f : α → List Value) {n : Nat} (hf : ∀ x, (f x).length = n) (l : List α) (m : Nat) : (l.flatMap f).take (m * n) = (l.take m).flatMap f := by
  rcases Nat.lt_or_ge m l.length with h | h
  · have e : l.flatMap f = (l.take m).flatMap f ++ (l.drop m).flatMap f := by rw [← List.flatMap_append, List.take_append_drop]
    have hl : ((l.take m).flatMap f).length = m * n := by rw [flat_len f hf, List.length_take, Nat.min_eq_left (by omega)]
    rw [e, ← hl, List.take_left]
  · rw [List.take_of_length_le h, List.take_of_length_le (by rw [flat_len f hf]; exact Nat.mul_le_mul_right n h)]
theorem row_take {α : Type} {f : α → List Value} {n : Nat} (hf : ∀ x, (f x).length = n) {w : World} {A : Option Addr} {l : List α} (h : Row w A (l.flatMap f)) (m : Nat) : Row w A ((l.take m).flatMap f) := by
  rw [← flat_take f hf]
  rcases h with h | ⟨b, off, rfl, h⟩
  · left; rw [h]; simp
  · refine .inr ⟨b, off, rfl, fun i u hu => ?_⟩
    rw [List.getElem?_take] at hu
    split at hu
    · exact h _ _ hu
    · cases hu
theorem row_one {w : World} {A : Option Addr} {α : Type} {f : α → List Value} {n : Nat} (hf : ∀ x, (f x).length = n) (h0 : 0 < n) {l : List α} (h : Row w A (l.flatMap f)) {k : Nat} {x : α} (hk : l[k]? = some x) :
    ∃ b off, A = some ⟨b, off, none⟩ ∧ ∀ j u, (f x)[j]? = some u → w.cell? ⟨b, off + k * n + j, none⟩ = some u := by
  have g : ∀ j, j < n → (l.flatMap f)[k * n + j]? = (f x)[j]? := fun j hj => flat_get f hf hk hj
  rcases h with h | ⟨b, off, rfl, h⟩
  · have g0 := g 0 h0
    rw [h] at g0
    have : 0 < (f x).length := by rw [hf]; exact h0
    rw [List.getElem?_eq_getElem this] at g0
    simp at g0
  · refine ⟨b, off, rfl, fun j u hu => ?_⟩
    have hj : j < n := by rw [← hf x]; exact (List.getElem?_eq_some_iff.1 hu).1
    rw [Nat.add_assoc]
    exact h _ _ ((g j hj).trans hu)
section
variable {H : Type} {enc : TypeId × Value → H} {w : World} {base : Nat} {spare : Nat → Bool} {held : Bool}
/-- A row of things of n cells that came in. -/
theorem openRow {α : Type} [Inhabited α] {P : Program} {t e : TypeId} {n : Nat} {f : α → List Value} {v : Value} {d : DataW H} {ps : List MemPlace} {r : Reach} {b0 : Nat} (ht : P.underlying t = some (.slice e)) (hc : P.cellsOf e = n) (h0 : 0 < n) (hf : ∀ x, (f x).length = n)
    (hone : ∀ (fuel : Nat) (cs : List Value) (x : DataW H × List MemPlace), cs.length = n → DataW.trod enc P w base spare held fuel e cs = some x → ∃ p : α, cs = f p)
    (hval : Value.okWide P w r b0 t v) (h : DataW.Trod enc P w base spare held t v d ps) :
    ∃ (A : Option Addr) (c : Nat) (xs : List α), v = .slice A xs.length c ∧ xs.length ≤ c ∧ c ≤ maxLen ∧ Row w A (xs.flatMap f) := by
  obtain ⟨a0, len0, cap0, rfl⟩ := okWide_slice ht hval
  obtain ⟨fuel, hfu⟩ := h
  rcases Deep.open_slice ht hfu with ⟨h1, h2⟩ | ⟨a, len, cap, m, k, D, Pl, h1, hb, hl, hm, hmm, h2, hx⟩
  · simp only [Value.cells, List.cons.injEq, Value.slice.injEq, and_true] at h1
    obtain ⟨rfl, rfl, rfl⟩ := h1
    exact ⟨none, 0, [], rfl, Nat.le_refl _, by simp [maxLen], .inl rfl⟩
  · simp only [Value.cells, List.cons.injEq, Value.slice.injEq, and_true] at h1
    obtain ⟨rfl, rfl, rfl⟩ := h1
    have hlm : len0 ≤ m := by rw [hmm]; split <;> omega
    have each : ∀ i, i < m → ∃ q : α, ∀ j u, (f q)[j]? = some u → w.cell? ((a.add (i * n)).add j) = some u := by
      intro i hi
      obtain ⟨cs', g1, g2⟩ := hx i hi
      rw [hc] at g1
      obtain ⟨_, hlen, hcell⟩ := World.cells?_some g1
      obtain ⟨q, rfl⟩ := hone _ _ _ hlen g2
      refine ⟨q, fun j u hu => ?_⟩
      have hj : j < n := by rw [← hf q]; exact (List.getElem?_eq_some_iff.1 hu).1
      have := hcell j hj
      rw [this]
      simpa using hu
    obtain ⟨q, hq⟩ := Deep.choose_lt each
    obtain ⟨xs, hxs⟩ : ∃ xs : List α, xs = (List.range len0).map q := ⟨_, rfl⟩
    have hlx : xs.length = len0 := by rw [hxs]; simp
    refine ⟨some a, cap0, xs, by rw [hlx], by rw [hlx]; exact hl, hm, ?_⟩
    rcases Nat.eq_zero_or_pos len0 with hz | hz
    · subst hz; rw [List.eq_nil_of_length_eq_zero hlx]; exact .inl rfl
    · obtain ⟨b, off, spot⟩ := a
      have hspot : spot = none := by
        have hfl := hf (q 0)
        obtain ⟨u, hu⟩ : ∃ u, (f (q 0))[0]? = some u := ⟨_, List.getElem?_eq_getElem (by omega)⟩
        have g := hq 0 (by omega) 0 u hu
        have g2 : w.cell? (⟨b, off, spot⟩ : Addr) = some u := by simpa [Addr.add] using g
        simpa using World.cell?_spot g2
      subst hspot
      refine .inr ⟨b, off, rfl, fun j u hu => ?_⟩
      have hj : j < len0 * n := by
        have := (List.getElem?_eq_some_iff.1 hu).1
        rwa [flat_len f hf, hlx] at this
      have hdiv : j / n < len0 := Nat.div_lt_of_lt_mul (by rwa [Nat.mul_comm] at hj)
      have hmod : j % n < n := Nat.mod_lt _ h0
      have hsum : j / n * n + j % n = j := by rw [Nat.mul_comm]; exact Nat.div_add_mod j n
      have hget : xs[j / n]? = some (q (j / n)) := by rw [hxs]; simp [hdiv]
      have := flat_get f hf hget hmod
      rw [hsum, hu] at this
      have g := hq (j / n) (by omega) (j % n) u this.symm
      rw [Go.WideShapes.add_plain, Go.WideShapes.add_plain] at g
      rw [← hsum, ← Nat.add_assoc]
      exact g
end
/-- From W to W' nobody but the owner of M has turned what lay: blocks of M alone, and new ones. -/
structure Mine (M : Nat → Prop) (W W' : World) : Prop where
  os : W'.os = W.os
  tape : W'.tape = W.tape
  output : W'.output = W.output
  size : W.heap.size ≤ W'.heap.size
  block : ∀ k, k < W.heap.size → ¬ M k → W'.heap[k]? = W.heap[k]?
theorem Mine.refl (M : Nat → Prop) (W : World) : Mine M W W := ⟨rfl, rfl, rfl, Nat.le_refl _, fun _ _ _ => rfl⟩
theorem Mine.sub {M M' : Nat → Prop} {W W' : World} (h : Mine M W W') (hs : ∀ k, M k → M' k) : Mine M' W W' := ⟨h.os, h.tape, h.output, h.size, fun k hk hn => h.block k hk fun hm => hn (hs k hm)⟩
theorem Mine.trans {M : Nat → Prop} {X Y Z : World} (h : Mine M X Y) (k : Mine M Y Z) : Mine M X Z :=
  ⟨k.os.trans h.os, k.tape.trans h.tape, k.output.trans h.output, Nat.le_trans h.size k.size, fun i hi hn => (k.block i (Nat.lt_of_lt_of_le hi h.size) hn).trans (h.block i hi hn)⟩
/-- The later owner may own new blocks. -/
theorem Mine.next {M M' : Nat → Prop} {X Y Z : World} (h : Mine M X Y) (hM : ∀ k, M' k → M k ∨ X.heap.size ≤ k) (k : Mine M' Y Z) : Mine M X Z :=
  ⟨k.os.trans h.os, k.tape.trans h.tape, k.output.trans h.output, Nat.le_trans h.size k.size, fun i hi hn =>
    (k.block i (Nat.lt_of_lt_of_le hi h.size) fun hm => (hM i hm).elim hn fun h1 => by omega).trans (h.block i hi hn)⟩
theorem Mine.alloc (M : Nat → Prop) (W : World) (o : Obj) : Mine M W (W.alloc o) := ⟨rfl, rfl, rfl, by simp, fun k hk _ => Below.heap_alloc W o k hk⟩
theorem Mine.drew (M : Nat → Prop) (W : World) : Mine M W W.drew := ⟨rfl, rfl, rfl, Nat.le_refl _, fun _ _ _ => rfl⟩
theorem Mine.drewN (M : Nat → Prop) (W : World) (n : Nat) : Mine M W (W.drewN n) := ⟨rfl, rfl, rfl, Nat.le_refl _, fun _ _ _ => rfl⟩
theorem Mine.set {M : Nat → Prop} (W : World) {a : Addr} (v : Value) (h : M a.block) : Mine M W (W.setCell a v) :=
  ⟨rfl, rfl, rfl, by show W.heap.size ≤ (W.heap.modify _ _).size; rw [Array.size_modify]; exact Nat.le_refl _, fun k _ hn => Below.heap_setCell W a v k fun e => hn (e ▸ h)⟩
theorem Mine.of_below {M : Nat → Prop} {B : Nat} {W W' : World} (h : Below B W W') (hB : W.heap.size ≤ B) : Mine M W W' := ⟨h.os, h.tape, h.output, h.size, fun k hk _ => h.block k (by omega)⟩
theorem Mine.up {M : Nat → Prop} {w w' : World} (hb : Below w.heap.size w w') : Mine M w w' := Mine.of_below hb (Nat.le_refl _)
theorem Mine.below {M : Nat → Prop} {B : Nat} {U W W' : World} (hU : Below B U W) (h : Mine M W W') (hM : ∀ k, M k → B ≤ k) (hB : B ≤ W.heap.size) : Below B U W' :=
  hU.trans ⟨h.os, h.tape, h.output, h.size, fun k hk => h.block k (by omega) fun hm => by have := hM k hm; omega⟩
theorem Mine.lies {M : Nat → Prop} {W W' : World} (h : Mine M W W') {b : Nat} {C : Array Value} {T : TypeId} (hl : Lies b C T W) (hb : ¬ M b) : Lies b C T W' := (h.block b (lt_of_block hl) hb).trans hl
theorem Mine.cell {M : Nat → Prop} {W W' : World} (h : Mine M W W') {p : Addr} {u : Value} (hc : W.cell? p = some u) (hb : ¬ M p.block) : W'.cell? p = some u := by
  have := h.block p.block (lt_of_cell hc) hb
  unfold World.cell? at hc ⊢
  rw [this]; exact hc
theorem Mine.row {M : Nat → Prop} {W W' : World} (h : Mine M W W') {A : Option Addr} {cs : List Value} (hr : Row W A cs) (hA : ∀ a, A = some a → ¬ M a.block) : Row W' A cs := by
  rcases hr with hr | ⟨b, off, rfl, hr⟩
  · exact .inl hr
  · exact .inr ⟨b, off, rfl, fun j u hu => h.cell (hr j u hu) (hA ⟨b, off, none⟩ rfl)⟩
/-- Blocks from B on may be turned too. -/
theorem Mine.set_new {M : Nat → Prop} {w w' : World} (h : Mine M w w') {a : Addr} (ha : w.heap.size ≤ a.block) (v : Value) : Mine M w (w'.setCell a v) :=
  h.next (M' := (· = a.block)) (fun k hk => .inr (by subst hk; exact ha)) (Mine.set _ _ rfl)
theorem Mine.grown {M : Nat → Prop} {W W' : World} {row : Option Nat} (hg : W.grownBy W' row) (h : ∀ k, row = some k → M k) : Mine M W W' :=
  ⟨hg.os, hg.tape, hg.output, hg.size, fun k hk hm => hg.block k hk fun e => hm (h k e.symm)⟩
theorem Mine.grown_one {w w' : World} {b : Nat} (hg : w.grownBy w' (some b)) : Mine (· = b) w w' := Mine.grown hg fun k hk => (Option.some.inj hk).symm
theorem ownsRow_block {w w' : World} {B size n : Nat} {e : TypeId} {v : Value} {xs : List Value} (h : w.ownsRow B e size v n xs) (hk : ∀ k, v.ownBlock = some k → k < w.heap.size → w'.heap[k]? = w.heap[k]?) : w'.ownsRow B e size v n xs := by
  obtain ⟨hl, ⟨rfl, e⟩ | ⟨g, cap, cur, rfl, hg, hh, hn, hm, hc, hx⟩⟩ := h
  · exact ⟨hl, .inl ⟨rfl, e⟩⟩
  · exact ⟨hl, .inr ⟨g, cap, cur, rfl, hg, (hk g rfl (lt_of_block hh)).trans hh, hn, hm, hc, hx⟩⟩
theorem ownsMap_block {H : Type} {P : Program} {k : TypeId} {R : Value → Option (DataW H × List MemPlace)} {w w' : World} {b n : Nat} {D : DataW H} (h : w.ownsMap P k R b n D) (hb : w'.heap[b]? = w.heap[b]?) : w'.ownsMap P k R b n D := by
  obtain ⟨es, clock, h1, h2⟩ := h
  exact ⟨es, clock, hb.trans h1, h2⟩
theorem lit_inj {a b : Int} (h : (DataW.lit (.int .i64 a) : DataW Unit) = .lit (.int .i64 b)) : a = b := by
  injection h with h
  injection h
theorem cell_below {a b : World} {p : Addr} {u : Value} (h : a.cell? p = some u) (hb : Below a.heap.size a b) : b.cell? p = some u := (hb.cell (lt_of_cell h)).trans h
theorem lies_new1 (w : World) (o : Obj) (C : Array Value) (T : TypeId) : Lies (w.heap.size + 1) C T ((w.alloc o).alloc (.cells C T)) := by
  have := Lies.new (w.alloc o) C T
  rwa [World.size_alloc] at this
theorem lies_new2 (w : World) (o o2 : Obj) (C : Array Value) (T : TypeId) : Lies (w.heap.size + 1 + 1) C T (((w.alloc o).alloc o2).alloc (.cells C T)) := by
  have := lies_new1 (w.alloc o) o2 C T
  rwa [World.size_alloc] at this
theorem Lies.set4 {b : Nat} {T : TypeId} {w : World} {u0 u1 u2 u3 : Value} (h : Lies b #[u0, u1, u2, u3] T w) (v0 v1 v2 v3 : Value) :
    Lies b #[v0, v1, v2, v3] T ((((w.setCell ⟨b, 0, none⟩ v0).setCell ⟨b, 1, none⟩ v1).setCell ⟨b, 2, none⟩ v2).setCell ⟨b, 3, none⟩ v3) := by
  have h2 := (((h.set 0 v0).set 1 v1).set 2 v2).set 3 v3
  simpa using h2
theorem below_set4 {B b : Nat} {u w : World} (h : Below B u w) (hb : B ≤ b) (v0 v1 v2 v3 : Value) : Below B u ((((w.setCell ⟨b, 0, none⟩ v0).setCell ⟨b, 1, none⟩ v1).setCell ⟨b, 2, none⟩ v2).setCell ⟨b, 3, none⟩ v3) :=
  (((h.setCell (p := ⟨b, 0, none⟩) hb v0).setCell (p := ⟨b, 1, none⟩) hb v1).setCell (p := ⟨b, 2, none⟩) hb v2).setCell (p := ⟨b, 3, none⟩) hb v3
/-- Hands back a truth, a number; nothing is touched. -/
def SaysB (b : Bool) (w : World) (e : Ending) (w' : World) : Prop := e = .returned (.bool b) ∧ w = w'
def SaysI (n : Int) (w : World) (e : Ending) (w' : World) : Prop := e = .returned (.int .i64 n) ∧ w = w'
/-- Hands back a truth, a number; what was stays. -/
def TellsB (b : Bool) (w : World) (e : Ending) (w' : World) : Prop := e = .returned (.bool b) ∧ Below w.heap.size w w'
def TellsI (n : Int) (w : World) (e : Ending) (w' : World) : Prop := e = .returned (.int .i64 n) ∧ Below w.heap.size w w'
end Gen
end Go.Proofs.Ytmkbdlailffjeaa
