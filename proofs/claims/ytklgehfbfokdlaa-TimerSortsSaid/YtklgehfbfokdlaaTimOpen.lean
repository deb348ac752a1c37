/- Timers, acts that came in; one Heap, two Heaps and what lies beside them. -/
import Derived.Test.YtklgehfbfokdlaaTimRefB
import Derived.Test.YtklgehfbfokdlaaTimNil
import Derived.Test.YtklgehfbfokdlaaLift
import Derived.Deep.Slices
import Derived.Deep.SlicePairs
import Derived.OpenShut
namespace Go.Proofs.Ytklgehfbfokdlaa
open Go.ChangeShapes Go.WideShapes Go.ChangeAt Go.RowKit
set_option linter.unusedVariables false
namespace Tim
section
variable {H : Type} {enc : TypeId × Value → H} {w : World} {base : Nat} {spare : Nat → Bool} {held : Bool}
theorem tcells_str : Try.prog.cellsOf 9 = 1 := by kernel_rfl
theorem tcells_i64 : Try.prog.cellsOf 2 = 1 := by kernel_rfl
theorem tcells_int : Try.prog.cellsOf 3 = 1 := by kernel_rfl
theorem tcells_tm : Try.prog.cellsOf 27 = 2 := by kernel_rfl
theorem tone_int {fuel : Nat} {c : Value} {x : DataW H × List MemPlace} (h : DataW.trod enc Try.prog w base spare held fuel 2 [c] = some x) : ∃ z : Int, c = .int .i64 z := by
  obtain ⟨z, h1, _, h3⟩ := DataW.trod_int Try.underlying2 h
  exact ⟨z, by simpa using h1⟩
theorem tone_Int {fuel : Nat} {c : Value} {x : DataW H × List MemPlace} (h : DataW.trod enc Try.prog w base spare held fuel 3 [c] = some x) : ∃ z : Int, c = .int .i64 z := by
  obtain ⟨z, h1, _, h3⟩ := DataW.trod_int Try.underlying3 h
  exact ⟨z, by simpa using h1⟩
theorem tone_str {fuel : Nat} {c : Value} {x : DataW H × List MemPlace} (h : DataW.trod enc Try.prog w base spare held fuel 9 [c] = some x) : ∃ s : List UInt8, c = .string (kS s) := by
  obtain ⟨s, h1, _, h3⟩ := DataW.trod_string Try.underlying9 h
  exact ⟨s.toList, by rw [kS_of]; simpa using h1⟩
theorem ttrod_tm {fuel : Nat} {c0 c1 : Value} {x : DataW H × List MemPlace} (h : DataW.trod enc Try.prog w base spare held fuel 27 [c0, c1] = some x) : ∃ t : Tm, [c0, c1] = tL t := by
  obtain ⟨xs, n, _, _, _, hlen, hg⟩ := DataW.trod_struct Try.underlying27 h
  have hl : xs.length = 2 := hlen
  match xs, hl with
  | [y0, y1], _ =>
    obtain ⟨a, rfl⟩ := tone_int (x := y0) (by simpa [tcells_i64] using hg 0 _ rfl)
    obtain ⟨v, rfl⟩ := tone_str (x := y1) (by simpa [tcells_str] using hg 1 _ rfl)
    exact ⟨⟨a, v⟩, rfl⟩
/-- A row of things of n cells that came in. -/
theorem openRow {α : Type} [Inhabited α] {P : Program} {t e : TypeId} {n : Nat} {f : α → List Value} {v : Value} {d : DataW H} {ps : List MemPlace} {r : Reach} {b0 : Nat} (ht : P.underlying t = some (.slice e)) (hc : P.cellsOf e = n) (h0 : 0 < n) (hf : ∀ x, (f x).length = n)
    (hone : ∀ (fuel : Nat) (cs : List Value) (x : DataW H × List MemPlace), cs.length = n → DataW.trod enc P w base spare held fuel e cs = some x → ∃ p : α, cs = f p)
    (hval : Value.okWide P w r b0 t v) (h : DataW.Trod enc P w base spare held t v d ps) :
    ∃ (A : Option Addr) (c : Nat) (xs : List α), v = .slice A xs.length c ∧ xs.length ≤ c ∧ c ≤ maxLen ∧ Row w A (xs.flatMap f) := by
  obtain ⟨a0, len0, cap0, rfl⟩ := okWide_slice ht hval
  obtain ⟨fuel, hfu⟩ := h
  rcases Deep.open_slice ht hfu with ⟨h1, h2⟩ | ⟨a, len, cap, m, k, D, Pl, h1, hb, hl, hm, hmm, h2, hx⟩
  · simp only [Value.cells, List.cons.injEq, Value.slice.injEq, and_true] at h1
    obtain ⟨rfl, rfl, rfl⟩ := h1
    exact ⟨none, 0, [], rfl, Nat.le_refl _, by simp [maxLen], .inl rfl⟩
  · simp only [Value.cells, List.cons.injEq, Value.slice.injEq, and_true] at h1
    obtain ⟨rfl, rfl, rfl⟩ := h1
    have hlm : len0 ≤ m := by rw [hmm]; split <;> omega
    have each : ∀ i, i < m → ∃ q : α, ∀ j u, (f q)[j]? = some u → w.cell? ((a.add (i * n)).add j) = some u := by
      intro i hi
      obtain ⟨cs', g1, g2⟩ := hx i hi
      rw [hc] at g1
      obtain ⟨_, hlen, hcell⟩ := World.cells?_some g1
      obtain ⟨q, rfl⟩ := hone _ _ _ hlen g2
      refine ⟨q, fun j u hu => ?_⟩
      have hj : j < n := by rw [← hf q]; exact (List.getElem?_eq_some_iff.1 hu).1
      have := hcell j hj
      rw [this]
      simpa using hu
    obtain ⟨q, hq⟩ := Deep.choose_lt each
    obtain ⟨xs, hxs⟩ : ∃ xs : List α, xs = (List.range len0).map q := ⟨_, rfl⟩
    have hlx : xs.length = len0 := by rw [hxs]; simp
    refine ⟨some a, cap0, xs, by rw [hlx], by rw [hlx]; exact hl, hm, ?_⟩
    rcases Nat.eq_zero_or_pos len0 with hz | hz
    · subst hz; rw [List.eq_nil_of_length_eq_zero hlx]; exact .inl rfl
    · obtain ⟨b, off, spot⟩ := a
      have hspot : spot = none := by
        have hfl := hf (q 0)
        obtain ⟨u, hu⟩ : ∃ u, (f (q 0))[0]? = some u := ⟨_, List.getElem?_eq_getElem (by omega)⟩
        have g := hq 0 (by omega) 0 u hu
        have g2 : w.cell? (⟨b, off, spot⟩ : Addr) = some u := by simpa [Addr.add] using g
        simpa using World.cell?_spot g2
      subst hspot
      refine .inr ⟨b, off, rfl, fun j u hu => ?_⟩
      have hj : j < len0 * n := by
        have := (List.getElem?_eq_some_iff.1 hu).1
        rwa [flat_len f hf, hlx] at this
      have hdiv : j / n < len0 := Nat.div_lt_of_lt_mul (by rwa [Nat.mul_comm] at hj)
      have hmod : j % n < n := Nat.mod_lt _ h0
      have hsum : j / n * n + j % n = j := by rw [Nat.mul_comm]; exact Nat.div_add_mod j n
      have hget : xs[j / n]? = some (q (j / n)) := by rw [hxs]; simp [hdiv]
      have := flat_get f hf hget hmod
      rw [hsum, hu] at this
      have g := hq (j / n) (by omega) (j % n) u this.symm
      rw [Go.WideShapes.add_plain, Go.WideShapes.add_plain] at g
      rw [← hsum, ← Nat.add_assoc]
      exact g
theorem openTimers {v : Value} {d : DataW H} {ps : List MemPlace} {r : Reach} {b0 : Nat} (hval : Value.okWide Try.prog w r b0 25 v) (h : DataW.Trod enc Try.prog w base spare held 25 v d ps) :
    ∃ (A : Option Addr) (c : Nat) (xs : List Tm), v = .slice A xs.length c ∧ xs.length ≤ c ∧ c ≤ maxLen ∧ Row w A (tc xs) :=
  openRow (f := tL) Try.underlying25 tcells_tm (by omega) tL_len (fun fuel cs x hl hx => by
    match cs, hl with
    | [c0, c1], _ => exact ttrod_tm hx) hval h
theorem openTimer {r : Reach} {b0 : Nat} {v : Value} {d : DataW H} {p : List MemPlace} (hval : Value.okWide Try.prog w r b0 27 v) (h : DataW.Trod enc Try.prog w base spare held 27 v d p) : ∃ t : Tm, v = tmV t := by
  obtain ⟨cs, rfl, hsz⟩ := okWide_struct Try.underlying27 hval
  obtain ⟨l⟩ := cs
  match l, hsz.trans tcells_tm with
  | [c0, c1], _ =>
    obtain ⟨fuel, hf⟩ := h
    obtain ⟨t, ht⟩ := ttrod_tm (by simpa [Value.cells] using hf)
    refine ⟨t, ?_⟩
    simp only [tL, List.cons.injEq, and_true] at ht
    rw [ht.1, ht.2]
/-- An act: what, and a timer. -/
def aL (x : Int × Tm) : List Value := .int .i64 x.1 :: tL x.2
def ac (l : List (Int × Tm)) : List Value := l.flatMap aL
theorem aL_len (x : Int × Tm) : (aL x).length = 3 := rfl
theorem ttrod_act {fuel : Nat} {c0 c1 c2 : Value} {x : DataW H × List MemPlace} (h : DataW.trod enc Try.prog w base spare held fuel 29 [c0, c1, c2] = some x) : ∃ t : Int × Tm, [c0, c1, c2] = aL t := by
  obtain ⟨xs, n, _, _, _, hlen, hg⟩ := DataW.trod_struct Try.underlying29 h
  have hl : xs.length = 2 := hlen
  match xs, hl with
  | [y0, y1], _ =>
    obtain ⟨a, rfl⟩ := tone_Int (x := y0) (by simpa [tcells_int] using hg 0 _ rfl)
    obtain ⟨t, ht⟩ := ttrod_tm (x := y1) (by simpa [tcells_tm] using hg 1 _ rfl)
    exact ⟨(a, t), by rw [ht]; rfl⟩
theorem tcells_act : Try.prog.cellsOf 29 = 3 := by kernel_rfl
instance : Inhabited (Int × Tm) := ⟨(0, default)⟩
theorem openActs {v : Value} {d : DataW H} {ps : List MemPlace} {r : Reach} {b0 : Nat} (hval : Value.okWide Try.prog w r b0 22 v) (h : DataW.Trod enc Try.prog w base spare held 22 v d ps) :
    ∃ (A : Option Addr) (c : Nat) (xs : List (Int × Tm)), v = .slice A xs.length c ∧ xs.length ≤ c ∧ c ≤ maxLen ∧ Row w A (ac xs) :=
  openRow (f := aL) Try.underlying22 tcells_act (by omega) aL_len (fun fuel cs x hl hx => by
    match cs, hl with
    | [c0, c1, c2], _ => exact ttrod_act hx) hval h
end
/-- A place that is none of the owner's. -/
def Off (M : Nat → Prop) (w : World) (A : Option Addr) : Prop := ∀ a, A = some a → ¬ M a.block ∧ a.block < w.heap.size
theorem Off.step {M M' : Nat → Prop} {w w' : World} {A : Option Addr} (h : Off M w A) (hM : ∀ k, M' k → M k ∨ w.heap.size ≤ k) (hs : w.heap.size ≤ w'.heap.size) : Off M' w' A :=
  fun a ha => ⟨fun hm => (hM _ hm).elim (h a ha).1 fun h2 => by have := (h a ha).2; omega, Nat.lt_of_lt_of_le (h a ha).2 hs⟩
theorem Mine.rowOff {M : Nat → Prop} {w w' : World} (h : Mine M w w') {A : Option Addr} {cs : List Value} (hr : Row w A cs) (hA : Off M w A) : Row w' A cs := h.row hr fun a ha => (hA a ha).1
/-- One Heap of the call's own. -/
structure One (w0 w : World) (M : Nat → Prop) (h : Nat) (l : List Tm) : Prop where
  holds : Holds M w h l
  base : ∀ k, M k → w0.heap.size ≤ k
  below : Below w0.heap.size w0 w
theorem One.up {w0 w w' : World} {M : Nat → Prop} {h : Nat} {l : List Tm} (H : One w0 w M h l) (hb : Below w.heap.size w w') : One w0 w' M h l := ⟨H.holds.below hb, H.base, below_next H.below hb⟩
theorem One.step {w0 w w' : World} {M M' : Nat → Prop} {h : Nat} {l l' : List Tm} (H : One w0 w M h l) (h2 : Holds M' w' h l') (hm : Mine M w w') (hM : ∀ k, M' k → M k ∨ w.heap.size ≤ k) : One w0 w' M' h l' :=
  ⟨h2, fun k hk => (hM k hk).elim (H.base k) fun h3 => Nat.le_trans H.below.size h3, Mine.below H.below hm H.base H.below.size⟩
theorem One.new_ {w0 w : World} (hb : Below w0.heap.size w0 w) : One w0 (w.alloc (.cells #[.slice none 0 0] 50)) (· = w.heap.size) w.heap.size [] :=
  ⟨holds_new w, fun k hk => by subst hk; exact hb.size, below_al hb⟩
/-- Two Heaps that do not meet. -/
structure Pair (w0 w : World) (M1 M2 : Nat → Prop) (g h : Nat) (l1 l2 : List Tm) : Prop where
  a : One w0 w M1 g l1
  b : One w0 w M2 h l2
  ne : ∀ k, M1 k → ¬ M2 k
theorem Pair.up {w0 w w' : World} {M1 M2 : Nat → Prop} {g h : Nat} {l1 l2 : List Tm} (H : Pair w0 w M1 M2 g h l1 l2) (hb : Below w.heap.size w w') : Pair w0 w' M1 M2 g h l1 l2 := ⟨H.a.up hb, H.b.up hb, H.ne⟩
theorem Pair.stepA {w0 w w' : World} {M1 M2 M' : Nat → Prop} {g h : Nat} {l1 l2 l' : List Tm} (H : Pair w0 w M1 M2 g h l1 l2) (h2 : Holds M' w' g l') (hm : Mine M1 w w') (hM : ∀ k, M' k → M1 k ∨ w.heap.size ≤ k) : Pair w0 w' M' M2 g h l' l2 :=
  ⟨H.a.step h2 hm hM, ⟨H.b.holds.mine hm fun k hk h1 => H.ne k h1 hk, H.b.base, (H.a.step h2 hm hM).below⟩, fun k hk h3 => (hM k hk).elim (fun h1 => H.ne k h1 h3) fun h4 => by have := H.b.holds.lt k h3; omega⟩
theorem Pair.stepB {w0 w w' : World} {M1 M2 M' : Nat → Prop} {g h : Nat} {l1 l2 l' : List Tm} (H : Pair w0 w M1 M2 g h l1 l2) (h2 : Holds M' w' h l') (hm : Mine M2 w w') (hM : ∀ k, M' k → M2 k ∨ w.heap.size ≤ k) : Pair w0 w' M1 M' g h l1 l' :=
  ⟨⟨H.a.holds.mine hm fun k hk h1 => H.ne k hk h1, H.a.base, (H.b.step h2 hm hM).below⟩, H.b.step h2 hm hM, fun k hk h3 => (hM k h3).elim (fun h1 => H.ne k hk h1) fun h4 => by have := H.a.holds.lt k hk; omega⟩
theorem Pair.new_ (w : World) : Pair w ((w.alloc (.cells #[.slice none 0 0] 50)).alloc (.cells #[.slice none 0 0] 50)) (· = w.heap.size) (· = w.heap.size + 1) w.heap.size (w.heap.size + 1) [] [] := by
  have h2 := One.new_ (w0 := w) (w := w.alloc (.cells #[.slice none 0 0] 50)) (below_al (Below.refl _ _))
  simp only [World.size_alloc] at h2
  exact ⟨(One.new_ (Below.refl _ _)).up (below_al (Below.refl _ _)), h2, fun k h1 h2 => by omega⟩
theorem same_or {M : Nat → Prop} {w : World} : ∀ k, M k → M k ∨ w.heap.size ≤ k := fun k hk => .inl hk
end Tim
end Go.Proofs.Ytklgehfbfokdlaa
