/- Wide, PaneRow, PaneRight, put together. -/
import Derived.Test.YtipmphkmeiogoaaZ2
import Derived.BigQuiet
import Derived.StillTail
import Derived.Test.YtipmphkmeiogoaaZ9
import Derived.Deep.Cut
/- A region that draws its order, walked once, in the order of its text: its operations read, its callees may allocate, over a class of worlds that they keep; what stands at its end goes in that order. -/
namespace Go.Proofs.Ytipmphkmeiogoaa
open Go.RowKit
section
variable {P : Program} {ops : Array Oper} {md : Region.Mode} {C : World → Prop}
def anyQL (P : Program) (md : Region.Mode) (ops : Array Oper) (C : World → Prop) (n : Nat) (L : Array Bool → Act → Prop) : Nat → Array Bool → Act → Prop
  | 0, listed, a => L listed a
  | f + 1, listed, a => Region.ready md ops listed ≠ [] ∧ ∀ i ∈ Region.ready md ops listed, i < n ∧ qOp P ops C i (anyQL P md ops C n L f (listed.setIfInBounds i true)) a
theorem any_of_qhead {n g : Nat} {L : Array Bool → Act → Prop} {Q' : Exit → Act → World → Prop} (hL : ∀ listed a w, C w → L listed a → wpAny P md ops Q' g listed a w) :
    ∀ (f : Nat) (listed : Array Bool) (a : Act) (w : World), C w → anyQL P md ops C n L f listed a → wpAny P md ops Q' (f + g) listed a w
  | 0, listed, a, w, hw, h => by rw [Nat.zero_add]; exact hL _ _ _ hw h
  | f + 1, listed, a, w, hw, h => by
    rw [show f + 1 + g = (f + g) + 1 by omega]
    exact ⟨fun h0 => absurd h0 h.1, fun i hi => wpOp_of_qOp hw (fun a' w' hw' h' => any_of_qhead hL f _ a' w' hw' h') (h.2 i hi).2⟩
theorem anyQL_first {n i : Nat} {oi : Oper} {v : Value} {L : Array Bool → Act → Prop} (hi : ops[i]? = some oi) (hsel : ∀ (j : Nat) (o : Oper) cs b, ops[j]? = some o → o.op ≠ .select cs b)
    (hs : Region.sinkB md ops n = true) (hc : Region.chainB md ops n = true) (hn : n < ops.size) (hin : i < n)
    (hdone : ∀ listed a, L listed a → ∀ j ∈ Region.ready md ops listed, n ≤ j) :
    ∀ (f : Nat) (listed : Array Bool) (a : Act), HeadInv md ops n listed →
      (∀ j oj, ops[j]? = some oj → j ≠ i → listed.getD j true = false → (∀ e ∈ oj.after, Region.binds md e = true → e.on ≠ i) → oi.apart ops oj = true) →
      i ∈ Region.ready md ops listed → YieldsIn P ops C oi v a →
      anyQL P md ops C n L f (listed.setIfInBounds i true) (a.put oi.dst v) → anyQL P md ops C n L (f + 1) listed a := by
  intro f
  induction f with
  | zero =>
    intro listed a inv _ hr hy H
    have hun := (mem_ready.1 hr).1
    refine ⟨fun h => (by rw [h] at hr; cases hr), fun j hj => ?_⟩
    have hjn : j < n := by
      rcases Nat.lt_or_ge j n with h | h
      · exact h
      · exact absurd hj (tail_waits hs hc hn inv _ i rfl hin hun j h)
    refine ⟨hjn, ?_⟩
    by_cases hji : j = i
    · subst hji; exact hy.qOp hi H
    · have := hdone _ _ H j (ready_mono hj hji)
      omega
  | succ f ih =>
    intro listed a inv hfree hr hy H
    have hun := (mem_ready.1 hr).1
    refine ⟨fun h => (by rw [h] at hr; cases hr), fun j hj => ?_⟩
    have hjn : j < n := by
      rcases Nat.lt_or_ge j n with h | h
      · exact h
      · exact absurd hj (tail_waits hs hc hn inv _ i rfl hin hun j h)
    refine ⟨hjn, ?_⟩
    by_cases hji : j = i
    · subst hji; exact hy.qOp hi H
    · have h1 := (H.2 j (ready_mono hj hji)).2
      obtain ⟨hjun, oj, hoj, hall⟩ := mem_ready.1 hj
      have hnot : ∀ e ∈ oj.after, Region.binds md e = true → e.on ≠ i := fun e he hb heq => by
        have h1 := hall e he hb
        rw [heq, getD_both hun] at h1
        cases h1
      have h2 := qOp_put hoj (hfree j oj hoj hji hjun hnot) (fun cs b => hsel i oi cs b hi) (fun cs b => hsel j oj cs b hoj) hy h1
      have hfree' : ∀ k ok, ops[k]? = some ok → k ≠ i → (listed.setIfInBounds j true).getD k true = false →
          (∀ e ∈ ok.after, Region.binds md e = true → e.on ≠ i) → oi.apart ops ok = true := fun k ok hk hki hun hno => by
        refine hfree k ok hk hki ?_ hno
        by_cases hjk : j = k
        · subst hjk; exact hjun
        · rw [getD_set_ne true hjk] at hun; exact hun
      refine qOp_mono (fun a' h3 => ih (listed.setIfInBounds j true) a' (inv.set hj hjn) hfree' (ready_mono hr (Ne.symm hji)) h3.1 ?_) h2
      rw [Array.setIfInBounds_comm _ _ hji]
      exact h3.2
theorem anyQL_lex {n g : Nat} {Lq : Act → Prop} (hsel : Region.noSelect ops = true) (hs : Region.sinkB md ops n = true) (hc : Region.chainB md ops n = true) (hn : n < ops.size) :
    ∀ (l : List Oper) (k : Nat) (listed : Array Bool) (a : Act), (∀ j, j < l.length → l[j]? = ops[k + j]?) → k + l.length = n → HeadInv md ops n listed →
    Region.lexHead md ops g l.length k listed = true → wpQuiet P ops C Lq l a →
    anyQL P md ops C n (fun listed' a' => Region.seqB md ops g n listed' = true ∧ Lq a') l.length listed a
  | [], k, listed, a, _, hk, _, hB, h => by
    have : k = n := by simpa using hk
    subst this
    exact ⟨by simpa [Region.lexHead] using hB, h⟩
  | o :: l, k, listed, a, hl, hk, inv, hB, h => by
    have h0 : ops[k]? = some o := by simpa using (hl 0 (by simp)).symm
    simp only [List.length_cons, Region.lexHead, Bool.and_eq_true] at hB
    obtain ⟨⟨hr, hf⟩, hB'⟩ := hB
    have hkn : k < n := by simp only [List.length_cons] at hk; omega
    have hr' : k ∈ Region.ready md ops listed := by simpa using hr
    have hst : qOp P ops C k (wpQuiet P ops C Lq l) a := by unfold qOp; simp only [h0]; exact h
    obtain ⟨v, hy, hK⟩ := yieldsIn_of_qOp h0 hst
    exact anyQL_first h0 (Region.noSelect_spec hsel) hs hc hn hkn (fun listed' a' hL => seqB_ready hL.1) l.length listed a inv (Region.free_spec h0 hf) hr' hy
      (anyQL_lex hsel hs hc hn l (k + 1) _ _ (fun j hj => by have := hl (j + 1) (by simp; omega); simpa [Nat.add_assoc, Nat.add_comm 1 j] using this) (by simp only [List.length_cons] at hk; omega) (inv.set hr' hkn) hB' hK)
/-- The first n in the order of the text, over the class; then the others. -/
theorem wide_tail {id : Nat} {Q : Exit → Act → World → Prop} {a : Act} {w : World} {l : List Oper} (n : Nat) (C : World → Prop) (hm : P.follows .mixedOrders = true) (hB : Region.lexTailB .any l.toArray n = true) (hC : C w.drew)
    (h : wpQuiet P l.toArray C (fun a' => ∀ w', C w' → wpList P l.toArray Q (l.drop n) a' w') (l.take n) a) : (Code.region id l.toArray true).wp P Q a w := by
  simp only [Region.lexTailB, Bool.and_eq_true, decide_eq_true_eq] at hB
  obtain ⟨⟨⟨⟨hsel, hn⟩, hs⟩, hc⟩, hlex⟩ := hB
  have hn' : n < l.length := by simpa using hn
  have htl : (l.take n).length = n := by simp; omega
  have hdl : (l.drop n).length = l.toArray.size - n := by simp
  have inv0 : HeadInv .any l.toArray n (Array.replicate l.toArray.size false) :=
    ⟨by simp, fun j oj _ hl => (by rw [getD_replicate_false] at hl; cases hl), fun t _ ht => getD_in (by simpa using ht) (getD_replicate_false _ _)⟩
  have H := anyQL_lex (md := .any) (g := l.toArray.size - n) hsel hs hc hn (l.take n) 0 _ a (fun j hj => by
    have hj' : j < n := by rw [htl] at hj; exact hj
    simp [hj']) (by simpa using htl) inv0 (by rw [htl]; exact hlex) h
  refine wp_region_any hm ?_
  have := any_of_qhead (Q' := Q) (g := l.toArray.size - n) (fun listed a' w' hw' hL => by
    have := wpAny_of_seq (md := .any) (Q' := Q) (l.drop n) n listed a' w' (fun j => by simp [List.getElem?_drop]) (by rw [hdl]; exact hL.1) (hL.2 w' hw')
    rwa [hdl] at this) _ _ _ _ hC H
  rw [htl, show n + (l.toArray.size - n) = l.toArray.size by omega] at this
  exact this
/-- All of it in the order of the text, over the class. -/
theorem wide_all {id : Nat} {Q : Exit → Act → World → Prop} {a : Act} {w : World} {l : List Oper} (C : World → Prop) (hm : P.follows .mixedOrders = true) (hB : Region.lexB .any l.toArray = true) (hC : C w.drew)
    (h : wpQuiet P l.toArray C (fun a' => ∀ w', C w' → Q .normal a' w') l a) : (Code.region id l.toArray true).wp P Q a w :=
  wp_region_quiet (C := C) hm hB hC (by simpa using h)
/-- One operation. -/
theorem wide_op {o : Oper} {a : Act} {K : Act → Prop} {v : Value} (h : ∀ w, C w → o.quietAt P a C w v) (hk : K (a.put o.dst v)) : o.quiet P a C K := ⟨v, h, hk⟩
end
end Go.Proofs.Ytipmphkmeiogoaa
/- Rows of panes; Right. -/
namespace Go.Proofs.Ytipmphkmeiogoaa
open Go.RowKit
open Pan
set_option linter.unusedVariables false
set_option maxRecDepth 8000
theorem flat_len {α : Type} (f : α → List Value) {n : Nat} (hf : ∀ x, (f x).length = n) (xs : List α) : (xs.flatMap f).length = xs.length * n := by
  induction xs with
  | nil => simp
  | cons x r ih => rw [List.flatMap_cons, List.length_append, ih, hf, List.length_cons, Nat.add_mul]; omega
theorem flat_get {α : Type} (f : α → List Value) {n : Nat} (hf : ∀ x, (f x).length = n) : ∀ {xs : List α} {i j : Nat} {x : α}, xs[i]? = some x → j < n → (xs.flatMap f)[i * n + j]? = (f x)[j]?
  | [], _, _, _, h, _ => by simp at h
  | y :: r, 0, j, x, h, hj => by
    simp only [List.getElem?_cons_zero, Option.some.injEq] at h
    subst h
    rw [List.flatMap_cons, Nat.zero_mul, Nat.zero_add, List.getElem?_append_left (by rw [hf]; exact hj)]
  | y :: r, i + 1, j, x, h, hj => by
    rw [List.getElem?_cons_succ] at h
    rw [List.flatMap_cons, List.getElem?_append_right (by rw [hf, Nat.add_mul]; omega), hf, show (i + 1) * n + j - n = i * n + j by rw [Nat.add_mul]; omega]
    exact flat_get f hf h hj
/-- Panes as they lie in a slice. -/
def pL (x : Pn) : List Value := [.int .i64 x.p.lo, .int .i64 x.p.hi, .string (kS x.p.key), .int .i64 x.acc.n, .int .i64 x.acc.a, .int .i64 x.acc.b]
def pc (xs : List Pn) : List Value := xs.flatMap pL
theorem pL_len (x : Pn) : (pL x).length = 6 := rfl
theorem pc_len (xs : List Pn) : (pc xs).length = xs.length * 6 := flat_len pL pL_len xs
theorem pc_app (xs ys : List Pn) : pc (xs ++ ys) = pc xs ++ pc ys := by simp [pc]
theorem pc_one (x : Pn) : pc [x] = pL x := by simp [pc]
theorem pc_nil : pc [] = [] := rfl
theorem pc_ones (xs : List Pn) : ∀ u ∈ pc xs, u.oneCell' = true := by
  intro u hu
  obtain ⟨p, _, hp⟩ := List.mem_flatMap.1 hu
  simp only [pL, List.mem_cons, List.not_mem_nil, or_false] at hp
  rcases hp with rfl | rfl | rfl | rfl | rfl | rfl <;> rfl
/-- The cells of a pane. -/
structure PnAt (w : World) (b o : Nat) (x : Pn) : Prop where
  c0 : w.cell? ⟨b, o, none⟩ = some (.int .i64 x.p.lo)
  c1 : w.cell? ⟨b, o + 1, none⟩ = some (.int .i64 x.p.hi)
  c2 : w.cell? ⟨b, o + 2, none⟩ = some (.string (kS x.p.key))
  c3 : w.cell? ⟨b, o + 3, none⟩ = some (.int .i64 x.acc.n)
  c4 : w.cell? ⟨b, o + 4, none⟩ = some (.int .i64 x.acc.a)
  c5 : w.cell? ⟨b, o + 5, none⟩ = some (.int .i64 x.acc.b)
theorem cell_below {a b : World} {p : Addr} {u : Value} (h : a.cell? p = some u) (hb : Below a.heap.size a b) : b.cell? p = some u := (hb.cell (lt_of_cell h)).trans h
theorem PnAt.below {a b : World} {k o : Nat} {x : Pn} (h : PnAt a k o x) (hb : Below a.heap.size a b) : PnAt b k o x :=
  ⟨cell_below h.c0 hb, cell_below h.c1 hb, cell_below h.c2 hb, cell_below h.c3 hb, cell_below h.c4 hb, cell_below h.c5 hb⟩
theorem PnAt.lt {a : World} {k o : Nat} {x : Pn} (h : PnAt a k o x) : k < a.heap.size := lt_of_cell h.c0
theorem PnAt.drew {a : World} {k o : Nat} {x : Pn} (h : PnAt a k o x) : PnAt a.drew k o x := ⟨h.c0, h.c1, h.c2, h.c3, h.c4, h.c5⟩
theorem PnAt.of_lies {w : World} {b : Nat} {x : Pn} {T : TypeId} (h : Lies b (paC x) T w) : PnAt w b 0 x :=
  ⟨h.cell (j := 0) rfl, h.cell (j := 1) rfl, h.cell (j := 2) rfl, h.cell (j := 3) rfl, h.cell (j := 4) rfl, h.cell (j := 5) rfl⟩
theorem Row.pn {w : World} {A : Option Addr} {xs : List Pn} (h : Row w A (pc xs)) {k : Nat} {x : Pn} (hk : xs[k]? = some x) : ∃ b off, A = some ⟨b, off, none⟩ ∧ PnAt w b (off + k * 6) x := by
  have g : ∀ j, j < 6 → (pc xs)[k * 6 + j]? = (pL x)[j]? := fun j hj => flat_get pL pL_len hk hj
  have g0 := g 0 (by omega); have g1 := g 1 (by omega); have g2 := g 2 (by omega); have g3 := g 3 (by omega); have g4 := g 4 (by omega); have g5 := g 5 (by omega)
  rcases h with h | ⟨b, off, rfl, h⟩
  · rw [h] at g0; simp [pL] at g0
  · refine ⟨b, off, rfl, ?_, ?_, ?_, ?_, ?_, ?_⟩
    · exact h _ _ g0
    · rw [Nat.add_assoc]; exact h _ _ g1
    · rw [Nat.add_assoc]; exact h _ _ g2
    · rw [Nat.add_assoc]; exact h _ _ g3
    · rw [Nat.add_assoc]; exact h _ _ g4
    · rw [Nat.add_assoc]; exact h _ _ g5
namespace Pan
/-- As far as it is checked. -/
def rightTo (l : List Pn) (k : Nat) : Prop := ∀ i x, i < k → l[i]? = some x → may x = true ∧ ∀ j y, i = j + 1 → l[j]? = some y → ahead y.p x.p = true
def right (l : List Pn) : Bool := decide (l.length ≤ 2000) && l.all may && chain l
theorem chain_of : ∀ (l : List Pn), (∀ i x y, l[i]? = some x → l[i + 1]? = some y → ahead x.p y.p = true) → chain l = true
  | [], _ => rfl
  | [_], _ => rfl
  | a :: b :: r, h => by
    rw [chain, Bool.and_eq_true]
    exact ⟨h 0 a b rfl rfl, chain_of (b :: r) fun i x y h1 h2 => h (i + 1) x y (by simpa using h1) (by simpa using h2)⟩
theorem of_chain : ∀ (l : List Pn), chain l = true → ∀ i x y, l[i]? = some x → l[i + 1]? = some y → ahead x.p y.p = true
  | [], _, _, _, _, h, _ => by simp at h
  | [a], _, i, x, y, h1, h2 => by simp at h2
  | a :: b :: r, h, 0, x, y, h1, h2 => by
    rw [chain, Bool.and_eq_true] at h
    simp at h1 h2
    subst h1 h2
    exact h.1
  | a :: b :: r, h, i + 1, x, y, h1, h2 => by
    rw [chain, Bool.and_eq_true] at h
    exact of_chain (b :: r) h.2 i x y (by simpa using h1) (by simpa using h2)
theorem right_iff (l : List Pn) : right l = true ↔ l.length ≤ 2000 ∧ (∀ x ∈ l, may x = true) ∧ Ord l := by
  unfold right
  rw [Bool.and_eq_true, Bool.and_eq_true, chain_iff, decide_eq_true_eq, List.all_eq_true, and_assoc]
theorem right_of_to {l : List Pn} (hl : l.length ≤ 2000) (h : rightTo l l.length) : right l = true := by
  unfold right
  rw [Bool.and_eq_true, Bool.and_eq_true, decide_eq_true_eq, List.all_eq_true]
  refine ⟨⟨hl, fun x hx => ?_⟩, chain_of l fun i x y h1 h2 => ?_⟩
  · obtain ⟨i, hi, rfl⟩ := List.getElem_of_mem hx
    exact (h i _ hi (List.getElem?_eq_getElem hi)).1
  · exact (h (i + 1) y (List.getElem?_eq_some_iff.1 h2).1 h2).2 i x rfl h1
theorem to_of_right {l : List Pn} (h : right l = true) (k : Nat) : rightTo l k := by
  unfold right at h
  rw [Bool.and_eq_true, Bool.and_eq_true, decide_eq_true_eq, List.all_eq_true] at h
  intro i x _ hx
  refine ⟨h.1.2 x (List.mem_of_getElem? hx), fun j y e hy => ?_⟩
  subst e
  exact of_chain l h.2 j y x hy hx
theorem not_right {l : List Pn} {k : Nat} {x : Pn} (hk : l[k]? = some x) (h : may x = false ∨ ∃ j y, k = j + 1 ∧ l[j]? = some y ∧ ahead y.p x.p = false) : right l = false := by
  cases hr : right l with
  | false => rfl
  | true =>
    have h1 := to_of_right hr (k + 1) k x (by omega) hk
    rcases h with h | ⟨j, y, e, hy, h⟩
    · rw [h1.1] at h; cases h
    · rw [h1.2 j y e hy] at h; cases h
theorem to_next {l : List Pn} {k : Nat} {x : Pn} (hk : l[k]? = some x) (h : rightTo l k) (hm : may x = true) (ha : ∀ j y, k = j + 1 → l[j]? = some y → ahead y.p x.p = true) : rightTo l (k + 1) := by
  intro i y hi hy
  by_cases e : i = k
  · subst e
    rw [hk] at hy; cases hy
    exact ⟨hm, ha⟩
  · exact h i y (by omega) hy
end Pan
end Go.Proofs.Ytipmphkmeiogoaa
/- Right, of package pane. -/
namespace Go.Proofs.Ytipmphkmeiogoaa
open Go.RowKit
open Pan
set_option linter.unusedVariables false
set_option maxRecDepth 8000
theorem paValidB (x : Pn) (w : World) : Calls Try.prog 76 #[paV x] w (TellsB (may x) w) :=
  (paValid x w).mono fun e w' ⟨h1, h2⟩ => ⟨h1, by rw [h2]; exact below_al (Below.refl _ _)⟩
def At1 (w0 : World) (b : Nat) (x : Pn) (w : World) : Prop := PnAt w b 0 x ∧ Below w0.heap.size w0 w
def At2 (w0 : World) (b : Nat) (x : Pn) (b2 o2 : Nat) (y : Pn) (w : World) : Prop := PnAt w b 0 x ∧ PnAt w b2 o2 y ∧ Below w0.heap.size w0 w
theorem At1.next {w0 a c : World} {b : Nat} {x : Pn} (h : At1 w0 b x a) (hb : Below a.heap.size a c) : At1 w0 b x c := ⟨h.1.below hb, below_next h.2 hb⟩
theorem At2.next {w0 a c : World} {b : Nat} {x : Pn} {b2 o2 : Nat} {y : Pn} (h : At2 w0 b x b2 o2 y a) (hb : Below a.heap.size a c) : At2 w0 b x b2 o2 y c := ⟨h.1.below hb, h.2.1.below hb, below_next h.2.2 hb⟩
theorem new_pn (w : World) (x : Pn) (T : TypeId) : PnAt (w.alloc (.cells (paC x) T)) w.heap.size 0 x := .of_lies (Lies.new w _ _)
theorem wrap64_in {n : Int} (h1 : -9223372036854775808 ≤ n) (h2 : n ≤ 9223372036854775807) : IntKind.i64.wrap n = n := IntWalk.i64_in _ ⟨h1, h2⟩
set_option maxRecDepth 100000 in
set_option maxHeartbeats 2000000 in
theorem paRight (xs : List Pn) (A : Option Addr) (c : Nat) (w : World) (hA : Row w A (pc xs)) (hl : xs.length ≤ 9223372036854775807) : Calls Try.prog 52 #[.slice A xs.length c] w (TellsB (right xs) w) := by
  by_cases hs : xs.length ≤ 2000
  · have HA := Lib.hid hA
    obtain ⟨r, hr⟩ : ∃ r, r = right xs := ⟨_, rfl⟩
    have HT : Hid (rightTo xs xs.length → r = true) := Lib.hid fun h => hr.trans (right_of_to hs h)
    have HF : Hid (∀ k x, xs[k]? = some x → may x = false ∨ (∃ j y, k = j + 1 ∧ xs[j]? = some y ∧ Pan.ahead y.p x.p = false) → r = false) := Lib.hid fun k x h1 h2 => hr.trans (not_right h1 h2)
    rw [← hr]
    clear hA hr
    go_enter Try.func52, Try.ntmps52
    go_wp2_with fail
    go_loopw [10] (fun i wr => ∃ k : Nat, i = .int .i64 k ∧ k ≤ xs.length ∧ rightTo xs k ∧ Below w.heap.size w wr) (fun i _ => xs.length - (intOf i).toNat)
    case atStart => exact ⟨0, rfl, Nat.zero_le _, fun i x h => by omega, Below.refl _ _⟩
    case round =>
      obtain ⟨k, rfl, hk, hto, hb⟩ := hrel
      have HB := Lib.hid hb
      have HTO := Lib.hid hto
      clear hb hto
      by_cases hlt : k < xs.length
      · obtain ⟨x, hx⟩ : ∃ x, xs[k]? = some x := ⟨_, List.getElem?_eq_getElem hlt⟩
        obtain ⟨b, off, rfl, c0, c1, c2, c3, c4, c5⟩ := (HA.out.below HB.out).pn hx
        have HX := Lib.hid hx
        clear hx
        go_wp2_with fail
        have W0 := Lib.hid (show At1 w wr.heap.size x (wr.alloc (.cells (paC x) 82)).drew from ⟨(new_pn _ _ _).drew, below_drewOf (below_next HB.out (below_al (Below.refl _ _)))⟩)
        have HV := Lib.hid (fun w => paValidB x w)
        by_cases hm : may x = true
        · rw [hm] at HV
          rcases k with _ | j
          · refine wide_all (At1 w wr.heap.size x) (by kernel_rfl) (by kernel_rfl) W0.out ?_
            repeat (first
            | go_big_quiet_skip
            | (go_big_quiet_want
               apply wide_op
               · (intro w5 h5; obtain ⟨⟨c0,c1,c2,c3,c4,c5⟩,hB5⟩ := id h5; go_simp; first | done | with_reducible rfl | ((refine (HV.out _).mono ?_; rintro e w6 ⟨rfl, hb6⟩; exact ⟨rfl, h5.next hb6⟩)))
               (try simp only [Act.put, List.setIfInBounds_toArray, List.set_cons_zero, List.set_cons_succ])
               go_big_quiet_on))
            refine wpQuiet_nil ?_
            intro w6 h6
            have H6 := Lib.hid h6
            clear h6
            go_wp2_with fail
            go_roundw
            case rel => exact ⟨1, rfl, by omega, to_next HX.out HTO.out hm fun j y e _ => by omega, H6.out.2⟩
            case measure => simp [intOf]; omega
          · obtain ⟨y, hy⟩ : ∃ y, xs[j]? = some y := ⟨_, List.getElem?_eq_getElem (by omega)⟩
            obtain ⟨b', off', e, hY⟩ := (HA.out.below HB.out).pn hy
            cases e
            have W2 := Lib.hid (show At2 w wr.heap.size x b (off + j * 6) y (wr.alloc (.cells (paC x) 82)).drew from ⟨W0.out.1, (hY.below (below_al (Below.refl _ _))).drew, W0.out.2⟩)
            have HY := Lib.hid hy
            have HO := Lib.hid (fun w => paOrder y x w)
            have e1 : IntKind.i64.wrap (j : Int) = (j : Int) := wrap64_in (by omega) (by omega)
            have e2 : (0 : Int) ≤ j := by omega
            have e3 : (j : Int) < xs.length := by omega
            clear hy hY
            by_cases ha : Pan.ahead y.p x.p = true
            · have hd : decide (0 ≤ ordN y.p x.p) = false := by have := (ordN_lt y.p x.p).2 ha; simp; omega
              have HAH := Lib.hid ha
              clear ha
              refine wide_all (At2 w wr.heap.size x b (off + j * 6) y) (by kernel_rfl) (by kernel_rfl) W2.out ?_
              repeat (first
                | go_big_quiet_skip
                | (go_big_quiet_want
                   apply wide_op
                   · (intro w5 h5; obtain ⟨⟨c0,c1,c2,c3,c4,c5⟩,⟨d0,d1,d2,d3,d4,d5⟩,hB5⟩ := id h5; go_simp; first | done | with_reducible rfl | ((refine (HV.out _).mono ?_; rintro e w6 ⟨rfl, hb6⟩; exact ⟨rfl, h5.next hb6⟩)) | ((refine (HO.out _).mono ?_; rintro e w6 ⟨rfl, hb6⟩; exact ⟨rfl, h5.next hb6⟩)))
                   (try simp only [Act.put, List.setIfInBounds_toArray, List.set_cons_zero, List.set_cons_succ])
                   go_big_quiet_on))
              refine wpQuiet_nil ?_
              intro w6 h6
              have H6 := Lib.hid h6
              clear h6
              go_wp2_with fail
              go_roundw
              case rel => exact ⟨j + 2, by go_num, by omega, to_next HX.out HTO.out hm fun j' y' e h => by cases e; rw [HY.out] at h; cases h; exact HAH.out, H6.out.2.2⟩
              case measure => simp [intOf]; omega
            · have ha' : Pan.ahead y.p x.p = false := by simpa using ha
              have hd : decide (0 ≤ ordN y.p x.p) = true := by
                have := mt (ordN_lt y.p x.p).1 ha; simp; omega
              have hr := Lib.hid (HF.out (j + 1) x HX.out (.inr ⟨j, y, rfl, HY.out, ha'⟩))
              clear ha ha'
              refine wide_all (At2 w wr.heap.size x b (off + j * 6) y) (by kernel_rfl) (by kernel_rfl) W2.out ?_
              repeat (first
                | go_big_quiet_skip
                | (go_big_quiet_want
                   apply wide_op
                   · (intro w5 h5; obtain ⟨⟨c0,c1,c2,c3,c4,c5⟩,⟨d0,d1,d2,d3,d4,d5⟩,hB5⟩ := id h5; go_simp; first | done | with_reducible rfl | ((refine (HV.out _).mono ?_; rintro e w6 ⟨rfl, hb6⟩; exact ⟨rfl, h5.next hb6⟩)) | ((refine (HO.out _).mono ?_; rintro e w6 ⟨rfl, hb6⟩; exact ⟨rfl, h5.next hb6⟩)))
                   (try simp only [Act.put, List.setIfInBounds_toArray, List.set_cons_zero, List.set_cons_succ])
                   go_big_quiet_on))
              refine wpQuiet_nil ?_
              intro w6 h6
              have H6 := Lib.hid h6
              clear h6
              go_wp2_with fail
              go_ret
              exact ⟨by rw [hr.out]; rfl, H6.out.2.2⟩
        · have hm' : may x = false := by simpa using hm
          rw [hm'] at HV
          have hr := Lib.hid (HF.out k x HX.out (.inl hm'))
          clear hm hm'
          refine wide_all (At1 w wr.heap.size x) (by kernel_rfl) (by kernel_rfl) W0.out ?_
          repeat (first
            | go_big_quiet_skip
            | (go_big_quiet_want
               apply wide_op
               · (intro w5 h5; obtain ⟨⟨c0,c1,c2,c3,c4,c5⟩,hB5⟩ := id h5; go_simp; first | done | with_reducible rfl | ((refine (HV.out _).mono ?_; rintro e w6 ⟨rfl, hb6⟩; exact ⟨rfl, h5.next hb6⟩)))
               (try simp only [Act.put, List.setIfInBounds_toArray, List.set_cons_zero, List.set_cons_succ])
               go_big_quiet_on))
          refine wpQuiet_nil ?_
          intro w6 h6
          have H6 := Lib.hid h6
          clear h6
          go_wp2_with fail
          go_ret
          exact ⟨by rw [hr.out]; rfl, H6.out.2⟩
      · have hge : xs.length ≤ k := by omega
        have hr := Lib.hid (HT.out (by rw [show xs.length = k by omega]; exact HTO.out))
        go_wp2_with fail
        go_ret
        exact ⟨by rw [hr.out]; rfl, HB.out⟩
  · have H : Hid (right xs = false) := Lib.hid (by unfold right; rw [decide_eq_false hs]; rfl)
    have hs2 : (2000 : Int) < xs.length := by omega
    clear hs hA
    go_enter Try.func52, Try.ntmps52
    go_wp2_with fail
    go_ret
    exact ⟨by rw [H.out]; rfl, Below.refl _ _⟩
end Go.Proofs.Ytipmphkmeiogoaa
