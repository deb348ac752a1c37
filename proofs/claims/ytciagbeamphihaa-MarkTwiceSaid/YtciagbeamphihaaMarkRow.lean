/- Rows of inputs and of holds; marks as values. -/
import Derived.Test.YtciagbeamphihaaMarkMath
import Derived.Test.YtciagbeamphihaaMem
import Derived.Deep.Cut
namespace Go.Proofs.Ytciagbeamphihaa
open Go.RowKit
set_option linter.unusedVariables false
set_option maxRecDepth 8000
namespace Wm
theorem fl_len {α : Type} (f : α → List Value) {n : Nat} (hf : ∀ x, (f x).length = n) (xs : List α) : (xs.flatMap f).length = xs.length * n := by
  induction xs with
  | nil => simp
  | cons x r ih => rw [List.flatMap_cons, List.length_append, ih, hf, List.length_cons, Nat.add_mul]; omega
theorem fl_get {α : Type} (f : α → List Value) {n : Nat} (hf : ∀ x, (f x).length = n) : ∀ {xs : List α} {i j : Nat} {x : α}, xs[i]? = some x → j < n → (xs.flatMap f)[i * n + j]? = (f x)[j]?
  | [], _, _, _, h, _ => by simp at h
  | y :: r, 0, j, x, h, hj => by
    simp only [List.getElem?_cons_zero, Option.some.injEq] at h
    subst h
    rw [List.flatMap_cons, Nat.zero_mul, Nat.zero_add, List.getElem?_append_left (by rw [hf]; exact hj)]
  | y :: r, i + 1, j, x, h, hj => by
    rw [List.getElem?_cons_succ] at h
    rw [List.flatMap_cons, List.getElem?_append_right (by rw [hf, Nat.add_mul]; omega), hf, show (i + 1) * n + j - n = i * n + j by rw [Nat.add_mul]; omega]
    exact fl_get f hf h hj
def iL (x : In) : List Value := [.int .i64 x.mark, .bool x.idle]
def hL (x : Ho) : List Value := [.int .i64 x.no, .int .i64 x.at_]
def ic (xs : List In) : List Value := xs.flatMap iL
def hc (xs : List Ho) : List Value := xs.flatMap hL
abbrev inC (x : In) : Array Value := #[.int .i64 x.mark, .bool x.idle]
abbrev hoC (x : Ho) : Array Value := #[.int .i64 x.no, .int .i64 x.at_]
abbrev inV (x : In) : Value := .agg #[.int .i64 x.mark, .bool x.idle]
abbrev hoV (x : Ho) : Value := .agg #[.int .i64 x.no, .int .i64 x.at_]
theorem ic_len (xs : List In) : (ic xs).length = xs.length * 2 := fl_len iL (fun _ => rfl) xs
theorem hc_len (xs : List Ho) : (hc xs).length = xs.length * 2 := fl_len hL (fun _ => rfl) xs
theorem ic_app (xs ys : List In) : ic (xs ++ ys) = ic xs ++ ic ys := by simp [ic]
theorem hc_app (xs ys : List Ho) : hc (xs ++ ys) = hc xs ++ hc ys := by simp [hc]
theorem ic_one (x : In) : ic [x] = iL x := by simp [ic]
theorem hc_one (x : Ho) : hc [x] = hL x := by simp [hc]
theorem ic_ones (xs : List In) : ∀ u ∈ ic xs, u.oneCell' = true := by
  intro u hu
  obtain ⟨p, _, hp⟩ := List.mem_flatMap.1 hu
  simp only [iL, List.mem_cons, List.not_mem_nil, or_false] at hp
  rcases hp with rfl | rfl <;> rfl
theorem hc_ones (xs : List Ho) : ∀ u ∈ hc xs, u.oneCell' = true := by
  intro u hu
  obtain ⟨p, _, hp⟩ := List.mem_flatMap.1 hu
  simp only [hL, List.mem_cons, List.not_mem_nil, or_false] at hp
  rcases hp with rfl | rfl <;> rfl
theorem row_in {w : World} {A : Option Addr} {xs : List In} (h : Row w A (ic xs)) {k : Nat} {x : In} (hk : xs[k]? = some x) :
    ∃ b off, A = some ⟨b, off, none⟩ ∧ w.cell? ⟨b, off + k * 2, none⟩ = some (.int .i64 x.mark) ∧ w.cell? ⟨b, off + k * 2 + 1, none⟩ = some (.bool x.idle) := by
  have g : ∀ j, j < 2 → (ic xs)[k * 2 + j]? = (iL x)[j]? := fun j hj => fl_get iL (fun _ => rfl) hk hj
  have g0 := g 0 (by omega); have g1 := g 1 (by omega)
  rcases h with h | ⟨b, off, rfl, h⟩
  · rw [h] at g0; simp [iL] at g0
  · refine ⟨b, off, rfl, ?_, ?_⟩
    · exact h _ _ g0
    · rw [Nat.add_assoc]; exact h _ _ g1
theorem row_ho {w : World} {A : Option Addr} {xs : List Ho} (h : Row w A (hc xs)) {k : Nat} {x : Ho} (hk : xs[k]? = some x) :
    ∃ b off, A = some ⟨b, off, none⟩ ∧ w.cell? ⟨b, off + k * 2, none⟩ = some (.int .i64 x.no) ∧ w.cell? ⟨b, off + k * 2 + 1, none⟩ = some (.int .i64 x.at_) := by
  have g : ∀ j, j < 2 → (hc xs)[k * 2 + j]? = (hL x)[j]? := fun j hj => fl_get hL (fun _ => rfl) hk hj
  have g0 := g 0 (by omega); have g1 := g 1 (by omega)
  rcases h with h | ⟨b, off, rfl, h⟩
  · rw [h] at g0; simp [hL] at g0
  · refine ⟨b, off, rfl, ?_, ?_⟩
    · exact h _ _ g0
    · rw [Nat.add_assoc]; exact h _ _ g1
/-- Marks as a value; what their slices hold. -/
abbrev mkC (a b : Value) (out : Int) : Array Value := #[a, b, .int .i64 out]
abbrev mkV (a b : Value) (out : Int) : Value := .agg #[a, b, .int .i64 out]
abbrev mv (m : Mk) (A : Option Addr) (c : Nat) (B : Option Addr) (d : Nat) : Value := mkV (.slice A m.ins.length c) (.slice B m.holds.length d) m.out
structure Has (m : Mk) (A : Option Addr) (c : Nat) (B : Option Addr) (d : Nat) (w : World) : Prop where
  ri : Row w A (ic m.ins)
  rh : Row w B (hc m.holds)
  l1 : m.ins.length ≤ c
  l2 : c ≤ maxLen
  l3 : m.holds.length ≤ d
  l4 : d ≤ maxLen
theorem Has.next {m : Mk} {A : Option Addr} {c : Nat} {B : Option Addr} {d : Nat} {w w' : World} (h : Has m A c B d w) (hb : Below w.heap.size w w') : Has m A c B d w' :=
  ⟨h.ri.below hb, h.rh.below hb, h.l1, h.l2, h.l3, h.l4⟩
theorem Has.zero (w : World) : Has none_ none 0 none 0 w := ⟨Row.nil, Row.nil, Nat.le_refl _, by simp [maxLen], Nat.le_refl _, by simp [maxLen]⟩
theorem Has.len {m : Mk} {A : Option Addr} {c : Nat} {B : Option Addr} {d : Nat} {w : World} (h : Has m A c B d w) : m.ins.length ≤ 9223372036854775807 ∧ m.holds.length ≤ 9223372036854775807 := by
  obtain ⟨_, _, h1, h2, h3, h4⟩ := h
  unfold maxLen at h2 h4
  omega
def TellsB (b : Bool) (w : World) (e : Ending) (w' : World) : Prop := e = .returned (.bool b) ∧ Below w.heap.size w w'
def TellsI (n : Int) (w : World) (e : Ending) (w' : World) : Prop := e = .returned (.int .i64 n) ∧ Below w.heap.size w w'
/-- Hands back marks and an error. -/
def GivesM (o : Mk × Nat) (w : World) (e : Ending) (w' : World) : Prop := ∃ A c B d, e = .returned (.tuple #[mv o.1 A c B d, .int .i64 (o.2 : Nat)]) ∧ Has o.1 A c B d w' ∧ Below w.heap.size w w'
/-- Hands back marks, a time, whether it is later. -/
def GivesT (o : Mk × Int × Bool) (w : World) (e : Ending) (w' : World) : Prop := ∃ A c B d, e = .returned (.tuple #[mv o.1 A c B d, .int .i64 o.2.1, .bool o.2.2]) ∧ Has o.1 A c B d w' ∧ Below w.heap.size w w'
theorem wrap64_in {n : Int} (h1 : -9223372036854775808 ≤ n) (h2 : n ≤ 9223372036854775807) : IntKind.i64.wrap n = n := by
  simp [IntKind.wrap, IntKind.bits, IntKind.signed]; omega
theorem al_below (w : World) (o : Obj) : Below w.heap.size w (w.alloc o) := below_al (Below.refl _ _)
theorem own_up {w w' : World} {B size n : Nat} {e : TypeId} {v : Value} {xs : List Value} (h : w.ownsRow B e size v n xs) (hb : Below w.heap.size w w') : w'.ownsRow B e size v n xs := by
  obtain ⟨hl, ⟨rfl, rfl⟩ | ⟨g, cap, cur, rfl, hg, hh, hn, hm, hc, hx⟩⟩ := h
  · exact ⟨hl, .inl ⟨rfl, rfl⟩⟩
  · exact ⟨hl, .inr ⟨g, cap, cur, rfl, hg, (hb.block g (Array.getElem?_eq_some_iff.1 hh).1).trans hh, hn, hm, hc, hx⟩⟩
end Wm
end Go.Proofs.Ytciagbeamphihaa
