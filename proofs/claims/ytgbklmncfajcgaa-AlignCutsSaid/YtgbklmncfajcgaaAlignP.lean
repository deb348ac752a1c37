/- Arguments of the laws: aligners, items. -/
import Derived.Test.YtgbklmncfajcgaaAlignT
import Derived.Test.YtgbklmncfajcgaaItemOpen
import Derived.Carry
import Derived.OpenShut
namespace Go.Proofs.Ytgbklmncfajcgaa
open Go.ChangeShapes Go.WideShapes Go.ChangeAt Go.RowKit
set_option linter.unusedVariables false
set_option maxRecDepth 8000
namespace Aln
open Gen (TellsB row_one flat_len flat_get)
open Itm
theorem acells_bool : Try.prog.cellsOf 4 = 1 := by kernel_rfl
theorem acells_its : Try.prog.cellsOf 30 = 1 := by kernel_rfl
theorem acells_bs : Try.prog.cellsOf 22 = 1 := by kernel_rfl
theorem acells_hs : Try.prog.cellsOf 23 = 1 := by kernel_rfl
theorem acells_al : Try.prog.cellsOf 25 = 3 := by kernel_rfl
section
variable {H : Type} {enc : TypeId × Value → H} {w : World} {base : Nat} {spare : Nat → Bool} {held : Bool}
theorem lone_boolA {fuel : Nat} {c : Value} {x : DataW H × List MemPlace} (h : DataW.trod enc Try.prog w base spare held fuel 4 [c] = some x) : ∃ b : Bool, c = .bool b := by
  obtain ⟨b, h1, _⟩ := DataW.trod_bool Try.underlying4 h
  exact ⟨b, by simpa using h1⟩
theorem lone_it {fuel : Nat} {cs : List Value} {x : DataW H × List MemPlace} (hl : cs.length = 11) (hf : DataW.trod enc Try.prog w base spare held fuel 42 cs = some x) : ∃ a : It, cs = itL a := by
  match cs, hl with
  | [c0, c1, c2, c3, c4, c5, c6, c7, c8, c9, c10], _ =>
    obtain ⟨xs, n, _, _, _, hlen, hg⟩ := DataW.trod_struct Try.underlying42 hf
    have hl : xs.length = 5 := hlen
    match xs, hl with
    | [y0, y1, y2, y3, y4], _ =>
      obtain ⟨k, rfl, _⟩ := one_int' (x := y0) (by simpa [cells_int] using hg 0 _ rfl)
      obtain ⟨ek, ea, ev, rfl, rfl, rfl, e1, e2⟩ := trod_ev (x := y1) (by simpa [cells_ev] using hg 1 _ rfl)
      obtain ⟨m, rfl, _⟩ := one_int (x := y2) (by simpa [cells_i64] using hg 2 _ rfl)
      obtain ⟨n, rfl, _⟩ := one_int' (x := y3) (by simpa [cells_int] using hg 3 _ rfl)
      obtain ⟨lo, hi, rk, rn, rv, rfl, rfl, rfl, rfl, rfl, r1, r2⟩ := trod_res (x := y4) (by simpa [cells_res] using hg 4 _ rfl)
      exact ⟨⟨k, ek, ea, ev, m, n, lo, hi, rk, rn, rv⟩, rfl⟩
/-- A row of things of n cells that came in, as it is found in a cell. -/
theorem openRowA {α : Type} [Inhabited α] {P : Program} {t e : TypeId} {n : Nat} {f : α → List Value} {fuel : Nat} {c0 : Value} {x : DataW H × List MemPlace} (ht : P.underlying t = some (.slice e)) (hc : P.cellsOf e = n) (h0 : 0 < n) (hf : ∀ x, (f x).length = n)
    (hone : ∀ (fuel : Nat) (cs : List Value) (x : DataW H × List MemPlace), cs.length = n → DataW.trod enc P w base spare held fuel e cs = some x → ∃ p : α, cs = f p)
    (hfu : DataW.trod enc P w base spare held fuel t [c0] = some x) :
    ∃ (A : Option Addr) (c : Nat) (xs : List α), c0 = .slice A xs.length c ∧ xs.length ≤ c ∧ c ≤ maxLen ∧ Row w A (xs.flatMap f) := by
  rcases Deep.open_slice ht hfu with ⟨h1, h2⟩ | ⟨a, len, cap, m, k, D, Pl, h1, hb, hl, hm, hmm, h2, hx⟩
  · simp only [List.cons.injEq, and_true] at h1
    subst h1
    exact ⟨none, 0, [], rfl, Nat.le_refl _, by simp [maxLen], .inl rfl⟩
  · simp only [List.cons.injEq, and_true] at h1
    subst h1
    have hlm : len ≤ m := by rw [hmm]; split <;> omega
    have each : ∀ i, i < m → ∃ q : α, ∀ j u, (f q)[j]? = some u → w.cell? ((a.add (i * n)).add j) = some u := by
      intro i hi
      obtain ⟨cs', g1, g2⟩ := hx i hi
      rw [hc] at g1
      obtain ⟨_, hlen, hcell⟩ := World.cells?_some g1
      obtain ⟨q, rfl⟩ := hone _ _ _ hlen g2
      refine ⟨q, fun j u hu => ?_⟩
      have hj : j < n := by rw [← hf q]; exact (List.getElem?_eq_some_iff.1 hu).1
      have := hcell j hj
      rw [this]
      simpa using hu
    obtain ⟨q, hq⟩ := Deep.choose_lt each
    obtain ⟨xs, hxs⟩ : ∃ xs : List α, xs = (List.range len).map q := ⟨_, rfl⟩
    have hlx : xs.length = len := by rw [hxs]; simp
    refine ⟨some a, cap, xs, by rw [hlx], by rw [hlx]; exact hl, hm, ?_⟩
    rcases Nat.eq_zero_or_pos len with hz | hz
    · subst hz; rw [List.eq_nil_of_length_eq_zero hlx]; exact .inl rfl
    · obtain ⟨b, off, spot⟩ := a
      have hspot : spot = none := by
        have hfl := hf (q 0)
        obtain ⟨u, hu⟩ : ∃ u, (f (q 0))[0]? = some u := ⟨_, List.getElem?_eq_getElem (by omega)⟩
        have g := hq 0 (by omega) 0 u hu
        have g2 : w.cell? (⟨b, off, spot⟩ : Addr) = some u := by simpa [Addr.add] using g
        simpa using World.cell?_spot g2
      subst hspot
      refine .inr ⟨b, off, rfl, fun j u hu => ?_⟩
      have hj : j < len * n := by
        have := (List.getElem?_eq_some_iff.1 hu).1
        rwa [flat_len f hf, hlx] at this
      have hdiv : j / n < len := Nat.div_lt_of_lt_mul (by rwa [Nat.mul_comm] at hj)
      have hmod : j % n < n := Nat.mod_lt _ h0
      have hsum : j / n * n + j % n = j := by rw [Nat.mul_comm]; exact Nat.div_add_mod j n
      have hget : xs[j / n]? = some (q (j / n)) := by rw [hxs]; simp [hdiv]
      have := flat_get f hf hget hmod
      rw [hsum, hu] at this
      have g := hq (j / n) (by omega) (j % n) u this.symm
      rw [Go.WideShapes.add_plain, Go.WideShapes.add_plain] at g
      rw [← hsum, ← Nat.add_assoc]
      exact g
theorem openItemsA {fuel : Nat} {c0 : Value} {x : DataW H × List MemPlace} (h : DataW.trod enc Try.prog w base spare held fuel 30 [c0] = some x) :
    ∃ (A : Option Addr) (c : Nat) (xs : List It), c0 = .slice A xs.length c ∧ xs.length ≤ c ∧ c ≤ maxLen ∧ Row w A (itc xs) :=
  openRowA (f := itL) Try.underlying30 cells_it (by omega) itL_len (fun fuel cs x hl hx => lone_it hl hx) h
theorem openBoolsA {fuel : Nat} {c0 : Value} {x : DataW H × List MemPlace} (h : DataW.trod enc Try.prog w base spare held fuel 22 [c0] = some x) :
    ∃ (A : Option Addr) (c : Nat) (xs : List Bool), c0 = .slice A xs.length c ∧ xs.length ≤ c ∧ c ≤ maxLen ∧ Row w A (gcs xs) :=
  openRowA (f := gL) Try.underlying22 acells_bool (by omega) gL_len (fun fuel cs x hl hx => by
    match cs, hl with
    | [c0], _ =>
      obtain ⟨b, rfl⟩ := lone_boolA hx
      exact ⟨b, rfl⟩) h
/-- A row of items as it lies in memory. -/
def HdAt (w : World) : Type := { p : Hd // Row w p.1 (itc p.2.2) ∧ p.2.2.length ≤ p.2.1 ∧ p.2.1 ≤ maxLen }
instance : Inhabited (HdAt w) := ⟨⟨(none, 0, []), .inl rfl, Nat.le_refl _, Nat.zero_le _⟩⟩
def hdL (t : HdAt w) : List Value := hsL t.1
theorem hdL_len (t : HdAt w) : (hdL t).length = 1 := rfl
theorem hdL_flat (l : List (HdAt w)) : l.flatMap hdL = hsc (l.map (·.1)) := by
  induction l with
  | nil => rfl
  | cons a r ih => rw [List.flatMap_cons, ih]; rfl
theorem openHeldA {fuel : Nat} {c0 : Value} {x : DataW H × List MemPlace} (h : DataW.trod enc Try.prog w base spare held fuel 23 [c0] = some x) :
    ∃ (A : Option Addr) (c : Nat) (hs : List Hd), c0 = .slice A hs.length c ∧ hs.length ≤ c ∧ c ≤ maxLen ∧ HAt w A hs ∧ ∀ x ∈ hs, x.2.2.length ≤ x.2.1 ∧ x.2.1 ≤ maxLen := by
  obtain ⟨A, c, xs, h1, h2, h3, h4⟩ := openRowA (f := hdL) Try.underlying23 acells_its (by omega) hdL_len (fun fuel cs x hl hx => by
    match cs, hl with
    | [c0], _ =>
      obtain ⟨B, d, l, rfl, g1, g2, g3⟩ := openItemsA hx
      exact ⟨⟨(B, d, l), g3, g1, g2⟩, rfl⟩) h
  refine ⟨A, c, xs.map (·.1), by rw [List.length_map]; exact h1, by rw [List.length_map]; exact h2, h3, ⟨by rw [← hdL_flat]; exact h4, fun x hx => ?_⟩, fun x hx => ?_⟩
  · obtain ⟨y, _, rfl⟩ := List.mem_map.1 hx
    exact y.2.1
  · obtain ⟨y, _, rfl⟩ := List.mem_map.1 hx
    exact y.2.2
theorem openAligner {v : Value} {d : DataW H} {p : List MemPlace} {r : Reach} {b0 : Nat} (hval : Value.okWide Try.prog w r b0 25 v) (h : DataW.Trod enc Try.prog w base spare held 25 v d p) :
    ∃ (n : Int) (gs : List Bool) (hs : List Hd) (G : Option Addr) (cG : Nat) (A : Option Addr) (cA : Nat), v = alV n G gs.length cG A hs.length cA ∧ gs.length ≤ cG ∧ hs.length ≤ cA ∧ cG ≤ maxLen ∧ cA ≤ maxLen ∧ Row w G (gcs gs) ∧ HAt w A hs ∧ ∀ x ∈ hs, x.2.2.length ≤ x.2.1 ∧ x.2.1 ≤ maxLen := by
  obtain ⟨cs, rfl, hsz⟩ := okWide_struct Try.underlying25 hval
  obtain ⟨l⟩ := cs
  match l, hsz.trans acells_al with
  | [c0, c1, c2], _ =>
    obtain ⟨fuel, hf⟩ := h
    have h : DataW.trod enc Try.prog w base spare held fuel 25 [c0, c1, c2] = some (d, p) := by simpa [Value.cells] using hf
    obtain ⟨xs, n, _, _, _, hlen, hg⟩ := DataW.trod_struct Try.underlying25 h
    have hl : xs.length = 3 := hlen
    match xs, hl with
    | [y0, y1, y2], _ =>
      obtain ⟨z, rfl, _⟩ := one_int' (x := y0) (by simpa [cells_int, acells_bs] using hg 0 _ rfl)
      obtain ⟨G, cG, gs, rfl, g1, g2, g3⟩ := openBoolsA (x := y1) (by simpa [cells_int, acells_bs, acells_hs] using hg 1 _ rfl)
      obtain ⟨A, cA, hs, rfl, h1, h2, h3, h4⟩ := openHeldA (x := y2) (by simpa [cells_int, acells_bs, acells_hs] using hg 2 _ rfl)
      exact ⟨z, gs, hs, G, cG, A, cA, rfl, g1, h1, g2, h2, g3, h3, h4⟩
end
end Aln
end Go.Proofs.Ytgbklmncfajcgaa
