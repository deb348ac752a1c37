/- Panes that came in. -/
import Derived.Test.YtklpfifellghlaaPaneRow
import Derived.Deep.Slices
import Derived.Deep.SlicePairs
import Derived.OpenShut
namespace Go.Proofs.Ytklpfifellghlaa
open Go.ChangeShapes Go.WideShapes Go.ChangeAt Go.RowKit
open Pan
set_option linter.unusedVariables false
section
variable {H : Type} {enc : TypeId × Value → H} {w : World} {base : Nat} {spare : Nat → Bool} {held : Bool}
theorem pcells_str : Try.prog.cellsOf 9 = 1 := by kernel_rfl
theorem pcells_i64 : Try.prog.cellsOf 2 = 1 := by kernel_rfl
theorem pcells_win : Try.prog.cellsOf 24 = 2 := by kernel_rfl
theorem pcells_acc : Try.prog.cellsOf 50 = 3 := by kernel_rfl
theorem pcells_pn : Try.prog.cellsOf 52 = 6 := by kernel_rfl
theorem pone_int {fuel : Nat} {c : Value} {x : DataW H × List MemPlace} (h : DataW.trod enc Try.prog w base spare held fuel 2 [c] = some x) : ∃ z : Int, c = .int .i64 z := by
  obtain ⟨z, h1, _, h3⟩ := DataW.trod_int Try.underlying2 h
  exact ⟨z, by simpa using h1⟩
theorem pone_str {fuel : Nat} {c : Value} {x : DataW H × List MemPlace} (h : DataW.trod enc Try.prog w base spare held fuel 9 [c] = some x) : ∃ s : List UInt8, c = .string (kS s) := by
  obtain ⟨s, h1, _, h3⟩ := DataW.trod_string Try.underlying9 h
  exact ⟨s.toList, by rw [kS_of]; simpa using h1⟩
theorem ptrod_win {fuel : Nat} {c0 c1 : Value} {x : DataW H × List MemPlace} (h : DataW.trod enc Try.prog w base spare held fuel 24 [c0, c1] = some x) : ∃ (a v : Int), c0 = .int .i64 a ∧ c1 = .int .i64 v := by
  obtain ⟨xs, n, _, _, _, hlen, hg⟩ := DataW.trod_struct Try.underlying24 h
  have hl : xs.length = 2 := hlen
  match xs, hl with
  | [y0, y1], _ =>
    obtain ⟨a, rfl⟩ := pone_int (x := y0) (by simpa [pcells_i64] using hg 0 _ rfl)
    obtain ⟨v, rfl⟩ := pone_int (x := y1) (by simpa [pcells_i64] using hg 1 _ rfl)
    exact ⟨a, v, rfl, rfl⟩
theorem ptrod_acc {fuel : Nat} {c0 c1 c2 : Value} {x : DataW H × List MemPlace} (h : DataW.trod enc Try.prog w base spare held fuel 50 [c0, c1, c2] = some x) : ∃ (n a b : Int), c0 = .int .i64 n ∧ c1 = .int .i64 a ∧ c2 = .int .i64 b := by
  obtain ⟨xs, n, _, _, _, hlen, hg⟩ := DataW.trod_struct Try.underlying50 h
  have hl : xs.length = 3 := hlen
  match xs, hl with
  | [y0, y1, y2], _ =>
    obtain ⟨n, rfl⟩ := pone_int (x := y0) (by simpa [pcells_i64] using hg 0 _ rfl)
    obtain ⟨a, rfl⟩ := pone_int (x := y1) (by simpa [pcells_i64] using hg 1 _ rfl)
    obtain ⟨b, rfl⟩ := pone_int (x := y2) (by simpa [pcells_i64] using hg 2 _ rfl)
    exact ⟨n, a, b, rfl, rfl, rfl⟩
theorem ptrod_pn {fuel : Nat} {c0 c1 c2 c3 c4 c5 : Value} {x : DataW H × List MemPlace} (h : DataW.trod enc Try.prog w base spare held fuel 52 [c0, c1, c2, c3, c4, c5] = some x) : ∃ p : Pn, [c0, c1, c2, c3, c4, c5] = pL p := by
  obtain ⟨xs, n, _, _, _, hlen, hg⟩ := DataW.trod_struct Try.underlying52 h
  have hl : xs.length = 3 := hlen
  match xs, hl with
  | [y0, y1, y2], _ =>
    obtain ⟨lo, hi, rfl, rfl⟩ := ptrod_win (x := y0) (by simpa [pcells_win] using hg 0 _ rfl)
    obtain ⟨k, rfl⟩ := pone_str (x := y1) (by simpa [pcells_str] using hg 1 _ rfl)
    obtain ⟨n, a, b, rfl, rfl, rfl⟩ := ptrod_acc (x := y2) (by simpa [pcells_acc] using hg 2 _ rfl)
    exact ⟨⟨⟨lo, hi, k⟩, ⟨n, a, b⟩⟩, rfl⟩
/-- A row of things of n cells that came in. -/
theorem openRow {α : Type} [Inhabited α] {P : Program} {t e : TypeId} {n : Nat} {f : α → List Value} {v : Value} {d : DataW H} {ps : List MemPlace} {r : Reach} {b0 : Nat} (ht : P.underlying t = some (.slice e)) (hc : P.cellsOf e = n) (h0 : 0 < n) (hf : ∀ x, (f x).length = n)
    (hone : ∀ (fuel : Nat) (cs : List Value) (x : DataW H × List MemPlace), cs.length = n → DataW.trod enc P w base spare held fuel e cs = some x → ∃ p : α, cs = f p)
    (hval : Value.okWide P w r b0 t v) (h : DataW.Trod enc P w base spare held t v d ps) :
    ∃ (A : Option Addr) (c : Nat) (xs : List α), v = .slice A xs.length c ∧ xs.length ≤ c ∧ c ≤ maxLen ∧ Row w A (xs.flatMap f) := by
  obtain ⟨a0, len0, cap0, rfl⟩ := okWide_slice ht hval
  obtain ⟨fuel, hfu⟩ := h
  rcases Deep.open_slice ht hfu with ⟨h1, h2⟩ | ⟨a, len, cap, m, k, D, Pl, h1, hb, hl, hm, hmm, h2, hx⟩
  · simp only [Value.cells, List.cons.injEq, Value.slice.injEq, and_true] at h1
    obtain ⟨rfl, rfl, rfl⟩ := h1
    exact ⟨none, 0, [], rfl, Nat.le_refl _, by simp [maxLen], .inl rfl⟩
  · simp only [Value.cells, List.cons.injEq, Value.slice.injEq, and_true] at h1
    obtain ⟨rfl, rfl, rfl⟩ := h1
    have hlm : len0 ≤ m := by rw [hmm]; split <;> omega
    have each : ∀ i, i < m → ∃ q : α, ∀ j u, (f q)[j]? = some u → w.cell? ((a.add (i * n)).add j) = some u := by
      intro i hi
      obtain ⟨cs', g1, g2⟩ := hx i hi
      rw [hc] at g1
      obtain ⟨_, hlen, hcell⟩ := World.cells?_some g1
      obtain ⟨q, rfl⟩ := hone _ _ _ hlen g2
      refine ⟨q, fun j u hu => ?_⟩
      have hj : j < n := by rw [← hf q]; exact (List.getElem?_eq_some_iff.1 hu).1
      have := hcell j hj
      rw [this]
      simpa using hu
    obtain ⟨q, hq⟩ := Deep.choose_lt each
    obtain ⟨xs, hxs⟩ : ∃ xs : List α, xs = (List.range len0).map q := ⟨_, rfl⟩
    have hlx : xs.length = len0 := by rw [hxs]; simp
    refine ⟨some a, cap0, xs, by rw [hlx], by rw [hlx]; exact hl, hm, ?_⟩
    rcases Nat.eq_zero_or_pos len0 with hz | hz
    · subst hz; rw [List.eq_nil_of_length_eq_zero hlx]; exact .inl rfl
    · obtain ⟨b, off, spot⟩ := a
      have hspot : spot = none := by
        have hfl := hf (q 0)
        obtain ⟨u, hu⟩ : ∃ u, (f (q 0))[0]? = some u := ⟨_, List.getElem?_eq_getElem (by omega)⟩
        have g := hq 0 (by omega) 0 u hu
        have g2 : w.cell? (⟨b, off, spot⟩ : Addr) = some u := by simpa [Addr.add] using g
        simpa using World.cell?_spot g2
      subst hspot
      refine .inr ⟨b, off, rfl, fun j u hu => ?_⟩
      have hj : j < len0 * n := by
        have := (List.getElem?_eq_some_iff.1 hu).1
        rwa [flat_len f hf, hlx] at this
      have hdiv : j / n < len0 := Nat.div_lt_of_lt_mul (by rwa [Nat.mul_comm] at hj)
      have hmod : j % n < n := Nat.mod_lt _ h0
      have hsum : j / n * n + j % n = j := by rw [Nat.mul_comm]; exact Nat.div_add_mod j n
      have hget : xs[j / n]? = some (q (j / n)) := by rw [hxs]; simp [hdiv]
      have := flat_get f hf hget hmod
      rw [hsum, hu] at this
      have g := hq (j / n) (by omega) (j % n) u this.symm
      rw [Go.WideShapes.add_plain, Go.WideShapes.add_plain] at g
      rw [← hsum, ← Nat.add_assoc]
      exact g
instance : Inhabited Pn := ⟨⟨⟨0, 0, []⟩, ⟨0, 0, 0⟩⟩⟩
theorem openPanes {v : Value} {d : DataW H} {ps : List MemPlace} {r : Reach} {b0 : Nat} (hval : Value.okWide Try.prog w r b0 22 v) (h : DataW.Trod enc Try.prog w base spare held 22 v d ps) :
    ∃ (A : Option Addr) (c : Nat) (xs : List Pn), v = .slice A xs.length c ∧ xs.length ≤ c ∧ c ≤ maxLen ∧ Row w A (pc xs) :=
  openRow (f := pL) Try.underlying22 pcells_pn (by omega) pL_len (fun fuel cs x hl hx => by
    match cs, hl with
    | [c0, c1, c2, c3, c4, c5], _ => exact ptrod_pn hx) hval h
theorem openWinP {r : Reach} {b0 : Nat} {v : Value} {d : DataW H} {p : List MemPlace} (hval : Value.okWide Try.prog w r b0 24 v) (h : DataW.Trod enc Try.prog w base spare held 24 v d p) : ∃ lo hi : Int, v = .agg #[.int .i64 lo, .int .i64 hi] := by
  obtain ⟨cs, rfl, hsz⟩ := okWide_struct Try.underlying24 hval
  obtain ⟨l⟩ := cs
  match l, hsz.trans pcells_win with
  | [c0, c1], _ =>
    obtain ⟨fuel, hf⟩ := h
    obtain ⟨lo, hi, rfl, rfl⟩ := ptrod_win (by simpa [Value.cells] using hf)
    exact ⟨lo, hi, rfl⟩
end
end Go.Proofs.Ytklpfifellghlaa
