/- Arguments of the laws: marks, an act, acts. -/
import Derived.Test.YtciagbeamphihaaMarkDo
import Derived.Test.YtciagbeamphihaaLift
import Derived.Deep.Slices
import Derived.Deep.SlicePairs
import Derived.OpenShut
namespace Go.Proofs.Ytciagbeamphihaa
open Go.ChangeShapes Go.WideShapes Go.ChangeAt Go.RowKit
set_option linter.unusedVariables false
set_option maxRecDepth 8000
namespace Wm
section
variable {H : Type} {enc : TypeId × Value → H} {w : World} {base : Nat} {spare : Nat → Bool} {held : Bool}
theorem mcells_int : Try.prog.cellsOf 3 = 1 := by kernel_rfl
theorem mcells_i64 : Try.prog.cellsOf 2 = 1 := by kernel_rfl
theorem mcells_bool : Try.prog.cellsOf 4 = 1 := by kernel_rfl
theorem mcells_sli : Try.prog.cellsOf 22 = 1 := by kernel_rfl
theorem mcells_slh : Try.prog.cellsOf 23 = 1 := by kernel_rfl
theorem mcells_in : Try.prog.cellsOf 42 = 2 := by kernel_rfl
theorem mcells_ho : Try.prog.cellsOf 44 = 2 := by kernel_rfl
theorem mcells_mk : Try.prog.cellsOf 25 = 3 := by kernel_rfl
theorem mcells_ac : Try.prog.cellsOf 34 = 3 := by kernel_rfl
theorem mone_i64 {fuel : Nat} {c : Value} {x : DataW H × List MemPlace} (h : DataW.trod enc Try.prog w base spare held fuel 2 [c] = some x) : ∃ z : Int, c = .int .i64 z := by
  obtain ⟨z, h1, _, h3⟩ := DataW.trod_int Try.underlying2 h
  exact ⟨z, by simpa using h1⟩
theorem mone_int {fuel : Nat} {c : Value} {x : DataW H × List MemPlace} (h : DataW.trod enc Try.prog w base spare held fuel 3 [c] = some x) : ∃ z : Int, c = .int .i64 z := by
  obtain ⟨z, h1, _, h3⟩ := DataW.trod_int Try.underlying3 h
  exact ⟨z, by simpa using h1⟩
theorem mone_bool {fuel : Nat} {c : Value} {x : DataW H × List MemPlace} (h : DataW.trod enc Try.prog w base spare held fuel 4 [c] = some x) : ∃ z : Bool, c = .bool z := by
  obtain ⟨z, h1, _⟩ := DataW.trod_bool Try.underlying4 h
  exact ⟨z, by simpa using h1⟩
theorem mtrod_in {fuel : Nat} {c0 c1 : Value} {x : DataW H × List MemPlace} (h : DataW.trod enc Try.prog w base spare held fuel 42 [c0, c1] = some x) : ∃ p : In, [c0, c1] = iL p := by
  obtain ⟨xs, n, _, _, _, hlen, hg⟩ := DataW.trod_struct Try.underlying42 h
  have hl : xs.length = 2 := hlen
  match xs, hl with
  | [y0, y1], _ =>
    obtain ⟨a, rfl⟩ := mone_i64 (x := y0) (by simpa [mcells_i64, mcells_bool] using hg 0 _ rfl)
    obtain ⟨v, rfl⟩ := mone_bool (x := y1) (by simpa [mcells_i64, mcells_bool] using hg 1 _ rfl)
    exact ⟨⟨a, v⟩, rfl⟩
theorem mtrod_ho {fuel : Nat} {c0 c1 : Value} {x : DataW H × List MemPlace} (h : DataW.trod enc Try.prog w base spare held fuel 44 [c0, c1] = some x) : ∃ p : Ho, [c0, c1] = hL p := by
  obtain ⟨xs, n, _, _, _, hlen, hg⟩ := DataW.trod_struct Try.underlying44 h
  have hl : xs.length = 2 := hlen
  match xs, hl with
  | [y0, y1], _ =>
    obtain ⟨a, rfl⟩ := mone_int (x := y0) (by simpa [mcells_i64, mcells_int] using hg 0 _ rfl)
    obtain ⟨v, rfl⟩ := mone_i64 (x := y1) (by simpa [mcells_i64, mcells_int] using hg 1 _ rfl)
    exact ⟨⟨a, v⟩, rfl⟩
structure Ac where
  wh : Int
  no : Int
  t : Int
def aL (a : Ac) : List Value := [.int .i64 a.wh, .int .i64 a.no, .int .i64 a.t]
def acs (l : List Ac) : List Value := l.flatMap aL
instance : Inhabited In := ⟨⟨0, false⟩⟩
instance : Inhabited Ho := ⟨⟨0, 0⟩⟩
instance : Inhabited Ac := ⟨⟨0, 0, 0⟩⟩
theorem mtrod_ac {fuel : Nat} {c0 c1 c2 : Value} {x : DataW H × List MemPlace} (h : DataW.trod enc Try.prog w base spare held fuel 34 [c0, c1, c2] = some x) : ∃ p : Ac, [c0, c1, c2] = aL p := by
  obtain ⟨xs, n, _, _, _, hlen, hg⟩ := DataW.trod_struct Try.underlying34 h
  have hl : xs.length = 3 := hlen
  match xs, hl with
  | [y0, y1, y2], _ =>
    obtain ⟨a, rfl⟩ := mone_int (x := y0) (by simpa [mcells_i64, mcells_int] using hg 0 _ rfl)
    obtain ⟨b, rfl⟩ := mone_int (x := y1) (by simpa [mcells_i64, mcells_int] using hg 1 _ rfl)
    obtain ⟨v, rfl⟩ := mone_i64 (x := y2) (by simpa [mcells_i64, mcells_int] using hg 2 _ rfl)
    exact ⟨⟨a, b, v⟩, rfl⟩
/-- A row of things of n cells that came in, as it is found in a cell. -/
theorem openRowC {α : Type} [Inhabited α] {P : Program} {t e : TypeId} {n : Nat} {f : α → List Value} {fuel : Nat} {c0 : Value} {x : DataW H × List MemPlace} (ht : P.underlying t = some (.slice e)) (hc : P.cellsOf e = n) (h0 : 0 < n) (hf : ∀ x, (f x).length = n)
    (hone : ∀ (fuel : Nat) (cs : List Value) (x : DataW H × List MemPlace), cs.length = n → DataW.trod enc P w base spare held fuel e cs = some x → ∃ p : α, cs = f p)
    (hfu : DataW.trod enc P w base spare held fuel t [c0] = some x) :
    ∃ (A : Option Addr) (c : Nat) (xs : List α), c0 = .slice A xs.length c ∧ xs.length ≤ c ∧ c ≤ maxLen ∧ Row w A (xs.flatMap f) := by
  rcases Deep.open_slice ht hfu with ⟨h1, h2⟩ | ⟨a, len, cap, m, k, D, Pl, h1, hb, hl, hm, hmm, h2, hx⟩
  · simp only [List.cons.injEq, and_true] at h1
    subst h1
    exact ⟨none, 0, [], rfl, Nat.le_refl _, by simp [maxLen], .inl rfl⟩
  · simp only [List.cons.injEq, and_true] at h1
    subst h1
    have hlm : len ≤ m := by rw [hmm]; split <;> omega
    have each : ∀ i, i < m → ∃ q : α, ∀ j u, (f q)[j]? = some u → w.cell? ((a.add (i * n)).add j) = some u := by
      intro i hi
      obtain ⟨cs', g1, g2⟩ := hx i hi
      rw [hc] at g1
      obtain ⟨_, hlen, hcell⟩ := World.cells?_some g1
      obtain ⟨q, rfl⟩ := hone _ _ _ hlen g2
      refine ⟨q, fun j u hu => ?_⟩
      have hj : j < n := by rw [← hf q]; exact (List.getElem?_eq_some_iff.1 hu).1
      have := hcell j hj
      rw [this]
      simpa using hu
    obtain ⟨q, hq⟩ := Deep.choose_lt each
    obtain ⟨xs, hxs⟩ : ∃ xs : List α, xs = (List.range len).map q := ⟨_, rfl⟩
    have hlx : xs.length = len := by rw [hxs]; simp
    refine ⟨some a, cap, xs, by rw [hlx], by rw [hlx]; exact hl, hm, ?_⟩
    rcases Nat.eq_zero_or_pos len with hz | hz
    · subst hz; rw [List.eq_nil_of_length_eq_zero hlx]; exact .inl rfl
    · obtain ⟨b, off, spot⟩ := a
      have hspot : spot = none := by
        have hfl := hf (q 0)
        obtain ⟨u, hu⟩ : ∃ u, (f (q 0))[0]? = some u := ⟨_, List.getElem?_eq_getElem (by omega)⟩
        have g := hq 0 (by omega) 0 u hu
        have g2 : w.cell? (⟨b, off, spot⟩ : Addr) = some u := by simpa [Addr.add] using g
        simpa using World.cell?_spot g2
      subst hspot
      refine .inr ⟨b, off, rfl, fun j u hu => ?_⟩
      have hj : j < len * n := by
        have := (List.getElem?_eq_some_iff.1 hu).1
        rwa [fl_len f hf, hlx] at this
      have hdiv : j / n < len := Nat.div_lt_of_lt_mul (by rwa [Nat.mul_comm] at hj)
      have hmod : j % n < n := Nat.mod_lt _ h0
      have hsum : j / n * n + j % n = j := by rw [Nat.mul_comm]; exact Nat.div_add_mod j n
      have hget : xs[j / n]? = some (q (j / n)) := by rw [hxs]; simp [hdiv]
      have := fl_get f hf hget hmod
      rw [hsum, hu] at this
      have g := hq (j / n) (by omega) (j % n) u this.symm
      rw [Go.WideShapes.add_plain, Go.WideShapes.add_plain] at g
      rw [← hsum, ← Nat.add_assoc]
      exact g
/-- A row of things of n cells that came in. -/
theorem openRow {α : Type} [Inhabited α] {P : Program} {t e : TypeId} {n : Nat} {f : α → List Value} {v : Value} {d : DataW H} {ps : List MemPlace} {r : Reach} {b0 : Nat} (ht : P.underlying t = some (.slice e)) (hc : P.cellsOf e = n) (h0 : 0 < n) (hf : ∀ x, (f x).length = n)
    (hone : ∀ (fuel : Nat) (cs : List Value) (x : DataW H × List MemPlace), cs.length = n → DataW.trod enc P w base spare held fuel e cs = some x → ∃ p : α, cs = f p)
    (hval : Value.okWide P w r b0 t v) (h : DataW.Trod enc P w base spare held t v d ps) :
    ∃ (A : Option Addr) (c : Nat) (xs : List α), v = .slice A xs.length c ∧ xs.length ≤ c ∧ c ≤ maxLen ∧ Row w A (xs.flatMap f) := by
  obtain ⟨a0, len0, cap0, rfl⟩ := okWide_slice ht hval
  obtain ⟨fuel, hfu⟩ := h
  exact openRowC ht hc h0 hf hone (by simpa [Value.cells] using hfu)
theorem openInsC {fuel : Nat} {c0 : Value} {x : DataW H × List MemPlace} (h : DataW.trod enc Try.prog w base spare held fuel 22 [c0] = some x) :
    ∃ (A : Option Addr) (c : Nat) (xs : List In), c0 = .slice A xs.length c ∧ xs.length ≤ c ∧ c ≤ maxLen ∧ Row w A (ic xs) :=
  openRowC (f := iL) Try.underlying22 mcells_in (by omega) (fun _ => rfl) (fun fuel cs x hl hx => by
    match cs, hl with
    | [c0, c1], _ => exact mtrod_in hx) h
theorem openHosC {fuel : Nat} {c0 : Value} {x : DataW H × List MemPlace} (h : DataW.trod enc Try.prog w base spare held fuel 23 [c0] = some x) :
    ∃ (A : Option Addr) (c : Nat) (xs : List Ho), c0 = .slice A xs.length c ∧ xs.length ≤ c ∧ c ≤ maxLen ∧ Row w A (hc xs) :=
  openRowC (f := hL) Try.underlying23 mcells_ho (by omega) (fun _ => rfl) (fun fuel cs x hl hx => by
    match cs, hl with
    | [c0, c1], _ => exact mtrod_ho hx) h
theorem openMarks {v : Value} {d : DataW H} {p : List MemPlace} {r : Reach} {b0 : Nat} (hval : Value.okWide Try.prog w r b0 25 v) (h : DataW.Trod enc Try.prog w base spare held 25 v d p) :
    ∃ (m : Mk) (A : Option Addr) (c : Nat) (B : Option Addr) (k : Nat), v = mv m A c B k ∧ Has m A c B k w := by
  obtain ⟨cs, rfl, hsz⟩ := okWide_struct Try.underlying25 hval
  obtain ⟨l⟩ := cs
  match l, hsz.trans mcells_mk with
  | [c0, c1, c2], _ =>
    obtain ⟨fuel, hf⟩ := h
    have h : DataW.trod enc Try.prog w base spare held fuel 25 [c0, c1, c2] = some (d, p) := by simpa [Value.cells] using hf
    obtain ⟨xs, n, _, _, _, hlen, hg⟩ := DataW.trod_struct Try.underlying25 h
    have hl : xs.length = 3 := hlen
    match xs, hl with
    | [y0, y1, y2], _ =>
      obtain ⟨A, c, ins, rfl, h1, h2, h3⟩ := openInsC (x := y0) (by simpa [mcells_i64, mcells_sli, mcells_slh] using hg 0 _ rfl)
      obtain ⟨B, k, hs, rfl, h4, h5, h6⟩ := openHosC (x := y1) (by simpa [mcells_i64, mcells_sli, mcells_slh] using hg 1 _ rfl)
      obtain ⟨o, rfl⟩ := mone_i64 (x := y2) (by simpa [mcells_i64, mcells_sli, mcells_slh] using hg 2 _ rfl)
      exact ⟨⟨ins, hs, o⟩, A, c, B, k, rfl, h3, h6, h1, h2, h4, h5⟩
theorem openAct {v : Value} {d : DataW H} {p : List MemPlace} {r : Reach} {b0 : Nat} (hval : Value.okWide Try.prog w r b0 34 v) (h : DataW.Trod enc Try.prog w base spare held 34 v d p) : ∃ a : Ac, v = acV a.wh a.no a.t := by
  obtain ⟨cs, rfl, hsz⟩ := okWide_struct Try.underlying34 hval
  obtain ⟨l⟩ := cs
  match l, hsz.trans mcells_ac with
  | [c0, c1, c2], _ =>
    obtain ⟨fuel, hf⟩ := h
    have h : DataW.trod enc Try.prog w base spare held fuel 34 [c0, c1, c2] = some (d, p) := by simpa [Value.cells] using hf
    obtain ⟨a, ha⟩ := mtrod_ac h
    refine ⟨a, ?_⟩
    show Value.agg #[c0, c1, c2] = _
    simp only [aL, List.cons.injEq, and_true] at ha
    obtain ⟨rfl, rfl, rfl⟩ := ha
    rfl
theorem openActs {v : Value} {d : DataW H} {ps : List MemPlace} {r : Reach} {b0 : Nat} (hval : Value.okWide Try.prog w r b0 40 v) (h : DataW.Trod enc Try.prog w base spare held 40 v d ps) :
    ∃ (A : Option Addr) (c : Nat) (l : List Ac), v = .slice A l.length c ∧ l.length ≤ c ∧ c ≤ maxLen ∧ Row w A (acs l) :=
  openRow (f := aL) Try.underlying40 mcells_ac (by omega) (fun _ => rfl) (fun fuel cs x hl hx => by
    match cs, hl with
    | [c0, c1, c2], _ => exact mtrod_ac hx) hval h
theorem row_ac {w : World} {A : Option Addr} {xs : List Ac} (h : Row w A (acs xs)) {k : Nat} {x : Ac} (hk : xs[k]? = some x) :
    ∃ b off, A = some ⟨b, off, none⟩ ∧ w.cell? ⟨b, off + k * 3, none⟩ = some (.int .i64 x.wh) ∧ w.cell? ⟨b, off + k * 3 + 1, none⟩ = some (.int .i64 x.no) ∧ w.cell? ⟨b, off + k * 3 + 2, none⟩ = some (.int .i64 x.t) := by
  have g : ∀ j, j < 3 → (acs xs)[k * 3 + j]? = (aL x)[j]? := fun j hj => fl_get aL (fun _ => rfl) hk hj
  have g0 := g 0 (by omega); have g1 := g 1 (by omega); have g2 := g 2 (by omega)
  rcases h with h | ⟨b, off, rfl, h⟩
  · rw [h] at g0; simp [aL] at g0
  · refine ⟨b, off, rfl, ?_, ?_, ?_⟩
    · exact h _ _ g0
    · rw [Nat.add_assoc]; exact h _ _ g1
    · rw [Nat.add_assoc]; exact h _ _ g2
end
end Wm
end Go.Proofs.Ytciagbeamphihaa
