/- A job and its inputs that came in. -/
import Derived.Test.YtileonenphmkkaaJobIns2
import Derived.Laws.StructEq
namespace Go.Proofs.Ytileonenphmkkaa
open Go.ChangeShapes Go.WideShapes Go.ChangeAt Go.RowKit
set_option linter.unusedVariables false
set_option maxRecDepth 8000
namespace Jo
open Gen
/-- A job whose numbers fit. -/
def inI (n : Int) : Prop := -9223372036854775808 ≤ n ∧ n ≤ 9223372036854775807
theorem wf_inI {n : Int} (h : (Lit.int .i64 n).wf = true) : inI n := by
  simp [Lit.wf, IntKind.min, IntKind.max, IntKind.bits, IntKind.signed] at h
  unfold inI
  omega
theorem cells_jb : Try.prog.cellsOf 23 = 8 := by kernel_rfl
theorem cells_jint : Try.prog.cellsOf 3 = 1 := by kernel_rfl
theorem cells_ji64 : Try.prog.cellsOf 2 = 1 := by kernel_rfl
section
variable {H : Type} {enc : TypeId × Value → H} {w : World} {base : Nat} {spare : Nat → Bool} {held : Bool}
theorem jone_int {fuel : Nat} {c : Value} {x : DataW H × List MemPlace} (h : DataW.trod enc Try.prog w base spare held fuel 3 [c] = some x) : ∃ z : Int, c = .int .i64 z ∧ inI z := by
  obtain ⟨z, h1, _, h3⟩ := DataW.trod_int Try.underlying3 h
  exact ⟨z, by simpa using h1, wf_inI h3⟩
theorem jone_i64 {fuel : Nat} {c : Value} {x : DataW H × List MemPlace} (h : DataW.trod enc Try.prog w base spare held fuel 2 [c] = some x) : ∃ z : Int, c = .int .i64 z ∧ inI z := by
  obtain ⟨z, h1, _, h3⟩ := DataW.trod_int Try.underlying2 h
  exact ⟨z, by simpa using h1, wf_inI h3⟩
theorem openJb {r : Reach} {b0 : Nat} {v : Value} {d : DataW H} {p : List MemPlace} (hv : Value.okWide Try.prog w r b0 23 v) (h : DataW.Trod enc Try.prog w base spare held 23 v d p) : ∃ j : Jb, v = jbV j ∧ inI j.limit := by
  obtain ⟨cs, rfl, hsz⟩ := okWide_struct Try.underlying23 hv
  obtain ⟨l⟩ := cs
  match l, hsz.trans cells_jb with
  | [c0, c1, c2, c3, c4, c5, c6, c7], _ =>
    obtain ⟨fuel, hf⟩ := h
    have h : DataW.trod enc Try.prog w base spare held fuel 23 [c0, c1, c2, c3, c4, c5, c6, c7] = some (d, p) := by simpa [Value.cells] using hf
    obtain ⟨xs, n, _, _, _, hlen, hg⟩ := DataW.trod_struct Try.underlying23 h
    have hl : xs.length = 8 := hlen
    match xs, hl with
    | [y0, y1, y2, y3, y4, y5, y6, y7], _ =>
      obtain ⟨a0, rfl, _⟩ := jone_int (x := y0) (by simpa [cells_jint, cells_ji64] using hg 0 _ rfl)
      obtain ⟨a1, rfl, _⟩ := jone_i64 (x := y1) (by simpa [cells_jint, cells_ji64] using hg 1 _ rfl)
      obtain ⟨a2, rfl, _⟩ := jone_i64 (x := y2) (by simpa [cells_jint, cells_ji64] using hg 2 _ rfl)
      obtain ⟨a3, rfl, _⟩ := jone_int (x := y3) (by simpa [cells_jint, cells_ji64] using hg 3 _ rfl)
      obtain ⟨a4, rfl, _⟩ := jone_int (x := y4) (by simpa [cells_jint, cells_ji64] using hg 4 _ rfl)
      obtain ⟨a5, rfl, h5⟩ := jone_i64 (x := y5) (by simpa [cells_jint, cells_ji64] using hg 5 _ rfl)
      obtain ⟨a6, rfl, _⟩ := jone_i64 (x := y6) (by simpa [cells_jint, cells_ji64] using hg 6 _ rfl)
      obtain ⟨a7, rfl, _⟩ := jone_int (x := y7) (by simpa [cells_jint, cells_ji64] using hg 7 _ rfl)
      exact ⟨⟨a0, a1, a2, a3, a4, a5, a6, a7⟩, rfl, h5⟩
/-- A row of things of n cells that came in, as it is found in a cell. -/
theorem openRowC {α : Type} [Inhabited α] {P : Program} {t e : TypeId} {n : Nat} {f : α → List Value} {fuel : Nat} {c0 : Value} {x : DataW H × List MemPlace} (ht : P.underlying t = some (.slice e)) (hc : P.cellsOf e = n) (h0 : 0 < n) (hf : ∀ x, (f x).length = n)
    (hone : ∀ (fuel : Nat) (cs : List Value) (x : DataW H × List MemPlace), cs.length = n → DataW.trod enc P w base spare held fuel e cs = some x → ∃ p : α, cs = f p)
    (hfu : DataW.trod enc P w base spare held fuel t [c0] = some x) :
    ∃ (A : Option Addr) (c : Nat) (xs : List α), c0 = .slice A xs.length c ∧ xs.length ≤ c ∧ c ≤ maxLen ∧ Row w A (xs.flatMap f) := by
  rcases Deep.open_slice ht hfu with ⟨h1, h2⟩ | ⟨a, len, cap, m, k, D, Pl, h1, hb, hl, hm, hmm, h2, hx⟩
  · simp only [List.cons.injEq, and_true] at h1
    subst h1
    exact ⟨none, 0, [], rfl, Nat.le_refl _, by simp [maxLen], .inl rfl⟩
  · simp only [List.cons.injEq, and_true] at h1
    subst h1
    have hlm : len ≤ m := by rw [hmm]; split <;> omega
    have each : ∀ i, i < m → ∃ q : α, ∀ j u, (f q)[j]? = some u → w.cell? ((a.add (i * n)).add j) = some u := by
      intro i hi
      obtain ⟨cs', g1, g2⟩ := hx i hi
      rw [hc] at g1
      obtain ⟨_, hlen, hcell⟩ := World.cells?_some g1
      obtain ⟨q, rfl⟩ := hone _ _ _ hlen g2
      refine ⟨q, fun j u hu => ?_⟩
      have hj : j < n := by rw [← hf q]; exact (List.getElem?_eq_some_iff.1 hu).1
      have := hcell j hj
      rw [this]
      simpa using hu
    obtain ⟨q, hq⟩ := Deep.choose_lt each
    obtain ⟨xs, hxs⟩ : ∃ xs : List α, xs = (List.range len).map q := ⟨_, rfl⟩
    have hlx : xs.length = len := by rw [hxs]; simp
    refine ⟨some a, cap, xs, by rw [hlx], by rw [hlx]; exact hl, hm, ?_⟩
    rcases Nat.eq_zero_or_pos len with hz | hz
    · subst hz; rw [List.eq_nil_of_length_eq_zero hlx]; exact .inl rfl
    · obtain ⟨b, off, spot⟩ := a
      have hspot : spot = none := by
        have hfl := hf (q 0)
        obtain ⟨u, hu⟩ : ∃ u, (f (q 0))[0]? = some u := ⟨_, List.getElem?_eq_getElem (by omega)⟩
        have g := hq 0 (by omega) 0 u hu
        have g2 : w.cell? (⟨b, off, spot⟩ : Addr) = some u := by simpa [Addr.add] using g
        simpa using World.cell?_spot g2
      subst hspot
      refine .inr ⟨b, off, rfl, fun j u hu => ?_⟩
      have hj : j < len * n := by
        have := (List.getElem?_eq_some_iff.1 hu).1
        rwa [flat_len f hf, hlx] at this
      have hdiv : j / n < len := Nat.div_lt_of_lt_mul (by rwa [Nat.mul_comm] at hj)
      have hmod : j % n < n := Nat.mod_lt _ h0
      have hsum : j / n * n + j % n = j := by rw [Nat.mul_comm]; exact Nat.div_add_mod j n
      have hget : xs[j / n]? = some (q (j / n)) := by rw [hxs]; simp [hdiv]
      have := flat_get f hf hget hmod
      rw [hsum, hu] at this
      have g := hq (j / n) (by omega) (j % n) u this.symm
      rw [Go.WideShapes.add_plain, Go.WideShapes.add_plain] at g
      rw [← hsum, ← Nat.add_assoc]
      exact g
theorem cells_jstr : Try.prog.cellsOf 9 = 1 := by kernel_rfl
theorem cells_jev : Try.prog.cellsOf 35 = 3 := by kernel_rfl
theorem cells_jevs : Try.prog.cellsOf 32 = 1 := by kernel_rfl
theorem jone_str {fuel : Nat} {c : Value} {x : DataW H × List MemPlace} (h : DataW.trod enc Try.prog w base spare held fuel 9 [c] = some x) : ∃ s : ByteArray, c = .string s := by
  obtain ⟨s, h1, _, h3⟩ := DataW.trod_string Try.underlying9 h
  exact ⟨s, by simpa using h1⟩
theorem jtrod_ev {fuel : Nat} {c0 c1 c2 : Value} {x : DataW H × List MemPlace} (h : DataW.trod enc Try.prog w base spare held fuel 35 [c0, c1, c2] = some x) : ∃ e : Ev, [c0, c1, c2] = evL e := by
  obtain ⟨xs, n, _, _, _, hlen, hg⟩ := DataW.trod_struct Try.underlying35 h
  have hl : xs.length = 3 := hlen
  match xs, hl with
  | [y0, y1, y2], _ =>
    obtain ⟨k, rfl⟩ := jone_str (x := y0) (by simpa [cells_jstr] using hg 0 _ rfl)
    obtain ⟨a, rfl, h1⟩ := jone_i64 (x := y1) (by simpa [cells_ji64] using hg 1 _ rfl)
    obtain ⟨v, rfl, h2⟩ := jone_i64 (x := y2) (by simpa [cells_ji64] using hg 2 _ rfl)
    exact ⟨⟨k, a, v⟩, rfl⟩
theorem openEvsC {fuel : Nat} {c0 : Value} {x : DataW H × List MemPlace} (h : DataW.trod enc Try.prog w base spare held fuel 32 [c0] = some x) :
    ∃ s : Sr, [c0] = [srV s] ∧ Row w s.A (s.l.flatMap evL) ∧ s.l.length ≤ 9223372036854775807 := by
  obtain ⟨A, c, xs, h1, h2, h3, h4⟩ := openRowC (f := evL) Try.underlying32 cells_jev (by omega) evL_len (fun fuel cs x hl hx => by
    match cs, hl with
    | [c0, c1, c2], _ => exact jtrod_ev hx) h
  unfold maxLen at h3
  exact ⟨⟨A, c, xs⟩, by rw [h1], h4, by simp only; omega⟩
instance : Inhabited {s : Sr // Row w s.A (s.l.flatMap evL) ∧ s.l.length ≤ 9223372036854775807} := ⟨⟨none, 0, []⟩, .inl rfl, by simp⟩
/-- Rows of rows of events that came in. -/
theorem openIns {v : Value} {d : DataW H} {ps : List MemPlace} {r : Reach} {b0 : Nat} (hval : Value.okWide Try.prog w r b0 24 v) (h : DataW.Trod enc Try.prog w base spare held 24 v d ps) :
    ∃ (A : Option Addr) (c : Nat) (l : List Sr), v = .slice A l.length c ∧ l.length ≤ 9223372036854775807 ∧ Row w A (l.flatMap fun s => [srV s]) ∧ Srs w l := by
  obtain ⟨A, c, xs, h1, h2, h3, h4⟩ := openRow (f := fun p : {s : Sr // Row w s.A (s.l.flatMap evL) ∧ s.l.length ≤ 9223372036854775807} => [srV p.1]) Try.underlying24 cells_jevs (by omega) (fun _ => rfl) (fun fuel cs x hl hx => by
    match cs, hl with
    | [c0], _ =>
      obtain ⟨s, e, hs⟩ := openEvsC hx
      exact ⟨⟨s, hs⟩, e⟩) hval h
  unfold maxLen at h3
  refine ⟨A, c, xs.map (·.1), by rw [List.length_map]; exact h1, by rw [List.length_map]; omega, ?_, fun k y hy => ?_⟩
  · rw [List.flatMap_map]
    exact h4
  · rw [List.getElem?_map] at hy
    obtain ⟨p, _, rfl⟩ := Option.map_eq_some_iff.1 hy
    exact p.2
end
end Jo
end Go.Proofs.Ytileonenphmkkaa
