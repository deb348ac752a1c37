/- Arguments of the laws: stores, cells, turns; the law's small. -/
import Derived.Test.YtpjgdpdgfchhkaaStoreZ
import Derived.Carry
import Derived.OpenShut
namespace Go.Proofs.Ytpjgdpdgfchhkaa
open Go.ChangeShapes Go.WideShapes Go.ChangeAt Go.RowKit
set_option linter.unusedVariables false
set_option maxRecDepth 8000
namespace So
open Gen
theorem socells_int : Try.prog.cellsOf 3 = 1 := by kernel_rfl
theorem socells_bool : Try.prog.cellsOf 4 = 1 := by kernel_rfl
theorem socells_str : Try.prog.cellsOf 9 = 1 := by kernel_rfl
theorem socells_sl : Try.prog.cellsOf 22 = 1 := by kernel_rfl
theorem socells_cl : Try.prog.cellsOf 43 = 2 := by kernel_rfl
theorem socells_st : Try.prog.cellsOf 24 = 3 := by kernel_rfl
theorem socells_tu : Try.prog.cellsOf 41 = 2 := by kernel_rfl
section
variable {H : Type} {enc : TypeId × Value → H} {w : World} {base : Nat} {spare : Nat → Bool} {held : Bool}
theorem lone_intS {fuel : Nat} {c : Value} {x : DataW H × List MemPlace} (h : DataW.trod enc Try.prog w base spare held fuel 3 [c] = some x) : ∃ z : Int, c = .int .i64 z := by
  obtain ⟨z, h1, _, h3⟩ := DataW.trod_int Try.underlying3 h
  exact ⟨z, by simpa using h1⟩
theorem lone_strS {fuel : Nat} {c : Value} {x : DataW H × List MemPlace} (h : DataW.trod enc Try.prog w base spare held fuel 9 [c] = some x) : ∃ s : List UInt8, c = .string (kS s) := by
  obtain ⟨s, h1, _, h3⟩ := DataW.trod_string Try.underlying9 h
  exact ⟨s.toList, by rw [kS_of]; simpa using h1⟩
theorem lone_boolS {fuel : Nat} {c : Value} {x : DataW H × List MemPlace} (h : DataW.trod enc Try.prog w base spare held fuel 4 [c] = some x) : ∃ b : Bool, c = .bool b := by
  obtain ⟨b, h1, _⟩ := DataW.trod_bool Try.underlying4 h
  exact ⟨b, by simpa using h1⟩
/-- A row of things of n cells that came in, as it is found in a cell. -/
theorem openRowS {α : Type} [Inhabited α] {P : Program} {t e : TypeId} {n : Nat} {f : α → List Value} {fuel : Nat} {c0 : Value} {x : DataW H × List MemPlace} (ht : P.underlying t = some (.slice e)) (hc : P.cellsOf e = n) (h0 : 0 < n) (hf : ∀ x, (f x).length = n)
    (hone : ∀ (fuel : Nat) (cs : List Value) (x : DataW H × List MemPlace), cs.length = n → DataW.trod enc P w base spare held fuel e cs = some x → ∃ p : α, cs = f p)
    (hfu : DataW.trod enc P w base spare held fuel t [c0] = some x) :
    ∃ (A : Option Addr) (c : Nat) (xs : List α), c0 = .slice A xs.length c ∧ xs.length ≤ c ∧ c ≤ maxLen ∧ Row w A (xs.flatMap f) := by
  rcases Deep.open_slice ht hfu with ⟨h1, h2⟩ | ⟨a, len, cap, m, k, D, Pl, h1, hb, hl, hm, hmm, h2, hx⟩
  · simp only [List.cons.injEq, and_true] at h1
    subst h1
    exact ⟨none, 0, [], rfl, Nat.le_refl _, by simp [maxLen], .inl rfl⟩
  · simp only [List.cons.injEq, and_true] at h1
    subst h1
    have hlm : len ≤ m := by rw [hmm]; split <;> omega
    have each : ∀ i, i < m → ∃ q : α, ∀ j u, (f q)[j]? = some u → w.cell? ((a.add (i * n)).add j) = some u := by
      intro i hi
      obtain ⟨cs', g1, g2⟩ := hx i hi
      rw [hc] at g1
      obtain ⟨_, hlen, hcell⟩ := World.cells?_some g1
      obtain ⟨q, rfl⟩ := hone _ _ _ hlen g2
      refine ⟨q, fun j u hu => ?_⟩
      have hj : j < n := by rw [← hf q]; exact (List.getElem?_eq_some_iff.1 hu).1
      have := hcell j hj
      rw [this]
      simpa using hu
    obtain ⟨q, hq⟩ := Deep.choose_lt each
    obtain ⟨xs, hxs⟩ : ∃ xs : List α, xs = (List.range len).map q := ⟨_, rfl⟩
    have hlx : xs.length = len := by rw [hxs]; simp
    refine ⟨some a, cap, xs, by rw [hlx], by rw [hlx]; exact hl, hm, ?_⟩
    rcases Nat.eq_zero_or_pos len with hz | hz
    · subst hz; rw [List.eq_nil_of_length_eq_zero hlx]; exact .inl rfl
    · obtain ⟨b, off, spot⟩ := a
      have hspot : spot = none := by
        have hfl := hf (q 0)
        obtain ⟨u, hu⟩ : ∃ u, (f (q 0))[0]? = some u := ⟨_, List.getElem?_eq_getElem (by omega)⟩
        have g := hq 0 (by omega) 0 u hu
        have g2 : w.cell? (⟨b, off, spot⟩ : Addr) = some u := by simpa [Addr.add] using g
        simpa using World.cell?_spot g2
      subst hspot
      refine .inr ⟨b, off, rfl, fun j u hu => ?_⟩
      have hj : j < len * n := by
        have := (List.getElem?_eq_some_iff.1 hu).1
        rwa [flat_len f hf, hlx] at this
      have hdiv : j / n < len := Nat.div_lt_of_lt_mul (by rwa [Nat.mul_comm] at hj)
      have hmod : j % n < n := Nat.mod_lt _ h0
      have hsum : j / n * n + j % n = j := by rw [Nat.mul_comm]; exact Nat.div_add_mod j n
      have hget : xs[j / n]? = some (q (j / n)) := by rw [hxs]; simp [hdiv]
      have := flat_get f hf hget hmod
      rw [hsum, hu] at this
      have g := hq (j / n) (by omega) (j % n) u this.symm
      rw [Go.WideShapes.add_plain, Go.WideShapes.add_plain] at g
      rw [← hsum, ← Nat.add_assoc]
      exact g
theorem lone_cl {fuel : Nat} {cs : List Value} {x : DataW H × List MemPlace} (hl : cs.length = 2) (h : DataW.trod enc Try.prog w base spare held fuel 43 cs = some x) : ∃ p : Cl, cs = clL p := by
  match cs, hl with
  | [c0, c1], _ =>
    obtain ⟨xs, n, _, _, _, hlen, hg⟩ := DataW.trod_struct Try.underlying43 h
    have hl : xs.length = 2 := hlen
    match xs, hl with
    | [y0, y1], _ =>
      obtain ⟨a, rfl⟩ := lone_strS (x := y0) (by simpa [socells_str] using hg 0 _ rfl)
      obtain ⟨b, rfl⟩ := lone_strS (x := y1) (by simpa [socells_str] using hg 1 _ rfl)
      exact ⟨⟨a, b⟩, rfl⟩
theorem openCellsS {fuel : Nat} {c0 : Value} {x : DataW H × List MemPlace} (h : DataW.trod enc Try.prog w base spare held fuel 22 [c0] = some x) :
    ∃ (A : Option Addr) (c : Nat) (xs : List Cl), c0 = .slice A xs.length c ∧ xs.length ≤ c ∧ c ≤ maxLen ∧ Row w A (clc xs) :=
  openRowS (f := clL) Try.underlying22 socells_cl (by omega) clL_len (fun fuel cs x hl hx => lone_cl hl hx) h
theorem openStore {v : Value} {d : DataW H} {p : List MemPlace} {r : Reach} {b0 : Nat} (hval : Value.okWide Try.prog w r b0 24 v) (h : DataW.Trod enc Try.prog w base spare held 24 v d p) :
    ∃ (cs fs : List Cl) (dn : Bool) (A : Option Addr) (c : Nat) (B : Option Addr) (d : Nat), v = srV A cs.length c B fs.length d dn ∧ cs.length ≤ c ∧ fs.length ≤ d ∧ c ≤ maxLen ∧ d ≤ maxLen ∧ Row w A (clc cs) ∧ Row w B (clc fs) := by
  obtain ⟨cs, rfl, hsz⟩ := okWide_struct Try.underlying24 hval
  obtain ⟨l⟩ := cs
  match l, hsz.trans socells_st with
  | [c0, c1, c2], _ =>
    obtain ⟨fuel, hf⟩ := h
    have h : DataW.trod enc Try.prog w base spare held fuel 24 [c0, c1, c2] = some (d, p) := by simpa [Value.cells] using hf
    obtain ⟨xs, n, _, _, _, hlen, hg⟩ := DataW.trod_struct Try.underlying24 h
    have hl : xs.length = 3 := hlen
    match xs, hl with
    | [y0, y1, y2], _ =>
      obtain ⟨A, c, ls, rfl, h1, h2, h3⟩ := openCellsS (x := y0) (by simpa [socells_bool, socells_sl] using hg 0 _ rfl)
      obtain ⟨B, d, fs, rfl, g1, g2, g3⟩ := openCellsS (x := y1) (by simpa [socells_bool, socells_sl] using hg 1 _ rfl)
      obtain ⟨dn, rfl⟩ := lone_boolS (x := y2) (by simpa [socells_bool, socells_sl] using hg 2 _ rfl)
      exact ⟨ls, fs, dn, A, c, B, d, rfl, h1, g1, h2, g2, h3, g3⟩
theorem openCells {v : Value} {d : DataW H} {p : List MemPlace} {r : Reach} {b0 : Nat} (hval : Value.okWide Try.prog w r b0 22 v) (h : DataW.Trod enc Try.prog w base spare held 22 v d p) :
    ∃ (l : List Cl) (A : Option Addr) (c : Nat), v = .slice A l.length c ∧ l.length ≤ c ∧ Row w A (clc l) := by
  obtain ⟨A, c, xs, h1, h2, h3, h4⟩ := Gen.openRow (f := clL) Try.underlying22 socells_cl (by omega) clL_len (fun fuel cs x hl hx => lone_cl hl hx) hval h
  exact ⟨xs, A, c, h1, h2, h4⟩
theorem openStr {v : Value} {d : DataW H} {p : List MemPlace} {r : Reach} {b0 : Nat} (hval : Value.okWide Try.prog w r b0 9 v) (h : DataW.Trod enc Try.prog w base spare held 9 v d p) : ∃ s : List UInt8, v = .string (kS s) := by
  obtain ⟨x, rfl, _⟩ := Go.ChangeMaps.open_string Try.underlying9 hval h
  exact ⟨x.toList, by rw [kS_of]⟩
/-- A turn, as it lies in memory. -/
def TuAt (w : World) : Type := { p : Option Addr × Nat × List Cl × Int // Row w p.1 (clc p.2.2.1) ∧ p.2.2.1.length ≤ p.2.1 ∧ p.2.1 ≤ maxLen }
instance : Inhabited (TuAt w) := ⟨⟨(none, 0, [], 0), .inl rfl, Nat.le_refl _, Nat.zero_le _⟩⟩
def tuL (t : TuAt w) : List Value := [.slice t.1.1 t.1.2.2.1.length t.1.2.1, .int .i64 t.1.2.2.2]
theorem tuL_len (t : TuAt w) : (tuL t).length = 2 := rfl
theorem lone_tu {fuel : Nat} {cs : List Value} {x : DataW H × List MemPlace} (hl : cs.length = 2) (h : DataW.trod enc Try.prog w base spare held fuel 41 cs = some x) : ∃ p : TuAt w, cs = tuL p := by
  match cs, hl with
  | [c0, c1], _ =>
    obtain ⟨xs, n, _, _, _, hlen, hg⟩ := DataW.trod_struct Try.underlying41 h
    have hl : xs.length = 2 := hlen
    match xs, hl with
    | [y0, y1], _ =>
      obtain ⟨A, c, ls, rfl, h1, h2, h3⟩ := openCellsS (x := y0) (by simpa [socells_int, socells_sl] using hg 0 _ rfl)
      obtain ⟨z, rfl⟩ := lone_intS (x := y1) (by simpa [socells_int, socells_sl] using hg 1 _ rfl)
      exact ⟨⟨(A, c, ls, z), h3, h1, h2⟩, rfl⟩
theorem openTurns {v : Value} {d : DataW H} {p : List MemPlace} {r : Reach} {b0 : Nat} (hval : Value.okWide Try.prog w r b0 39 v) (h : DataW.Trod enc Try.prog w base spare held 39 v d p) :
    ∃ (l : List (TuAt w)) (A : Option Addr) (c : Nat), v = .slice A l.length c ∧ l.length ≤ maxLen ∧ Row w A (l.flatMap tuL) := by
  obtain ⟨A, c, xs, h1, h2, h3, h4⟩ := Gen.openRow (f := tuL) Try.underlying39 socells_tu (by omega) tuL_len (fun fuel cs x hl hx => lone_tu hl hx) hval h
  exact ⟨xs, A, c, h1, Nat.le_trans h2 h3, h4⟩
end
theorem lawSmall (A : Option Addr) (n c : Nat) (B : Option Addr) (m d : Nat) (dn : Bool) (r : Bool) (hr : r = (decide (n ≤ 100) && decide (m ≤ 100))) (w : World) : Calls Try.prog 9 #[srV A n c B m d dn] w (TellsB r w) := by
  have HB := Lib.hid (below_al (o := .cells (srC A n c B m d dn) 24) (Below.refl w.heap.size w))
  by_cases hn : n ≤ 100
  · have g1 : decide ((n : Int) ≤ 100) = true := decide_eq_true (by omega)
    have HR : Hid (r = decide ((m : Int) ≤ 100)) := Lib.hid (by rw [hr, decide_eq_true hn, Bool.true_and]; exact decide_eq_decide.2 (by omega))
    clear hr hn
    go_enter Try.func9, Try.ntmps9
    go_wp2_with fail
    go_ret
    exact ⟨by rw [HR.out]; rfl, HB.out⟩
  · have g1 : decide ((n : Int) ≤ 100) = false := decide_eq_false (by omega)
    have HR : Hid (r = false) := Lib.hid (by rw [hr, decide_eq_false hn, Bool.false_and])
    clear hr hn
    go_enter Try.func9, Try.ntmps9
    go_wp2_with fail
    go_ret
    exact ⟨by rw [HR.out]; rfl, HB.out⟩
end So
end Go.Proofs.Ytpjgdpdgfchhkaa
