/- Arguments of the laws: tables, acts; the law's small, alive. -/
import Derived.Test.YtgoapkbpcfbipaaLeaseO
import Derived.Test.YtgoapkbpcfbipaaLift
namespace Go.Proofs.Ytgoapkbpcfbipaa
open Go.ChangeShapes Go.WideShapes Go.ChangeAt Go.RowKit
set_option linter.unusedVariables false
set_option maxRecDepth 8000
namespace Ls
open Gen
theorem lscells_int : Try.prog.cellsOf 3 = 1 := by kernel_rfl
theorem lscells_i64 : Try.prog.cellsOf 2 = 1 := by kernel_rfl
theorem lscells_sl : Try.prog.cellsOf 22 = 1 := by kernel_rfl
theorem lscells_le : Try.prog.cellsOf 47 = 3 := by kernel_rfl
theorem lscells_tb : Try.prog.cellsOf 24 = 2 := by kernel_rfl
theorem lscells_ac : Try.prog.cellsOf 44 = 6 := by kernel_rfl
/-- What is asked. -/
structure Ac where
  wh : Int
  gr : Int
  wk : Int
  tk : Int
  by_ : Int
  lo : Int
instance : Inhabited Ac := ⟨⟨0, 0, 0, 0, 0, 0⟩⟩
abbrev acL (a : Ac) : List Value := [.int .i64 a.wh, .int .i64 a.gr, .int .i64 a.wk, .int .i64 a.tk, .int .i64 a.by_, .int .i64 a.lo]
abbrev acs (l : List Ac) : List Value := l.flatMap acL
section
variable {H : Type} {enc : TypeId × Value → H} {w : World} {base : Nat} {spare : Nat → Bool} {held : Bool}
theorem lone_intS {fuel : Nat} {c : Value} {x : DataW H × List MemPlace} (h : DataW.trod enc Try.prog w base spare held fuel 3 [c] = some x) : ∃ z : Int, c = .int .i64 z := by
  obtain ⟨z, h1, _, h3⟩ := DataW.trod_int Try.underlying3 h
  exact ⟨z, by simpa using h1⟩
theorem lone_i64S {fuel : Nat} {c : Value} {x : DataW H × List MemPlace} (h : DataW.trod enc Try.prog w base spare held fuel 2 [c] = some x) : ∃ z : Int, c = .int .i64 z := by
  obtain ⟨z, h1, _, h3⟩ := DataW.trod_int Try.underlying2 h
  exact ⟨z, by simpa using h1⟩
/-- A row of things of n cells that came in, as it is found in a cell. -/
theorem openRowS {α : Type} [Inhabited α] {P : Program} {t e : TypeId} {n : Nat} {f : α → List Value} {fuel : Nat} {c0 : Value} {x : DataW H × List MemPlace} (ht : P.underlying t = some (.slice e)) (hc : P.cellsOf e = n) (h0 : 0 < n) (hf : ∀ x, (f x).length = n)
    (hone : ∀ (fuel : Nat) (cs : List Value) (x : DataW H × List MemPlace), cs.length = n → DataW.trod enc P w base spare held fuel e cs = some x → ∃ p : α, cs = f p)
    (hfu : DataW.trod enc P w base spare held fuel t [c0] = some x) :
    ∃ (A : Option Addr) (c : Nat) (xs : List α), c0 = .slice A xs.length c ∧ xs.length ≤ c ∧ c ≤ maxLen ∧ Row w A (xs.flatMap f) := by
  rcases Deep.open_slice ht hfu with ⟨h1, h2⟩ | ⟨a, len, cap, m, k, D, Pl, h1, hb, hl, hm, hmm, h2, hx⟩
  · simp only [List.cons.injEq, and_true] at h1
    subst h1
    exact ⟨none, 0, [], rfl, Nat.le_refl _, by simp [maxLen], .inl rfl⟩
  · simp only [List.cons.injEq, and_true] at h1
    subst h1
    have hlm : len ≤ m := by rw [hmm]; split <;> omega
    have each : ∀ i, i < m → ∃ q : α, ∀ j u, (f q)[j]? = some u → w.cell? ((a.add (i * n)).add j) = some u := by
      intro i hi
      obtain ⟨cs', g1, g2⟩ := hx i hi
      rw [hc] at g1
      obtain ⟨_, hlen, hcell⟩ := World.cells?_some g1
      obtain ⟨q, rfl⟩ := hone _ _ _ hlen g2
      refine ⟨q, fun j u hu => ?_⟩
      have hj : j < n := by rw [← hf q]; exact (List.getElem?_eq_some_iff.1 hu).1
      have := hcell j hj
      rw [this]
      simpa using hu
    obtain ⟨q, hq⟩ := Deep.choose_lt each
    obtain ⟨xs, hxs⟩ : ∃ xs : List α, xs = (List.range len).map q := ⟨_, rfl⟩
    have hlx : xs.length = len := by rw [hxs]; simp
    refine ⟨some a, cap, xs, by rw [hlx], by rw [hlx]; exact hl, hm, ?_⟩
    rcases Nat.eq_zero_or_pos len with hz | hz
    · subst hz; rw [List.eq_nil_of_length_eq_zero hlx]; exact .inl rfl
    · obtain ⟨b, off, spot⟩ := a
      have hspot : spot = none := by
        have hfl := hf (q 0)
        obtain ⟨u, hu⟩ : ∃ u, (f (q 0))[0]? = some u := ⟨_, List.getElem?_eq_getElem (by omega)⟩
        have g := hq 0 (by omega) 0 u hu
        have g2 : w.cell? (⟨b, off, spot⟩ : Addr) = some u := by simpa [Addr.add] using g
        simpa using World.cell?_spot g2
      subst hspot
      refine .inr ⟨b, off, rfl, fun j u hu => ?_⟩
      have hj : j < len * n := by
        have := (List.getElem?_eq_some_iff.1 hu).1
        rwa [flat_len f hf, hlx] at this
      have hdiv : j / n < len := Nat.div_lt_of_lt_mul (by rwa [Nat.mul_comm] at hj)
      have hmod : j % n < n := Nat.mod_lt _ h0
      have hsum : j / n * n + j % n = j := by rw [Nat.mul_comm]; exact Nat.div_add_mod j n
      have hget : xs[j / n]? = some (q (j / n)) := by rw [hxs]; simp [hdiv]
      have := flat_get f hf hget hmod
      rw [hsum, hu] at this
      have g := hq (j / n) (by omega) (j % n) u this.symm
      rw [Go.WideShapes.add_plain, Go.WideShapes.add_plain] at g
      rw [← hsum, ← Nat.add_assoc]
      exact g
theorem lone_le {fuel : Nat} {cs : List Value} {x : DataW H × List MemPlace} (hl : cs.length = 3) (h : DataW.trod enc Try.prog w base spare held fuel 47 cs = some x) : ∃ p : Le, cs = leL p := by
  match cs, hl with
  | [c0, c1, c2], _ =>
    obtain ⟨xs, n, _, _, _, hlen, hg⟩ := DataW.trod_struct Try.underlying47 h
    have hl : xs.length = 3 := hlen
    match xs, hl with
    | [y0, y1, y2], _ =>
      obtain ⟨a, rfl⟩ := lone_intS (x := y0) (by simpa [lscells_i64, lscells_int] using hg 0 _ rfl)
      obtain ⟨b, rfl⟩ := lone_intS (x := y1) (by simpa [lscells_i64, lscells_int] using hg 1 _ rfl)
      obtain ⟨v, rfl⟩ := lone_i64S (x := y2) (by simpa [lscells_i64, lscells_int] using hg 2 _ rfl)
      exact ⟨⟨a, b, v⟩, rfl⟩
theorem lone_ac {fuel : Nat} {cs : List Value} {x : DataW H × List MemPlace} (hl : cs.length = 6) (h : DataW.trod enc Try.prog w base spare held fuel 44 cs = some x) : ∃ p : Ac, cs = acL p := by
  match cs, hl with
  | [c0, c1, c2, c3, c4, c5], _ =>
    obtain ⟨xs, n, _, _, _, hlen, hg⟩ := DataW.trod_struct Try.underlying44 h
    have hl : xs.length = 6 := hlen
    match xs, hl with
    | [y0, y1, y2, y3, y4, y5], _ =>
      obtain ⟨a, rfl⟩ := lone_intS (x := y0) (by simpa [lscells_i64, lscells_int] using hg 0 _ rfl)
      obtain ⟨b, rfl⟩ := lone_intS (x := y1) (by simpa [lscells_i64, lscells_int] using hg 1 _ rfl)
      obtain ⟨c, rfl⟩ := lone_intS (x := y2) (by simpa [lscells_i64, lscells_int] using hg 2 _ rfl)
      obtain ⟨d, rfl⟩ := lone_intS (x := y3) (by simpa [lscells_i64, lscells_int] using hg 3 _ rfl)
      obtain ⟨e, rfl⟩ := lone_i64S (x := y4) (by simpa [lscells_i64, lscells_int] using hg 4 _ rfl)
      obtain ⟨f, rfl⟩ := lone_i64S (x := y5) (by simpa [lscells_i64, lscells_int] using hg 5 _ rfl)
      exact ⟨⟨a, b, c, d, e, f⟩, rfl⟩
theorem openTable {v : Value} {d : DataW H} {p : List MemPlace} {r : Reach} {b0 : Nat} (hval : Value.okWide Try.prog w r b0 24 v) (h : DataW.Trod enc Try.prog w base spare held 24 v d p) :
    ∃ (ls : List Le) (last : Int) (A : Option Addr) (c : Nat), v = .agg #[.slice A ls.length c, .int .i64 last] ∧ ls.length ≤ c ∧ Row w A (lec ls) := by
  obtain ⟨cs, rfl, hsz⟩ := okWide_struct Try.underlying24 hval
  obtain ⟨l⟩ := cs
  match l, hsz.trans lscells_tb with
  | [c0, c1], _ =>
    obtain ⟨fuel, hf⟩ := h
    have h : DataW.trod enc Try.prog w base spare held fuel 24 [c0, c1] = some (d, p) := by simpa [Value.cells] using hf
    obtain ⟨xs, n, _, _, _, hlen, hg⟩ := DataW.trod_struct Try.underlying24 h
    have hl : xs.length = 2 := hlen
    match xs, hl with
    | [y0, y1], _ =>
      obtain ⟨A, c, ls, rfl, h1, h2, h3⟩ := openRowS (x := y0) (f := leL) Try.underlying22 lscells_le (by omega) leL_len (fun fuel cs x hl hx => lone_le hl hx) (by simpa [lscells_int, lscells_sl] using hg 0 _ rfl)
      obtain ⟨la, rfl⟩ := lone_intS (x := y1) (by simpa [lscells_int, lscells_sl] using hg 1 _ rfl)
      exact ⟨ls, la, A, c, rfl, h1, h3⟩
theorem openActs {v : Value} {d : DataW H} {p : List MemPlace} {r : Reach} {b0 : Nat} (hval : Value.okWide Try.prog w r b0 41 v) (h : DataW.Trod enc Try.prog w base spare held 41 v d p) :
    ∃ (l : List Ac) (A : Option Addr) (c : Nat), v = .slice A l.length c ∧ Row w A (acs l) := by
  obtain ⟨A, c, xs, h1, h2, h3, h4⟩ := Gen.openRow (f := acL) Try.underlying41 lscells_ac (by omega) (fun _ => rfl) (fun fuel cs x hl hx => lone_ac hl hx) hval h
  exact ⟨xs, A, c, h1, h4⟩
end
theorem lawSmall (A : Option Addr) (n c : Nat) (last : Int) (r : Bool) (hr : r = decide (n ≤ 100)) (w : World) : Calls Try.prog 9 #[.agg #[.slice A n c, .int .i64 last]] w (TellsB r w) := by
  have HB := Lib.hid (below_al (o := .cells #[.slice A n c, .int .i64 last] 24) (Below.refl w.heap.size w))
  have HR : Hid (r = decide ((n : Int) ≤ 100)) := Lib.hid (by rw [hr]; exact decide_eq_decide.2 (by omega))
  clear hr
  go_enter Try.func9, Try.ntmps9
  go_wp2_with fail
  go_ret
  exact ⟨by rw [HR.out]; rfl, HB.out⟩
theorem lawAlive (w : World) : Calls Try.prog 12 #[] w (TellsB true w) := by
  have HN := Lib.hid (fun w' => ckNew 1 (⟨[⟨0, 0, 0⟩], 0⟩, 0) rfl 1 rfl w')
  go_enter Try.func12, Try.ntmps12
  go_wp2_with fail
  refine (HN.out _).mono ?_
  rintro e w1 ⟨A1, c1, rfl, h1, hb1⟩
  have HB1 := Lib.hid (below_al (o := .cells #[.slice A1 1 c1, .int .i64 0] 24) hb1)
  clear hb1 h1
  go_wp2_with fail
  go_ret
  exact ⟨rfl, HB1.out⟩
end Ls
end Go.Proofs.Ytgoapkbpcfbipaa
