/- Arguments of the laws: results, sinks. -/
import Derived.Test.YtmkbdlailffjeaaSinkLim
import Derived.SizedLaws
import Derived.Carry
import Derived.OpenShut
namespace Go.Proofs.Ytmkbdlailffjeaa
open Go.ChangeShapes Go.WideShapes Go.ChangeAt Go.RowKit
set_option linter.unusedVariables false
set_option maxRecDepth 8000
namespace Sk
open Gen
theorem skcells_int : Try.prog.cellsOf 3 = 1 := by kernel_rfl
theorem skcells_i64 : Try.prog.cellsOf 2 = 1 := by kernel_rfl
theorem skcells_str : Try.prog.cellsOf 9 = 1 := by kernel_rfl
theorem skcells_win : Try.prog.cellsOf 27 = 2 := by kernel_rfl
theorem skcells_res : Try.prog.cellsOf 29 = 5 := by kernel_rfl
theorem skcells_sl : Try.prog.cellsOf 22 = 1 := by kernel_rfl
theorem skcells_sg : Try.prog.cellsOf 50 = 2 := by kernel_rfl
theorem skcells_sgs : Try.prog.cellsOf 23 = 1 := by kernel_rfl
theorem skcells_sk : Try.prog.cellsOf 25 = 4 := by kernel_rfl
section
variable {H : Type} {enc : TypeId × Value → H} {w : World} {base : Nat} {spare : Nat → Bool} {held : Bool}
theorem lone_intK {fuel : Nat} {c : Value} {x : DataW H × List MemPlace} (h : DataW.trod enc Try.prog w base spare held fuel 3 [c] = some x) : ∃ z : Int, c = .int .i64 z := by
  obtain ⟨z, h1, _, h3⟩ := DataW.trod_int Try.underlying3 h
  exact ⟨z, by simpa using h1⟩
theorem lone_i64K {fuel : Nat} {c : Value} {x : DataW H × List MemPlace} (h : DataW.trod enc Try.prog w base spare held fuel 2 [c] = some x) : ∃ z : Int, c = .int .i64 z := by
  obtain ⟨z, h1, _, h3⟩ := DataW.trod_int Try.underlying2 h
  exact ⟨z, by simpa using h1⟩
theorem lone_strK {fuel : Nat} {c : Value} {x : DataW H × List MemPlace} (h : DataW.trod enc Try.prog w base spare held fuel 9 [c] = some x) : ∃ s : ByteArray, c = .string s := by
  obtain ⟨s, h1, _, h3⟩ := DataW.trod_string Try.underlying9 h
  exact ⟨s, by simpa using h1⟩
theorem lone_winK {fuel : Nat} {c0 c1 : Value} {x : DataW H × List MemPlace} (h : DataW.trod enc Try.prog w base spare held fuel 27 [c0, c1] = some x) : ∃ a v : Int, c0 = .int .i64 a ∧ c1 = .int .i64 v := by
  obtain ⟨xs, n, _, _, _, hlen, hg⟩ := DataW.trod_struct Try.underlying27 h
  have hl : xs.length = 2 := hlen
  match xs, hl with
  | [y0, y1], _ =>
    obtain ⟨a, rfl⟩ := lone_i64K (x := y0) (by simpa [skcells_i64] using hg 0 _ rfl)
    obtain ⟨v, rfl⟩ := lone_i64K (x := y1) (by simpa [skcells_i64] using hg 1 _ rfl)
    exact ⟨a, v, rfl, rfl⟩
theorem lone_reK {fuel : Nat} {cs : List Value} {x : DataW H × List MemPlace} (hl : cs.length = 5) (h : DataW.trod enc Try.prog w base spare held fuel 29 cs = some x) : ∃ p : Re, cs = reL p := by
  match cs, hl with
  | [c0, c1, c2, c3, c4], _ =>
    obtain ⟨xs, n, _, _, _, hlen, hg⟩ := DataW.trod_struct Try.underlying29 h
    have hl : xs.length = 4 := hlen
    match xs, hl with
    | [y0, y1, y2, y3], _ =>
      obtain ⟨lo, hi, rfl, rfl⟩ := lone_winK (x := y0) (by simpa [skcells_win] using hg 0 _ rfl)
      obtain ⟨k, rfl⟩ := lone_strK (x := y1) (by simpa [skcells_str] using hg 1 _ rfl)
      obtain ⟨n, rfl⟩ := lone_i64K (x := y2) (by simpa [skcells_i64] using hg 2 _ rfl)
      obtain ⟨v, rfl⟩ := lone_i64K (x := y3) (by simpa [skcells_i64] using hg 3 _ rfl)
      exact ⟨⟨lo, hi, k, n, v⟩, rfl⟩
theorem openResult {r : Reach} {b0 : Nat} {v : Value} {d : DataW H} {p : List MemPlace} (hv : Value.okWide Try.prog w r b0 29 v) (h : DataW.Trod enc Try.prog w base spare held 29 v d p) : ∃ a : Re, v = reV a := by
  obtain ⟨cs, rfl, hsz⟩ := okWide_struct Try.underlying29 hv
  obtain ⟨l⟩ := cs
  obtain ⟨fuel, hf⟩ := h
  obtain ⟨a, ha⟩ := lone_reK (hsz.trans skcells_res) (show DataW.trod enc Try.prog w base spare held fuel 29 l = some (d, p) by simpa [Value.cells] using hf)
  exact ⟨a, congrArg Value.agg (Array.toList_inj.1 ha)⟩
/-- What weighs no more than can be reached. -/
def Light (P : Program) (t : TypeId) (d : DataW H) : Prop := ∀ n ∈ d.weights P t, n ≤ reachBytes
theorem light_arg {P : Program} {ts : List TypeId} {ds : List (DataW H)} (h : (DataW.weightsEach P ts ds).all (· ≤ reachBytes) = true) {j : Nat} {t : TypeId} {d : DataW H} (ht : ts[j]? = some t) (hd : ds[j]? = some d) : Light P t d :=
  fun n hn => of_decide_eq_true (List.all_eq_true.1 h _ (DataW.weights_mem_each ht hd n hn))
theorem light_field {P : Program} {t : TypeId} {fs : Array Field} {parts : List (DataW H)} (ht : P.underlying t = some (.struct fs)) (h : Light P t (.agg parts)) {i : Nat} {f : Field} {d : DataW H} (hf : fs[i]? = some f) (hd : parts[i]? = some d) : Light P f.type d :=
  fun n hn => h n (by
    simp only [DataW.weights, ht]
    exact DataW.weights_mem_each (by rw [List.getElem?_map, Array.getElem?_toList, hf]; rfl) hd n hn)
theorem weightsAll_memK {P : Program} {e : TypeId} : ∀ {l : List (DataW H)} {d : DataW H}, d ∈ l → ∀ n ∈ d.weights P e, n ∈ DataW.weightsAll P e l
  | d' :: r, d, hd, n, hn => by
    simp only [DataW.weightsAll, List.mem_append]
    rcases List.mem_cons.1 hd with rfl | h
    · exact Or.inl hn
    · exact Or.inr (weightsAll_memK h n hn)
theorem light_slice {P : Program} {t e : TypeId} {elems sp : List (DataW H)} (ht : P.underlying t = some (.slice e)) (h : Light P t (.slice elems sp)) : (elems.length + sp.length) * P.bytesOf e ≤ reachBytes ∧ ∀ d ∈ elems, Light P e d :=
  ⟨h _ (by simp [DataW.weights, ht]), fun d hd n hn => h n (by
    simp only [DataW.weights, ht, List.mem_cons, List.mem_append]
    exact Or.inr (Or.inl (weightsAll_memK hd n hn)))⟩
/-- A row of things of n cells that came in, as it is found in a cell. -/
theorem openRowK {α : Type} [Inhabited α] {P : Program} {t e : TypeId} {n : Nat} {f : α → List Value} {fuel : Nat} {c0 : Value} {x : DataW H × List MemPlace} (ht : P.underlying t = some (.slice e)) (hc : P.cellsOf e = n) (h0 : 0 < n) (hf : ∀ x, (f x).length = n)
    (hone : ∀ (fuel : Nat) (cs : List Value) (x : DataW H × List MemPlace), cs.length = n → DataW.trod enc P w base spare held fuel e cs = some x → Light P e x.1 → ∃ p : α, cs = f p)
    (hfu : DataW.trod enc P w base spare held fuel t [c0] = some x) (hL : Light P t x.1) :
    ∃ (A : Option Addr) (c : Nat) (xs : List α), c0 = .slice A xs.length c ∧ xs.length ≤ c ∧ c ≤ maxLen ∧ Row w A (xs.flatMap f) ∧ xs.length * P.bytesOf e ≤ reachBytes := by
  rcases Deep.open_slice ht hfu with ⟨h1, h2⟩ | ⟨a, len, cap, m, k, D, Pl, h1, hb, hl, hm, hmm, h2, hx⟩
  · simp only [List.cons.injEq, and_true] at h1
    subst h1
    exact ⟨none, 0, [], rfl, Nat.le_refl _, by simp [maxLen], .inl rfl, by simp⟩
  · subst h2
    obtain ⟨hw1, hw2⟩ := light_slice ht hL
    rw [List.length_map, List.length_range] at hw1
    have hw3 : len * P.bytesOf e ≤ reachBytes := Nat.le_trans (Nat.mul_le_mul_right _ (Nat.le_add_right _ _)) hw1
    simp only [List.cons.injEq, and_true] at h1
    subst h1
    have hlm : len ≤ m := by rw [hmm]; split <;> omega
    have each : ∀ i, i < len → ∃ q : α, ∀ j u, (f q)[j]? = some u → w.cell? ((a.add (i * n)).add j) = some u := by
      intro i hi
      obtain ⟨cs', g1, g2⟩ := hx i (by omega)
      rw [hc] at g1
      obtain ⟨_, hlen, hcell⟩ := World.cells?_some g1
      obtain ⟨q, rfl⟩ := hone _ _ _ hlen g2 (hw2 _ (List.mem_map.2 ⟨i, List.mem_range.2 hi, rfl⟩))
      refine ⟨q, fun j u hu => ?_⟩
      have hj : j < n := by rw [← hf q]; exact (List.getElem?_eq_some_iff.1 hu).1
      have := hcell j hj
      rw [this]
      simpa using hu
    obtain ⟨q, hq⟩ := Deep.choose_lt each
    obtain ⟨xs, hxs⟩ : ∃ xs : List α, xs = (List.range len).map q := ⟨_, rfl⟩
    have hlx : xs.length = len := by rw [hxs]; simp
    refine ⟨some a, cap, xs, by rw [hlx], by rw [hlx]; exact hl, hm, ?_, by rw [hlx]; exact hw3⟩
    rcases Nat.eq_zero_or_pos len with hz | hz
    · subst hz; rw [List.eq_nil_of_length_eq_zero hlx]; exact .inl rfl
    · obtain ⟨b, off, spot⟩ := a
      have hspot : spot = none := by
        have hfl := hf (q 0)
        obtain ⟨u, hu⟩ : ∃ u, (f (q 0))[0]? = some u := ⟨_, List.getElem?_eq_getElem (by omega)⟩
        have g := hq 0 (by omega) 0 u hu
        have g2 : w.cell? (⟨b, off, spot⟩ : Addr) = some u := by simpa [Addr.add] using g
        simpa using World.cell?_spot g2
      subst hspot
      refine .inr ⟨b, off, rfl, fun j u hu => ?_⟩
      have hj : j < len * n := by
        have := (List.getElem?_eq_some_iff.1 hu).1
        rwa [flat_len f hf, hlx] at this
      have hdiv : j / n < len := Nat.div_lt_of_lt_mul (by rwa [Nat.mul_comm] at hj)
      have hmod : j % n < n := Nat.mod_lt _ h0
      have hsum : j / n * n + j % n = j := by rw [Nat.mul_comm]; exact Nat.div_add_mod j n
      have hget : xs[j / n]? = some (q (j / n)) := by rw [hxs]; simp [hdiv]
      have := flat_get f hf hget hmod
      rw [hsum, hu] at this
      have g := hq (j / n) (by omega) (j % n) u this.symm
      rw [Go.WideShapes.add_plain, Go.WideShapes.add_plain] at g
      rw [← hsum, ← Nat.add_assoc]
      exact g
theorem skbytes_res : Try.prog.bytesOf 29 = 48 := by kernel_rfl
theorem openResK {fuel : Nat} {c0 : Value} {x : DataW H × List MemPlace} (h : DataW.trod enc Try.prog w base spare held fuel 22 [c0] = some x) (hL : Light Try.prog 22 x.1) :
    ∃ (A : Option Addr) (c : Nat) (xs : List Re), c0 = .slice A xs.length c ∧ xs.length ≤ c ∧ c ≤ maxLen ∧ Row w A (rec_ xs) ∧ xs.length ≤ 140737488355328 := by
  obtain ⟨A, c, xs, h1, h2, h3, h4, h5⟩ := openRowK (f := reL) Try.underlying22 skcells_res (by omega) reL_len (fun fuel cs x hl hx _ => lone_reK hl hx) h hL
  rw [skbytes_res] at h5
  unfold reachBytes at h5
  exact ⟨A, c, xs, h1, h2, h3, h4, by omega⟩
/-- A stage, as it lies in memory. -/
def SgAt (w : World) : Type := { p : Sg // Row w p.2.1 (rec_ p.2.2.2) ∧ p.2.2.2.length ≤ p.2.2.1 ∧ p.2.2.2.length ≤ 140737488355328 }
instance : Inhabited (SgAt w) := ⟨⟨(0, none, 0, []), .inl rfl, Nat.le_refl _, Nat.zero_le _⟩⟩
def sgM (t : SgAt w) : List Value := sgL t.1
theorem sgM_len (t : SgAt w) : (sgM t).length = 2 := rfl
theorem lone_sgK {fuel : Nat} {cs : List Value} {x : DataW H × List MemPlace} (hl : cs.length = 2) (h : DataW.trod enc Try.prog w base spare held fuel 50 cs = some x) (hL : Light Try.prog 50 x.1) : ∃ p : SgAt w, cs = sgM p := by
  match cs, hl with
  | [c0, c1], _ =>
    obtain ⟨xs, n, _, hxe, _, hlen, hg⟩ := DataW.trod_struct Try.underlying50 h
    subst hxe
    have hl : xs.length = 2 := hlen
    match xs, hl with
    | [y0, y1], _ =>
      obtain ⟨z, rfl⟩ := lone_intK (x := y0) (by simpa [skcells_int, skcells_sl] using hg 0 _ rfl)
      obtain ⟨A, c, ls, rfl, h1, h2, h3, h4⟩ := openResK (x := y1) (by simpa [skcells_int, skcells_sl] using hg 1 _ rfl) (light_field Try.underlying50 hL (i := 1) rfl rfl)
      exact ⟨⟨(z, A, c, ls), h3, h1, h4⟩, rfl⟩
theorem openSgsK {fuel : Nat} {c0 : Value} {x : DataW H × List MemPlace} (h : DataW.trod enc Try.prog w base spare held fuel 23 [c0] = some x) (hL : Light Try.prog 23 x.1) :
    ∃ (S : Option Addr) (c : Nat) (sg : List Sg), c0 = .slice S sg.length c ∧ sg.length ≤ c ∧ c ≤ maxLen ∧ GAt w S sg ∧ ∀ x ∈ sg, x.2.2.2.length ≤ x.2.2.1 ∧ x.2.2.2.length ≤ 140737488355328 := by
  obtain ⟨S, c, xs, h1, h2, h3, h4, _⟩ := openRowK (f := sgM) Try.underlying23 skcells_sg (by omega) sgM_len (fun fuel cs x hl hx hL => lone_sgK hl hx hL) h hL
  have e : xs.flatMap sgM = sgc (xs.map (fun t => t.1)) := by
    rw [show sgc (xs.map (fun t => t.1)) = (xs.map (fun t => t.1)).flatMap sgL from rfl, List.flatMap_map]; rfl
  rw [e] at h4
  refine ⟨S, c, xs.map (fun t => t.1), by rw [List.length_map]; exact h1, by rw [List.length_map]; exact h2, h3, ⟨h4, ?_⟩, ?_⟩
  · intro x hx
    obtain ⟨t, _, rfl⟩ := List.mem_map.1 hx
    exact t.2.1
  · intro x hx
    obtain ⟨t, _, rfl⟩ := List.mem_map.1 hx
    exact t.2.2
/-- A sink that came in. -/
theorem openSink {v : Value} {d : DataW H} {p : List MemPlace} {r : Reach} {b0 : Nat} (hval : Value.okWide Try.prog w r b0 25 v) (h : DataW.Trod enc Try.prog w base spare held 25 v d p) (hL : Light Try.prog 25 d) :
    ∃ (s : Si) (no ns nu : Nat) (O : Option Addr) (cO : Nat) (S : Option Addr) (cS : Nat) (U : Option Addr) (cU : Nat), v = skV O no cO S ns cS s.last U nu cU ∧ SkAt w s no ns nu O cO S cS U cU ∧ (ns ≤ 20 → Lim s) := by
  obtain ⟨cs, rfl, hsz⟩ := okWide_struct Try.underlying25 hval
  obtain ⟨l⟩ := cs
  match l, hsz.trans skcells_sk with
  | [c0, c1, c2, c3], _ =>
    obtain ⟨fuel, hf⟩ := h
    have h : DataW.trod enc Try.prog w base spare held fuel 25 [c0, c1, c2, c3] = some (d, p) := by simpa [Value.cells] using hf
    obtain ⟨xs, n, _, hxe, _, hlen, hg⟩ := DataW.trod_struct Try.underlying25 h
    have hl : xs.length = 4 := hlen
    match xs, hl with
    | [y0, y1, y2, y3], _ =>
      cases hxe
      obtain ⟨O, cO, lo, rfl, a1, a2, a3, a4⟩ := openResK (x := y0) (by simpa [skcells_int, skcells_sl, skcells_sgs] using hg 0 _ rfl) (light_field Try.underlying25 hL (i := 0) rfl rfl)
      obtain ⟨S, cS, sg, rfl, b1, b2, b3, b4⟩ := openSgsK (x := y1) (by simpa [skcells_int, skcells_sl, skcells_sgs] using hg 1 _ rfl) (light_field Try.underlying25 hL (i := 1) rfl rfl)
      obtain ⟨z, rfl⟩ := lone_intK (x := y2) (by simpa [skcells_int, skcells_sl, skcells_sgs] using hg 2 _ rfl)
      obtain ⟨U, cU, lu, rfl, d1, d2, d3, d4⟩ := openResK (x := y3) (by simpa [skcells_int, skcells_sl, skcells_sgs] using hg 3 _ rfl) (light_field Try.underlying25 hL (i := 3) rfl rfl)
      refine ⟨⟨lo, sg.map pgOf, z, lu⟩, lo.length, sg.length, lu.length, O, cO, S, cS, U, cU, rfl, ⟨sg, ⟨rfl, by simp, rfl, a3, b3, d3, rfl, a1, b1, d1, fun x hx => (b4 x hx).1⟩⟩, fun h20 => ⟨a4, d4, by show (sg.map pgOf).length ≤ 1000; rw [List.length_map]; omega, fun x hx => ?_⟩⟩
      obtain ⟨y, hy, rfl⟩ := List.mem_map.1 hx
      exact (b4 y hy).2
/-- An act: what, n, the result. -/
abbrev Ak := Int × Int × Re
instance : Inhabited Ak := ⟨(0, 0, default)⟩
def akL (x : Ak) : List Value := .int .i64 x.1 :: .int .i64 x.2.1 :: reL x.2.2
abbrev akc (l : List Ak) : List Value := l.flatMap akL
theorem akL_len (x : Ak) : (akL x).length = 7 := rfl
theorem lone_akK {fuel : Nat} {cs : List Value} {x : DataW H × List MemPlace} (hl : cs.length = 7) (h : DataW.trod enc Try.prog w base spare held fuel 43 cs = some x) : ∃ p : Ak, cs = akL p := by
  match cs, hl with
  | [c0, c1, c2, c3, c4, c5, c6], _ =>
    obtain ⟨xs, n, _, _, _, hlen, hg⟩ := DataW.trod_struct Try.underlying43 h
    have hl : xs.length = 3 := hlen
    match xs, hl with
    | [y0, y1, y2], _ =>
      obtain ⟨a, rfl⟩ := lone_intK (x := y0) (by simpa [skcells_int, skcells_res] using hg 0 _ rfl)
      obtain ⟨b, rfl⟩ := lone_intK (x := y1) (by simpa [skcells_int, skcells_res] using hg 1 _ rfl)
      obtain ⟨r, hr⟩ := lone_reK (x := y2) (cs := [c2, c3, c4, c5, c6]) rfl (by simpa [skcells_int, skcells_res] using hg 2 _ rfl)
      exact ⟨(a, b, r), by rw [hr]; rfl⟩
theorem openActsK {v : Value} {d : DataW H} {p : List MemPlace} {r : Reach} {b0 : Nat} (hval : Value.okWide Try.prog w r b0 40 v) (h : DataW.Trod enc Try.prog w base spare held 40 v d p) :
    ∃ (l : List Ak) (A : Option Addr) (c : Nat), v = .slice A l.length c ∧ l.length ≤ maxLen ∧ Row w A (akc l) := by
  obtain ⟨A, c, xs, h1, h2, h3, h4⟩ := Gen.openRow (f := akL) Try.underlying40 (by kernel_rfl) (by omega) akL_len (fun fuel cs x hl hx => lone_akK hl hx) hval h
  exact ⟨xs, A, c, h1, Nat.le_trans h2 h3, h4⟩
end
end Sk
end Go.Proofs.Ytmkbdlailffjeaa
