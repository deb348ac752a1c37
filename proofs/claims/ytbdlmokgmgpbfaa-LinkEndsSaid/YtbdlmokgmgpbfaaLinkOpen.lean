/- Arguments of the laws: senders, receivers, packets, acts; receivers compared. -/
import Derived.Test.YtbdlmokgmgpbfaaLinkLike
import Derived.Test.YtbdlmokgmgpbfaaLift
namespace Go.Proofs.Ytbdlmokgmgpbfaa
open Go.ChangeShapes Go.WideShapes Go.ChangeAt Go.RowKit
set_option linter.unusedVariables false
set_option maxRecDepth 8000
namespace Lk
open Gen
theorem lkcells_int : Try.prog.cellsOf 3 = 1 := by kernel_rfl
theorem lkcells_str : Try.prog.cellsOf 9 = 1 := by kernel_rfl
theorem lkcells_sl : Try.prog.cellsOf 22 = 1 := by kernel_rfl
theorem lkcells_sn : Try.prog.cellsOf 24 = 4 := by kernel_rfl
theorem lkcells_rc : Try.prog.cellsOf 41 = 2 := by kernel_rfl
theorem lkcells_pk : Try.prog.cellsOf 26 = 3 := by kernel_rfl
theorem lkcells_ac : Try.prog.cellsOf 53 = 3 := by kernel_rfl
def inW (n : Int) : Prop := -9223372036854775808 ≤ n ∧ n ≤ 9223372036854775807
theorem wfW {n : Int} (h : (Lit.int .i64 n).wf = true) : inW n := by
  simp [Lit.wf, IntKind.min, IntKind.max, IntKind.bits, IntKind.signed] at h
  unfold inW
  omega
section
variable {H : Type} {enc : TypeId × Value → H} {w : World} {base : Nat} {spare : Nat → Bool} {held : Bool}
theorem lone_intW {fuel : Nat} {c : Value} {x : DataW H × List MemPlace} (h : DataW.trod enc Try.prog w base spare held fuel 3 [c] = some x) : ∃ z : Int, c = .int .i64 z ∧ inW z := by
  obtain ⟨z, h1, _, h3⟩ := DataW.trod_int Try.underlying3 h
  exact ⟨z, by simpa using h1, wfW h3⟩
theorem lone_strW {fuel : Nat} {c : Value} {x : DataW H × List MemPlace} (h : DataW.trod enc Try.prog w base spare held fuel 9 [c] = some x) : ∃ s : ByteArray, c = .string s ∧ s.size ≤ maxLen := by
  obtain ⟨s, h1, _, h3⟩ := DataW.trod_string Try.underlying9 h
  exact ⟨s, by simpa using h1, h3⟩
/-- A row of things of n cells that came in, as it is found in a cell. -/
theorem openRowL {α : Type} [Inhabited α] {P : Program} {t e : TypeId} {n : Nat} {f : α → List Value} {fuel : Nat} {c0 : Value} {x : DataW H × List MemPlace} (ht : P.underlying t = some (.slice e)) (hc : P.cellsOf e = n) (h0 : 0 < n) (hf : ∀ x, (f x).length = n)
    (hone : ∀ (fuel : Nat) (cs : List Value) (x : DataW H × List MemPlace), cs.length = n → DataW.trod enc P w base spare held fuel e cs = some x → ∃ p : α, cs = f p)
    (hfu : DataW.trod enc P w base spare held fuel t [c0] = some x) :
    ∃ (A : Option Addr) (c : Nat) (xs : List α), c0 = .slice A xs.length c ∧ xs.length ≤ c ∧ c ≤ maxLen ∧ Row w A (xs.flatMap f) := by
  rcases Deep.open_slice ht hfu with ⟨h1, h2⟩ | ⟨a, len, cap, m, k, D, Pl, h1, hb, hl, hm, hmm, h2, hx⟩
  · simp only [List.cons.injEq, and_true] at h1
    subst h1
    exact ⟨none, 0, [], rfl, Nat.le_refl _, by simp [maxLen], .inl rfl⟩
  · simp only [List.cons.injEq, and_true] at h1
    subst h1
    have hlm : len ≤ m := by rw [hmm]; split <;> omega
    have each : ∀ i, i < m → ∃ q : α, ∀ j u, (f q)[j]? = some u → w.cell? ((a.add (i * n)).add j) = some u := by
      intro i hi
      obtain ⟨cs', g1, g2⟩ := hx i hi
      rw [hc] at g1
      obtain ⟨_, hlen, hcell⟩ := World.cells?_some g1
      obtain ⟨q, rfl⟩ := hone _ _ _ hlen g2
      refine ⟨q, fun j u hu => ?_⟩
      have hj : j < n := by rw [← hf q]; exact (List.getElem?_eq_some_iff.1 hu).1
      have := hcell j hj
      rw [this]
      simpa using hu
    obtain ⟨q, hq⟩ := Deep.choose_lt each
    obtain ⟨xs, hxs⟩ : ∃ xs : List α, xs = (List.range len).map q := ⟨_, rfl⟩
    have hlx : xs.length = len := by rw [hxs]; simp
    refine ⟨some a, cap, xs, by rw [hlx], by rw [hlx]; exact hl, hm, ?_⟩
    rcases Nat.eq_zero_or_pos len with hz | hz
    · subst hz; rw [List.eq_nil_of_length_eq_zero hlx]; exact .inl rfl
    · obtain ⟨b, off, spot⟩ := a
      have hspot : spot = none := by
        have hfl := hf (q 0)
        obtain ⟨u, hu⟩ : ∃ u, (f (q 0))[0]? = some u := ⟨_, List.getElem?_eq_getElem (by omega)⟩
        have g := hq 0 (by omega) 0 u hu
        have g2 : w.cell? (⟨b, off, spot⟩ : Addr) = some u := by simpa [Addr.add] using g
        simpa using World.cell?_spot g2
      subst hspot
      refine .inr ⟨b, off, rfl, fun j u hu => ?_⟩
      have hj : j < len * n := by
        have := (List.getElem?_eq_some_iff.1 hu).1
        rwa [flat_len f hf, hlx] at this
      have hdiv : j / n < len := Nat.div_lt_of_lt_mul (by rwa [Nat.mul_comm] at hj)
      have hmod : j % n < n := Nat.mod_lt _ h0
      have hsum : j / n * n + j % n = j := by rw [Nat.mul_comm]; exact Nat.div_add_mod j n
      have hget : xs[j / n]? = some (q (j / n)) := by rw [hxs]; simp [hdiv]
      have := flat_get f hf hget hmod
      rw [hsum, hu] at this
      have g := hq (j / n) (by omega) (j % n) u this.symm
      rw [Go.WideShapes.add_plain, Go.WideShapes.add_plain] at g
      rw [← hsum, ← Nat.add_assoc]
      exact g
/-- A row of things of n cells that came in. -/
instance : Inhabited {b : ByteArray // b.size ≤ maxLen} := ⟨⟨ByteArray.empty, Nat.zero_le _⟩⟩
theorem bcs_flat (l : List ByteArray) : l.flatMap (fun b => [Value.string b]) = bcs l := by
  induction l with
  | nil => rfl
  | cons x r ih => rw [List.flatMap_cons, ih]; rfl
theorem openStrsL {fuel : Nat} {c0 : Value} {x : DataW H × List MemPlace} (h : DataW.trod enc Try.prog w base spare held fuel 22 [c0] = some x) :
    ∃ (A : Option Addr) (c : Nat) (bs : List ByteArray), c0 = .slice A bs.length c ∧ bs.length ≤ c ∧ c ≤ maxLen ∧ Row w A (bcs bs) ∧ ∀ b ∈ bs, b.size ≤ maxLen := by
  obtain ⟨A, c, xs, h1, h2, h3, h4⟩ := openRowL (f := fun p : {b : ByteArray // b.size ≤ maxLen} => [Value.string p.1]) Try.underlying22 lkcells_str (by omega) (fun _ => rfl) (fun fuel cs x hl hx => by
    match cs, hl with
    | [c0], _ =>
      obtain ⟨s, rfl, hs⟩ := lone_strW hx
      exact ⟨⟨s, hs⟩, rfl⟩) h
  refine ⟨A, c, xs.map (·.1), by rw [List.length_map]; exact h1, by rw [List.length_map]; exact h2, h3, ?_, fun b hb => ?_⟩
  · rw [← bcs_flat, List.flatMap_map]; exact h4
  · obtain ⟨p, _, rfl⟩ := List.mem_map.1 hb
    exact p.2
theorem openSender {v : Value} {d : DataW H} {p : List MemPlace} {r : Reach} {b0 : Nat} (hval : Value.okWide Try.prog w r b0 24 v) (h : DataW.Trod enc Try.prog w base spare held 24 v d p) :
    ∃ (s : Sn) (A : Option Addr) (c : Nat), v = snV s A c ∧ inW s.epoch ∧ inW s.base ∧ inW s.timer ∧ s.bodies.length ≤ c ∧ c ≤ maxLen ∧ Row w A (bcs s.bodies) ∧ ∀ b ∈ s.bodies, b.size ≤ maxLen := by
  obtain ⟨cs, rfl, hsz⟩ := okWide_struct Try.underlying24 hval
  obtain ⟨l⟩ := cs
  match l, hsz.trans lkcells_sn with
  | [c0, c1, c2, c3], _ =>
    obtain ⟨fuel, hf⟩ := h
    have h : DataW.trod enc Try.prog w base spare held fuel 24 [c0, c1, c2, c3] = some (d, p) := by simpa [Value.cells] using hf
    obtain ⟨xs, n, _, _, _, hlen, hg⟩ := DataW.trod_struct Try.underlying24 h
    have hl : xs.length = 4 := hlen
    match xs, hl with
    | [y0, y1, y2, y3], _ =>
      obtain ⟨ep, rfl, e1⟩ := lone_intW (x := y0) (by simpa [lkcells_int, lkcells_sl] using hg 0 _ rfl)
      obtain ⟨ba, rfl, e2⟩ := lone_intW (x := y1) (by simpa [lkcells_int, lkcells_sl] using hg 1 _ rfl)
      obtain ⟨A, c, bs, rfl, h1, h2, h3, h4⟩ := openStrsL (x := y2) (by simpa [lkcells_int, lkcells_sl] using hg 2 _ rfl)
      obtain ⟨ti, rfl, e3⟩ := lone_intW (x := y3) (by simpa [lkcells_int, lkcells_sl] using hg 3 _ rfl)
      exact ⟨⟨ep, ba, bs, ti⟩, A, c, rfl, e1, e2, e3, h1, h2, h3, h4⟩
theorem openReceiver {v : Value} {d : DataW H} {p : List MemPlace} {r : Reach} {b0 : Nat} (hval : Value.okWide Try.prog w r b0 41 v) (h : DataW.Trod enc Try.prog w base spare held 41 v d p) :
    ∃ (s : Rc), v = rvV s := by
  obtain ⟨cs, rfl, hsz⟩ := okWide_struct Try.underlying41 hval
  obtain ⟨l⟩ := cs
  match l, hsz.trans lkcells_rc with
  | [c0, c1], _ =>
    obtain ⟨fuel, hf⟩ := h
    have h : DataW.trod enc Try.prog w base spare held fuel 41 [c0, c1] = some (d, p) := by simpa [Value.cells] using hf
    obtain ⟨xs, n, _, _, _, hlen, hg⟩ := DataW.trod_struct Try.underlying41 h
    have hl : xs.length = 2 := hlen
    match xs, hl with
    | [y0, y1], _ =>
      obtain ⟨ep, rfl, e1⟩ := lone_intW (x := y0) (by simpa [lkcells_int] using hg 0 _ rfl)
      obtain ⟨ba, rfl, e2⟩ := lone_intW (x := y1) (by simpa [lkcells_int] using hg 1 _ rfl)
      exact ⟨⟨ep, ba⟩, rfl⟩
theorem openPacket {v : Value} {d : DataW H} {p : List MemPlace} {r : Reach} {b0 : Nat} (hval : Value.okWide Try.prog w r b0 26 v) (h : DataW.Trod enc Try.prog w base spare held 26 v d p) :
    ∃ (s : Pk), v = pkV s := by
  obtain ⟨cs, rfl, hsz⟩ := okWide_struct Try.underlying26 hval
  obtain ⟨l⟩ := cs
  match l, hsz.trans lkcells_pk with
  | [c0, c1, c2], _ =>
    obtain ⟨fuel, hf⟩ := h
    have h : DataW.trod enc Try.prog w base spare held fuel 26 [c0, c1, c2] = some (d, p) := by simpa [Value.cells] using hf
    obtain ⟨xs, n, _, _, _, hlen, hg⟩ := DataW.trod_struct Try.underlying26 h
    have hl : xs.length = 3 := hlen
    match xs, hl with
    | [y0, y1, y2], _ =>
      obtain ⟨ep, rfl, e1⟩ := lone_intW (x := y0) (by simpa [lkcells_int, lkcells_str] using hg 0 _ rfl)
      obtain ⟨no, rfl, e2⟩ := lone_intW (x := y1) (by simpa [lkcells_int, lkcells_str] using hg 1 _ rfl)
      obtain ⟨b, rfl, e3⟩ := lone_strW (x := y2) (by simpa [lkcells_int, lkcells_str] using hg 2 _ rfl)
      exact ⟨⟨ep, no, b⟩, rfl⟩
end
theorem kfields_rc : Try.prog.underlying 41 = some (.struct (Try.prog.fieldsOf 41)) := by kernel_rfl
theorem kstood_rc : Try.prog.stoodInHeld 41 = false := by kernel_rfl
theorem run_eqlRc (r : Rc) (w : World) : (binOp .eql 41 (rvV r) (rvV r)).run Try.prog w = .ok (.bool true) w := by
  have h2 := Try.underlying3
  rw [run_eql_struct, show (10000 : Nat) = 9999 + 1 from rfl, run_equalIn_agg w _ _ _ _ kfields_rc kstood_rc]
  simp [Program.fieldsOf, Try.underlying41, Op.eqFields, part, isAgg, run_underlying h2, run_equalIn_int w 9998 _ .i64 .i64 _ _ h2]
end Lk
end Go.Proofs.Ytbdlmokgmgpbfaa
