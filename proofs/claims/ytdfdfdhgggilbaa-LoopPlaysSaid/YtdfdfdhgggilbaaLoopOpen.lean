/- Events that came in; events compared whole. -/
import Derived.Test.YtdfdfdhgggilbaaLoopRef
import Derived.Test.YtdfdfdhgggilbaaLift
import Derived.Laws.StructEq
namespace Go.Proofs.Ytdfdfdhgggilbaa
open Go.ChangeShapes Go.WideShapes Go.ChangeAt Go.RowKit
set_option linter.unusedVariables false
set_option maxRecDepth 8000
namespace Lp
open Gen
/-- An event whose numbers fit, and whose key is no longer than a string may be. -/
def evOk (e : Ev) : Prop := inI e.at_ ∧ inI e.val ∧ e.key.size ≤ maxLen
theorem lwf64 {n : Int} (h : (Lit.int .i64 n).wf = true) : inI n := by
  simp [Lit.wf, IntKind.min, IntKind.max, IntKind.bits, IntKind.signed] at h
  unfold inI
  omega
theorem wf_in {n : Int} (h : inI n) : (Lit.int .i64 n).wf = true := by
  unfold inI at h
  simp [Lit.wf, IntKind.min, IntKind.max, IntKind.bits, IntKind.signed]
  omega
theorem lcells_str : Try.prog.cellsOf 9 = 1 := by kernel_rfl
theorem lcells_i64 : Try.prog.cellsOf 2 = 1 := by kernel_rfl
theorem lcells_ev : Try.prog.cellsOf 23 = 3 := by kernel_rfl
section
variable {H : Type} {enc : TypeId × Value → H} {w : World} {base : Nat} {spare : Nat → Bool} {held : Bool}
theorem lone_int {fuel : Nat} {c : Value} {x : DataW H × List MemPlace} (h : DataW.trod enc Try.prog w base spare held fuel 2 [c] = some x) : ∃ z : Int, c = .int .i64 z ∧ inI z := by
  obtain ⟨z, h1, _, h3⟩ := DataW.trod_int Try.underlying2 h
  exact ⟨z, by simpa using h1, lwf64 h3⟩
theorem lone_str {fuel : Nat} {c : Value} {x : DataW H × List MemPlace} (h : DataW.trod enc Try.prog w base spare held fuel 9 [c] = some x) : ∃ s : ByteArray, c = .string s ∧ s.size ≤ maxLen := by
  obtain ⟨s, h1, _, h3⟩ := DataW.trod_string Try.underlying9 h
  exact ⟨s, by simpa using h1, h3⟩
theorem ltrod_ev {fuel : Nat} {c0 c1 c2 : Value} {x : DataW H × List MemPlace} (h : DataW.trod enc Try.prog w base spare held fuel 23 [c0, c1, c2] = some x) : ∃ e : Ev, [c0, c1, c2] = evL e ∧ evOk e := by
  obtain ⟨xs, n, _, _, _, hlen, hg⟩ := DataW.trod_struct Try.underlying23 h
  have hl : xs.length = 3 := hlen
  match xs, hl with
  | [y0, y1, y2], _ =>
    obtain ⟨k, rfl, h0⟩ := lone_str (x := y0) (by simpa [lcells_str] using hg 0 _ rfl)
    obtain ⟨a, rfl, h1⟩ := lone_int (x := y1) (by simpa [lcells_i64] using hg 1 _ rfl)
    obtain ⟨v, rfl, h2⟩ := lone_int (x := y2) (by simpa [lcells_i64] using hg 2 _ rfl)
    exact ⟨⟨k, a, v⟩, rfl, h1, h2, h0⟩
theorem openEvL {r : Reach} {b0 : Nat} {v : Value} {d : DataW H} {p : List MemPlace} (hv : Value.okWide Try.prog w r b0 23 v) (h : DataW.Trod enc Try.prog w base spare held 23 v d p) : ∃ e : Ev, v = evV e ∧ evOk e := by
  obtain ⟨cs, rfl, hsz⟩ := okWide_struct Try.underlying23 hv
  obtain ⟨l⟩ := cs
  match l, hsz.trans lcells_ev with
  | [c0, c1, c2], _ =>
    obtain ⟨fuel, hf⟩ := h
    obtain ⟨e, he, hok⟩ := ltrod_ev (by simpa [Value.cells] using hf)
    refine ⟨e, ?_, hok⟩
    simp only [List.cons.injEq, and_true] at he
    rw [he.1, he.2.1, he.2.2]
instance : Inhabited {e : Ev // evOk e} := ⟨⟨zEv, by unfold inI; decide, by unfold inI; decide, Nat.zero_le _⟩⟩
/-- A row of events that came in. -/
theorem openEvsL {v : Value} {d : DataW H} {ps : List MemPlace} {r : Reach} {b0 : Nat} (hval : Value.okWide Try.prog w r b0 28 v) (h : DataW.Trod enc Try.prog w base spare held 28 v d ps) :
    ∃ (A : Option Addr) (c : Nat) (l : List Ev), v = .slice A l.length c ∧ l.length ≤ c ∧ c ≤ maxLen ∧ Row w A (l.flatMap evL) ∧ ∀ e ∈ l, evOk e := by
  obtain ⟨A, c, xs, h1, h2, h3, h4⟩ := openRow (f := fun p : {e : Ev // evOk e} => evL p.1) Try.underlying28 lcells_ev (by omega) (fun _ => rfl) (fun fuel cs x hl hx => by
    match cs, hl with
    | [c0, c1, c2], _ =>
      obtain ⟨t, e, ht⟩ := ltrod_ev hx
      exact ⟨⟨t, ht⟩, e⟩) hval h
  refine ⟨A, c, xs.map (·.1), by rw [List.length_map]; exact h1, by rw [List.length_map]; exact h2, h3, ?_, fun t ht => ?_⟩
  · rw [List.flatMap_map]
    exact h4
  · obtain ⟨p, _, rfl⟩ := List.mem_map.1 ht
    exact p.2
end
theorem evL_len (e : Ev) : (evL e).length = 3 := rfl
structure EvAt (w : World) (b o : Nat) (e : Ev) : Prop where
  c0 : w.cell? ⟨b, o, none⟩ = some (.string e.key)
  c1 : w.cell? ⟨b, o + 1, none⟩ = some (.int .i64 e.at_)
  c2 : w.cell? ⟨b, o + 2, none⟩ = some (.int .i64 e.val)
theorem row_evL {w : World} {A : Option Addr} {l : List Ev} (h : Row w A (l.flatMap evL)) {k : Nat} {e : Ev} (hk : l[k]? = some e) : ∃ b off, A = some ⟨b, off, none⟩ ∧ EvAt w b (off + k * 3) e := by
  obtain ⟨b, off, rfl, g⟩ := row_one evL_len (by omega) h hk
  exact ⟨b, off, rfl, g 0 _ rfl, g 1 _ rfl, g 2 _ rfl⟩
theorem lfields_ev : Try.prog.underlying 23 = some (.struct (Try.prog.fieldsOf 23)) := by kernel_rfl
theorem lstood_ev : Try.prog.stoodInHeld 23 = false := by kernel_rfl
theorem run_sameEv (e : Ev) (w : World) : (binOp .eql 23 (evV e) (evV e)).run Try.prog w = .ok (.bool true) w := by
  have h1 := Try.underlying9
  have h2 := Try.underlying2
  rw [run_eql_struct, show (10000 : Nat) = 9999 + 1 from rfl, run_equalIn_agg w _ _ _ _ lfields_ev lstood_ev]
  simp [Program.fieldsOf, Try.underlying23, Op.eqFields, part, isAgg, run_underlying h1, run_underlying h2, run_equalIn_string w 9998 _ _ _ h1, run_equalIn_int w 9998 _ .i64 .i64 _ _ h2]
theorem run_neqEv (e : Ev) (w : World) : (binOp .neq 23 (evV e) (evV e)).run Try.prog w = .ok (.bool false) w := by
  have h1 := Try.underlying9
  have h2 := Try.underlying2
  rw [run_neq_struct, show (10000 : Nat) = 9999 + 1 from rfl, run_equalIn_agg w _ _ _ _ lfields_ev lstood_ev]
  simp [Program.fieldsOf, Try.underlying23, Op.eqFields, part, isAgg, run_underlying h1, run_underlying h2, run_equalIn_string w 9998 _ _ _ h1, run_equalIn_int w 9998 _ .i64 .i64 _ _ h2]
theorem half6 (w : World) : Calls Try.prog 11 #[.int .i64 6] w (SaysI 3 w) := lpHalf 6 (by unfold inI; omega) w
theorem rv_abs (L : Int) : ∀ (k : Nat) (v : Int), (rv L k v).1.natAbs ≤ v.natAbs ∧ (0 ≤ v → 0 ≤ (rv L k v).1) ∧ (v ≤ 0 → (rv L k v).1 ≤ 0)
  | 0, v => ⟨Nat.le_refl _, fun h => h, fun h => h⟩
  | k + 1, v => by
    unfold rv
    split
    · exact ⟨Nat.le_refl _, fun h => h, fun h => h⟩
    · obtain ⟨h1, h2, h3⟩ := rv_abs L k (half v)
      have h4 := half_abs v
      refine ⟨by simp only; omega, fun h => h2 ?_, fun h => h3 ?_⟩
      · rw [← half_pos h]; omega
      · by_cases h5 : v < 0
        · have := (half_neg h5).1; omega
        · rw [← half_pos (by omega)]; omega
/-- More fuel: as many rounds or more; where there was fuel left, the same. -/
theorem rv_more (L : Int) : ∀ (k m : Nat) (v : Int), k ≤ m → (rv L k v).2 ≤ (rv L m v).2 ∧ ((rv L k v).2 < k → rv L k v = rv L m v)
  | 0, m, v, _ => ⟨Nat.zero_le _, fun h => by exact absurd h (Nat.lt_irrefl _)⟩
  | k + 1, 0, v, h => by omega
  | k + 1, m + 1, v, h => by
    obtain ⟨h1, h2⟩ := rv_more L k m (half v) (by omega)
    unfold rv
    split
    · exact ⟨Nat.le_refl _, fun _ => rfl⟩
    · refine ⟨Nat.succ_le_succ h1, fun h3 => ?_⟩
      rw [h2 (by simpa using h3)]
/-- A part of the fuel, and then the rest. -/
theorem rv_split (L : Int) : ∀ (k m : Nat) (v : Int), rv L m (rv L k v).1 = ((rv L (k + m) v).1, (rv L (k + m) v).2 - (rv L k v).2) ∧ (rv L k v).2 ≤ (rv L (k + m) v).2
  | 0, m, v => by simp [rv]
  | k + 1, m, v => by
    rw [show k + 1 + m = (k + m) + 1 by omega]
    by_cases h : (v.natAbs : Int) ≤ L
    · rw [rv_stop (.inl h), rv_stop (k := k + m + 1) (.inl h), rv_stop (.inl h)]
      exact ⟨rfl, Nat.le_refl _⟩
    · obtain ⟨h1, h2⟩ := rv_split L k m (half v)
      rw [rv_go h, rv_go h]
      refine ⟨?_, Nat.succ_le_succ h2⟩
      rw [h1]
      simp
end Lp
end Go.Proofs.Ytdfdfdhgggilbaa
