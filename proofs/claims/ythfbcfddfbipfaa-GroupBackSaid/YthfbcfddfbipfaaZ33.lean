/- GroupEvs, GroupAllT, put together. -/
import Derived.Test.YthfbcfddfbipfaaZ31
import Derived.Test.YthfbcfddfbipfaaZ32
import Derived.ChangeAlike
/- Rows of events; a group that came in, with what its numbers fit into. -/
namespace Go.Proofs.Ythfbcfddfbipfaa
open Go.ChangeShapes Go.WideShapes Go.ChangeAt Go.RowKit
set_option linter.unusedVariables false
set_option maxRecDepth 8000
namespace Grp
open Pan (Pn Pl)
section
variable {H : Type} {enc : TypeId × Value → H} {w : World} {base : Nat} {spare : Nat → Bool} {held : Bool}
theorem trod_accF {fuel : Nat} {c0 c1 c2 : Value} {x : DataW H × List MemPlace} (h : DataW.trod enc Try.prog w base spare held fuel 57 [c0, c1, c2] = some x) :
    ∃ (n a b : Int), c0 = .int .i64 n ∧ c1 = .int .i64 a ∧ c2 = .int .i64 b ∧ (-9223372036854775808 ≤ n ∧ n ≤ 9223372036854775807) ∧ (-9223372036854775808 ≤ a ∧ a ≤ 9223372036854775807) ∧ (-9223372036854775808 ≤ b ∧ b ≤ 9223372036854775807) := by
  obtain ⟨xs, n, _, _, _, hlen, hg⟩ := DataW.trod_struct Try.underlying57 h
  have hl : xs.length = 3 := hlen
  match xs, hl with
  | [y0, y1, y2], _ =>
    obtain ⟨n, rfl, h1⟩ := one_int (x := y0) (by simpa [cells_i64] using hg 0 _ rfl)
    obtain ⟨a, rfl, h2⟩ := one_int (x := y1) (by simpa [cells_i64] using hg 1 _ rfl)
    obtain ⟨b, rfl, h3⟩ := one_int (x := y2) (by simpa [cells_i64] using hg 2 _ rfl)
    exact ⟨n, a, b, rfl, rfl, rfl, h1, h2, h3⟩
/-- A pane whose numbers fit. -/
abbrev PnF := { x : Pn // FitP x }
instance : Inhabited PnF := ⟨⟨⟨⟨0, 0, []⟩, ⟨0, 0, 0⟩⟩, ⟨by decide, by decide, by decide, by decide, by decide⟩⟩⟩
theorem trod_pnF {fuel : Nat} {c0 c1 c2 c3 c4 c5 : Value} {x : DataW H × List MemPlace} (h : DataW.trod enc Try.prog w base spare held fuel 59 [c0, c1, c2, c3, c4, c5] = some x) : ∃ p : PnF, [c0, c1, c2, c3, c4, c5] = pL p.1 := by
  obtain ⟨xs, n, _, _, _, hlen, hg⟩ := DataW.trod_struct Try.underlying59 h
  have hl : xs.length = 3 := hlen
  match xs, hl with
  | [y0, y1, y2], _ =>
    obtain ⟨lo, hi, rfl, rfl⟩ := ptrod_win (x := y0) (by simpa [pcells_win] using hg 0 _ rfl)
    obtain ⟨k, rfl⟩ := pone_str (x := y1) (by simpa [pcells_str] using hg 1 _ rfl)
    obtain ⟨n, a, b, rfl, rfl, rfl, h1, h2, h3⟩ := trod_accF (x := y2) (by simpa [pcells_acc] using hg 2 _ rfl)
    exact ⟨⟨⟨⟨lo, hi, k⟩, ⟨n, a, b⟩⟩, ⟨h1.2, h2.1, h2.2, h3.1, h3.2⟩⟩, rfl⟩
theorem pc_val (xs : List PnF) : xs.flatMap (fun p => pL p.1) = pc (xs.map Subtype.val) := by
  induction xs with
  | nil => rfl
  | cons x r ih => rw [List.flatMap_cons, ih]; simp [pc]
theorem openPanesF {fuel : Nat} {c0 : Value} {x : DataW H × List MemPlace} (h : DataW.trod enc Try.prog w base spare held fuel 24 [c0] = some x) :
    ∃ (A : Option Addr) (c : Nat) (xs : List Pn), c0 = .slice A xs.length c ∧ xs.length ≤ c ∧ c ≤ maxLen ∧ Row w A (pc xs) ∧ ∀ x ∈ xs, FitP x := by
  obtain ⟨A, c, xs, h1, h2, h3, h4⟩ := openRowC (f := fun p : PnF => pL p.1) Try.underlying24 pcells_pn (by omega) (fun p => pL_len p.1) (fun fuel cs x hl hx => by
    match cs, hl with
    | [c0, c1, c2, c3, c4, c5], _ => exact trod_pnF hx) h
  refine ⟨A, c, xs.map Subtype.val, by rw [List.length_map]; exact h1, by rw [List.length_map]; exact h2, h3, by rw [← pc_val]; exact h4, fun x hx => ?_⟩
  obtain ⟨p, _, rfl⟩ := List.mem_map.1 hx
  exact p.2
theorem openGroupF {r : Reach} {b0 : Nat} {v : Value} {d : DataW H} {p : List MemPlace} (hval : Value.okWide Try.prog w r b0 26 v) (h : DataW.Trod enc Try.prog w base spare held 26 v d p) :
    ∃ (no mark : Int) (xs : List Pn) (A : Option Addr) (c : Nat), v = gpV no mark (.slice A xs.length c) ∧ xs.length ≤ c ∧ c ≤ maxLen ∧ Row w A (pc xs) ∧ ∀ x ∈ xs, FitP x := by
  obtain ⟨cs, rfl, hsz⟩ := okWide_struct Try.underlying26 hval
  obtain ⟨l⟩ := cs
  match l, hsz.trans gcells_gp with
  | [c0, c1, c2], _ =>
    obtain ⟨fuel, hf⟩ := h
    have h : DataW.trod enc Try.prog w base spare held fuel 26 [c0, c1, c2] = some (d, p) := by simpa [Value.cells] using hf
    obtain ⟨xs, n, _, _, _, hlen, hg⟩ := DataW.trod_struct Try.underlying26 h
    have hl : xs.length = 3 := hlen
    match xs, hl with
    | [y0, y1, y2], _ =>
      obtain ⟨a0, rfl⟩ := gone_int (x := y0) (by simpa [pcells_i64, gcells_int, gcells_sl] using hg 0 _ rfl)
      obtain ⟨a1, rfl⟩ := pone_int (x := y1) (by simpa [pcells_i64, gcells_int, gcells_sl] using hg 1 _ rfl)
      obtain ⟨A, c, xs, rfl, h1, h2, h3, h4⟩ := openPanesF (x := y2) (by simpa [pcells_i64, gcells_int, gcells_sl] using hg 2 _ rfl)
      exact ⟨a0, a1, xs, A, c, rfl, h1, h2, h3, h4⟩
end
theorem fewL_fit {xs : List Pn} (h : ∀ x ∈ xs, FitP x) : ∀ x ∈ fewL xs, FitP x := by
  unfold fewL
  split
  · exact fun x hx => h x (List.mem_of_mem_take hx)
  · exact h
/-- Events as they lie in a slice. -/
def eL (e : Ev) : List Value := [.string (kS e.key), .int .i64 e.at_, .int .i64 e.val]
def ec (l : List Ev) : List Value := l.flatMap eL
theorem eL_len (e : Ev) : (eL e).length = 3 := rfl
theorem ec_len (l : List Ev) : (ec l).length = l.length * 3 := flat_len eL eL_len l
theorem ec_app (l m : List Ev) : ec (l ++ m) = ec l ++ ec m := by simp [ec]
theorem ec_ones (l : List Ev) : ∀ u ∈ ec l, u.oneCell' = true := by
  intro u hu
  obtain ⟨p, _, hp⟩ := List.mem_flatMap.1 hu
  simp only [eL, List.mem_cons, List.not_mem_nil, or_false] at hp
  rcases hp with rfl | rfl | rfl <;> rfl
structure EvCells (w : World) (b o : Nat) (e : Ev) : Prop where
  c0 : w.cell? ⟨b, o, none⟩ = some (.string (kS e.key))
  c1 : w.cell? ⟨b, o + 1, none⟩ = some (.int .i64 e.at_)
  c2 : w.cell? ⟨b, o + 2, none⟩ = some (.int .i64 e.val)
theorem row_ev {w : World} {A : Option Addr} {l : List Ev} (h : Row w A (ec l)) {k : Nat} {e : Ev} (hk : l[k]? = some e) : ∃ b off, A = some ⟨b, off, none⟩ ∧ EvCells w b (off + k * 3) e := by
  have g : ∀ j, j < 3 → (ec l)[k * 3 + j]? = (eL e)[j]? := fun j hj => flat_get eL eL_len hk hj
  have g0 := g 0 (by omega); have g1 := g 1 (by omega); have g2 := g 2 (by omega)
  rcases h with h | ⟨b, off, rfl, h⟩
  · rw [h] at g0; simp [eL] at g0
  · refine ⟨b, off, rfl, ?_, ?_, ?_⟩
    · exact h _ _ g0
    · rw [Nat.add_assoc]; exact h _ _ g1
    · rw [Nat.add_assoc]; exact h _ _ g2
theorem ec_take (l : List Ev) (n : Nat) : (ec l).take (n * 3) = ec (l.take n) := by
  rcases Nat.lt_or_ge n l.length with h | h
  · have e : ec l = ec (l.take n) ++ ec (l.drop n) := by rw [← ec_app, List.take_append_drop]
    have hl : (ec (l.take n)).length = n * 3 := by rw [ec_len, List.length_take]; omega
    rw [e, ← hl, List.take_left]
  · rw [List.take_of_length_le h, List.take_of_length_le (by rw [ec_len]; omega)]
theorem row_takeE {w : World} {A : Option Addr} {l : List Ev} (h : Row w A (ec l)) (n : Nat) : Row w A (ec (l.take n)) := by
  rw [← ec_take]
  rcases h with h | ⟨b, off, rfl, h⟩
  · left; rw [h]; simp
  · refine .inr ⟨b, off, rfl, fun i u hu => ?_⟩
    rw [List.getElem?_take] at hu
    split at hu
    · exact h _ _ hu
    · cases hu
section
variable {H : Type} {enc : TypeId × Value → H} {w : World} {base : Nat} {spare : Nat → Bool} {held : Bool}
instance : Inhabited Ev := ⟨⟨[], 0, 0⟩⟩
theorem openEvs {v : Value} {d : DataW H} {ps : List MemPlace} {r : Reach} {b0 : Nat} (hval : Value.okWide Try.prog w r b0 49 v) (h : DataW.Trod enc Try.prog w base spare held 49 v d ps) :
    ∃ (A : Option Addr) (c : Nat) (l : List Ev), v = .slice A l.length c ∧ l.length ≤ c ∧ c ≤ maxLen ∧ Row w A (ec l) :=
  openRow (f := eL) Try.underlying49 cells_ev (by omega) eL_len (fun fuel cs x hl hx => by
    match cs, hl with
    | [c0, c1, c2], _ =>
      obtain ⟨k, a, v, rfl, rfl, rfl, _⟩ := trod_ev hx
      exact ⟨⟨k.toList, a, v⟩, by simp [eL, kS_of]⟩) hval h
theorem openIntsG {v : Value} {d : DataW H} {ps : List MemPlace} {r : Reach} {b0 : Nat} (hval : Value.okWide Try.prog w r b0 50 v) (h : DataW.Trod enc Try.prog w base spare held 50 v d ps) :
    ∃ (A : Option Addr) (c : Nat) (zs : List Int), v = .slice A zs.length c ∧ zs.length ≤ c ∧ c ≤ maxLen ∧ Row w A (zs.map (Value.int .i64)) := by
  obtain ⟨A, c, zs, h1, h2, h3, h4, _⟩ := openInts Try.underlying50 Try.underlying3 (by kernel_rfl) hval h
  exact ⟨A, c, zs, h1, h2, h3, h4⟩
end
theorem evInfo : (Try.prog.info? 28).map (fun i => (i.zero, i.size, i.bytes)) = some (some (.agg #[.string ByteArray.empty, .int .i64 0, .int .i64 0]), 3, 32) := by kernel_rfl
theorem ec_set {l : List Ev} {i : Nat} (e : Ev) (h : i < l.length) : (((ec l).set (i * 3) (.string (kS e.key))).set (i * 3 + 1) (.int .i64 e.at_)).set (i * 3 + 2) (.int .i64 e.val) = ec (l.set i e) := by
  induction l generalizing i with
  | nil => simp at h
  | cons y r ih =>
    cases i with
    | zero => simp [ec, eL]
    | succ i =>
      have e1 : ec (y :: r) = .string (kS y.key) :: .int .i64 y.at_ :: .int .i64 y.val :: ec r := by simp [ec, eL]
      have e2 : ec ((y :: r).set (i + 1) e) = .string (kS y.key) :: .int .i64 y.at_ :: .int .i64 y.val :: ec (r.set i e) := by simp [ec, eL]
      rw [e1, e2, show (i + 1) * 3 = i * 3 + 1 + 1 + 1 by omega]
      simp only [List.set_cons_succ]
      rw [ih (by simpa using h)]
def setE (w : World) (g i : Nat) (e : Ev) : World :=
  ((w.setCell ⟨g, i * 3, none⟩ (.string (kS e.key))).setCell ⟨g, i * 3 + 1, none⟩ (.int .i64 e.at_)).setCell ⟨g, i * 3 + 2, none⟩ (.int .i64 e.val)
theorem own_setE {w : World} {B n cap g : Nat} {T : TypeId} {l : List Ev} (h : w.ownsRow B T 3 (.slice (some ⟨g, 0, none⟩) n cap) n (ec l)) {i : Nat} (e : Ev) (hi : i < l.length) :
    (setE w g i e).ownsRow B T 3 (.slice (some ⟨g, 0, none⟩) n cap) n (ec (l.set i e)) := by
  have h1 := (h.stored (i * 3) (.string (kS e.key))).1
  have h2 := (h1.stored (i * 3 + 1) (.int .i64 e.at_)).1
  have h3 := (h2.stored (i * 3 + 2) (.int .i64 e.val)).1
  rwa [ec_set e hi] at h3
theorem below_setE {B g : Nat} {a b : World} (h : Below B a b) (hg : B ≤ g) (i : Nat) (e : Ev) : Below B a (setE b g i e) :=
  ((h.setCell (p := ⟨g, i * 3, none⟩) hg _).setCell (p := ⟨g, i * 3 + 1, none⟩) hg _).setCell (p := ⟨g, i * 3 + 2, none⟩) hg _
structure OwnE (w : World) (g i : Nat) (e : Ev) : Prop where
  at_ : EvCells w g (i * 3) e
  f0 : w.frozen? ⟨g, i * 3, none⟩ = false
  f1 : w.frozen? ⟨g, i * 3 + 1, none⟩ = false
  f2 : w.frozen? ⟨g, i * 3 + 2, none⟩ = false
theorem own_cellE {w : World} {B n cap g : Nat} {T : TypeId} {l : List Ev} (h : w.ownsRow B T 3 (.slice (some ⟨g, 0, none⟩) n cap) n (ec l)) {i : Nat} {e : Ev} (hi : l[i]? = some e) : OwnE w g i e := by
  have hl := h.1
  rw [ec_len] at hl
  have := (List.getElem?_eq_some_iff.1 hi).1
  have g0 : ∀ j, j < 3 → (ec l)[i * 3 + j]? = (eL e)[j]? := fun j hj => flat_get eL eL_len hi hj
  refine ⟨⟨?_, ?_, ?_⟩, h.frozenAt _, h.frozenAt _, h.frozenAt _⟩
  · rw [h.cellAt _ (by omega)]; exact g0 0 (by omega)
  · rw [h.cellAt _ (by omega)]; exact g0 1 (by omega)
  · rw [h.cellAt _ (by omega)]; exact g0 2 (by omega)
theorem tmod_loG {x d : Int} (h : 0 < d) : -d < x.tmod d := by
  have h3 : (-x).tmod d < d := Int.tmod_lt_of_pos (-x) h
  rw [Int.neg_tmod] at h3
  omega
theorem swap_permE {α : Type} {ms : List α} {j k : Nat} {u v : α} (hu : ms[j]? = some u) (hv : ms[k]? = some v) : ((ms.set j v).set k u).Perm ms := by
  obtain ⟨h1, rfl⟩ := List.getElem?_eq_some_iff.1 hu
  obtain ⟨h2, rfl⟩ := List.getElem?_eq_some_iff.1 hv
  exact List.set_set_perm h1 h2
/-- Events in another order; B: what was made from there on may be turned. -/
structure MixedE (w : World) (us : List Ev) (n g cap : Nat) (wr : World) : Prop where
  row : ∃ ms : List Ev, ms.Perm us ∧ wr.ownsRow w.heap.size 28 3 (.slice (some ⟨g, 0, none⟩) n cap) n (ec ms)
  below : Below w.heap.size w wr
theorem MixedE.swap {w wr : World} {us ms : List Ev} {n g cap j k : Nat} {u v : Ev} (hg : w.heap.size ≤ g) (hp : ms.Perm us) (hown : wr.ownsRow w.heap.size 28 3 (.slice (some ⟨g, 0, none⟩) n cap) n (ec ms)) (hb : Below w.heap.size w wr)
    (hu : ms[j]? = some u) (hv : ms[k]? = some v) : MixedE w us n g cap (setE (setE wr g j v) g k u).drew :=
  ⟨⟨(ms.set j v).set k u, (swap_permE hu hv).trans hp, (own_setE (own_setE hown v (List.getElem?_eq_some_iff.1 hu).1) u (by rw [List.length_set]; exact (List.getElem?_eq_some_iff.1 hv).1)).drew⟩, (below_setE (below_setE hb hg _ _) hg _ _).drew⟩
end Grp
end Go.Proofs.Ythfbcfddfbipfaa
/- Events taken by a group one behind the other: the law's own loop. -/
namespace Go.Proofs.Ythfbcfddfbipfaa
open Go.RowKit
set_option linter.unusedVariables false
set_option maxRecDepth 8000
namespace Grp
open Pan (Pn Pl)
def stepT (j : Jb) (o : Gp × Bool) (e : Ev) : Gp × Bool := if o.2 then (if (takeR j o.1 e).2.2 = 0 then ((takeR j o.1 e).1, true) else (o.1, false)) else o
def allT (j : Jb) (g : Gp) (l : List Ev) : Gp × Bool := l.foldl (stepT j) (g, true)
theorem allT_push (j : Jb) (g : Gp) (l : List Ev) (e : Ev) : allT j g (l ++ [e]) = stepT j (allT j g l) e := by simp [allT]
theorem allT_stop {j : Jb} {o : Gp × Bool} (h : o.2 = false) : ∀ l : List Ev, l.foldl (stepT j) o = o
  | [] => rfl
  | e :: r => by rw [List.foldl_cons, show stepT j o e = o by unfold stepT; rw [h]; rfl]; exact allT_stop h r
theorem allT_more {j : Jb} {g : Gp} {l m : List Ev} (h : (allT j g l).2 = false) : allT j g (l ++ m) = allT j g l := by
  unfold allT at h ⊢
  rw [List.foldl_append]; exact allT_stop h m
theorem allT_bad {j : Jb} {g : Gp} (h : (jobOk j && right g) = false) : ∀ l : List Ev, allT j g l = (g, l.isEmpty)
  | [] => rfl
  | e :: r => by
    have h1 : stepT j (g, true) e = (g, false) := by
      unfold stepT
      rw [if_pos rfl, if_neg]
      intro h2
      unfold takeR at h2
      cases hj : jobOk j
      · rw [hj] at h2; simp at h2
      · cases hg : right g
        · rw [hj, hg] at h2; simp at h2
        · rw [hj, hg] at h; cases h
    unfold allT
    rw [List.foldl_cons, h1, allT_stop rfl]
    rfl
theorem allT_ok {j : Jb} {g : Gp} (hj : jobOk j = true) (hg : right g = true) (hn : ∀ a ∈ g.ps, a.acc.n ≤ 9223372036854775807) : ∀ l : List Ev,
    (∀ z, takesO j.size j.slide j.fold g.mark g.ps l = some z → allT j g l = (⟨g.no, g.mark, z⟩, true) ∧ right ⟨g.no, g.mark, z⟩ = true ∧ ∀ a ∈ z, a.acc.n ≤ 9223372036854775807) ∧
    (takesO j.size j.slide j.fold g.mark g.ps l = none → (allT j g l).2 = false) := by
  have hw : Win.ok j.size j.slide = true := by unfold jobOk at hj; rw [Bool.and_eq_true] at hj; exact hj.1
  refine Pan.list_snoc ?_ ?_
  · refine ⟨fun z h => ?_, fun h => (by cases h)⟩
    cases h
    exact ⟨rfl, hg, hn⟩
  · intro l e ih
    rw [takes_push, allT_push]
    cases hy : takesO j.size j.slide j.fold g.mark g.ps l with
    | none =>
      have h1 := ih.2 hy
      refine ⟨fun z h => (by cases h), fun _ => ?_⟩
      unfold stepT
      rw [h1]; exact h1
    | some y =>
      obtain ⟨h1, h2, h3⟩ := ih.1 y hy
      rw [h1, Option.bind_some]
      have hT : takeR j ⟨g.no, g.mark, y⟩ e = if evOk e then (if (allE j.fold y (cells j.size j.slide g.mark e)).2 = 0 then (⟨g.no, g.mark, (allE j.fold y (cells j.size j.slide g.mark e)).1⟩, (((cells j.size j.slide g.mark e).length : Nat) : Int), 0) else (none_, 0, (allE j.fold y (cells j.size j.slide g.mark e)).2)) else (none_, 0, 1) := by
        unfold takeR; rw [hj, h2]; rfl
      have hO : takeO j.size j.slide j.fold g.mark y e = if evOk e then (if (allE j.fold y (cells j.size j.slide g.mark e)).2 = 0 then some (allE j.fold y (cells j.size j.slide g.mark e)).1 else none) else none := by
        unfold takeO; rw [allE_F]
      unfold stepT
      rw [if_pos rfl, hO]
      simp only [hT]
      by_cases he : evOk e = true
      · rw [if_pos he, if_pos he]
        by_cases h0 : (allE j.fold y (cells j.size j.slide g.mark e)).2 = 0
        · rw [if_pos h0, if_pos h0, if_pos rfl]
          refine ⟨fun z hz => ?_, fun h => (by cases h)⟩
          have hz' := hz
          simp only [Option.some.injEq] at hz
          refine ⟨by rw [hz], ?_⟩
          exact take_right (g := ⟨g.no, g.mark, y⟩) h2 h3 hw (by show takeO j.size j.slide j.fold g.mark y e = some z; rw [hO, if_pos he, if_pos h0]; exact hz')
        · rw [if_neg h0, if_neg h0, if_neg (by exact h0)]
          exact ⟨fun z h => (by cases h), fun _ => rfl⟩
      · rw [if_neg he, if_neg he]
        exact ⟨fun z h => (by cases h), fun _ => by rw [if_neg (by simp)]⟩
/-- Hands back a group, and whether; what was stays. -/
def GivesGB (o : Gp × Bool) (w : World) (e : Ending) (w' : World) : Prop :=
  ∃ A c, e = .returned (.tuple #[gpV o.1.no o.1.mark (.slice A o.1.ps.length c), .bool o.2]) ∧ o.1.ps.length ≤ c ∧ c ≤ maxLen ∧ Row w' A (pc o.1.ps) ∧ Below w.heap.size w w'
theorem all_ret {w wF : World} {R : Nat} {o : Gp × Bool} {A : Option Addr} {c : Nat} {act : Act} (ht : act.tmps.getD 6 undef = .pointer (some ⟨R, 0, none⟩)) (hs : act.tmps.getD 7 undef = .bool o.2) (hd : act.defers = [])
    (hL : Lies R (gpC o.1.no o.1.mark (.slice A o.1.ps.length c)) 26 wF) (h1 : o.1.ps.length ≤ c) (h2 : c ≤ maxLen) (h5 : Row wF A (pc o.1.ps)) (hB : Below w.heap.size w wF) :
    bodyPost Try.prog Try.f26 (GivesGB o w) .ret act wF := by
  have c0 := hL.cell (j := 0) rfl
  have c1 := hL.cell (j := 1) rfl
  have c2 := hL.cell (j := 2) rfl
  refine bodyPost_ret (v := .tuple #[gpV o.1.no o.1.mark (.slice A o.1.ps.length c), .bool o.2]) ?_ hd ⟨A, c, rfl, h1, h2, h5, hB⟩
  have ht2 : act.tmps[6]?.getD undef = .pointer (some ⟨R, 0, none⟩) := by simpa using ht
  have hs2 : act.tmps[7]?.getD undef = .bool o.2 := by simpa using hs
  simp [results, Try.results26, go_sem, ht2, hs2, c0, c1, c2]
theorem all_end {w W : World} {o : Gp × Bool} {A : Option Addr} {c : Nat} {a0 b0 : Int} {v0 : Value} {act : Act} (ht : act.tmps.getD 6 undef = .pointer (some ⟨w.heap.size + 1 + 1, 0, none⟩)) (hs : act.tmps.getD 7 undef = .bool o.2) (hd : act.defers = [])
    (hL : Lies (w.heap.size + 1 + 1) (gpC a0 b0 v0) 26 W) (h1 : o.1.ps.length ≤ c) (h2 : c ≤ maxLen) (h5 : Row W A (pc o.1.ps)) (hB : Below w.heap.size w W) :
    bodyPost Try.prog Try.f26 (GivesGB o w) .ret act (set3 W (w.heap.size + 1 + 1) o.1.no o.1.mark (.slice A o.1.ps.length c)) :=
  all_ret ht hs hd (Lies.set3 hL _ _ _) h1 h2 (row_set3 h5 hL (pc_big _) _ _ _) (below_set3 hB (by omega) _ _ _)
theorem all_end_al {w W : World} {o : Gp × Bool} {A : Option Addr} {c : Nat} {a0 b0 : Int} {v0 : Value} {act : Act} (ob : Obj) (ht : act.tmps.getD 6 undef = .pointer (some ⟨w.heap.size + 1 + 1, 0, none⟩)) (hs : act.tmps.getD 7 undef = .bool o.2) (hd : act.defers = [])
    (hL : Lies (w.heap.size + 1 + 1) (gpC a0 b0 v0) 26 W) (h1 : o.1.ps.length ≤ c) (h2 : c ≤ maxLen) (h5 : Row W A (pc o.1.ps)) (hB : Below w.heap.size w W) :
    bodyPost Try.prog Try.f26 (GivesGB o w) .ret act ((set3 W (w.heap.size + 1 + 1) o.1.no o.1.mark (.slice A o.1.ps.length c)).alloc ob) :=
  all_ret ht hs hd (Lies.al (Lies.set3 hL _ _ _)) h1 h2 ((row_set3 h5 hL (pc_big _) _ _ _).below (below_al (Below.refl _ _))) (below_next (below_set3 hB (by omega) _ _ _) (below_al (Below.refl _ _)))
theorem Three.gset3 {w0 a : World} {j : Jb} {no mark : Int} {sv : Value} (h : Three w0 j no mark sv a) (x y : Int) (v : Value) : Three w0 j x y v (set3 a (w0.heap.size + 1) x y v) where
  job := ((h.job.other (by omega) _ _).other (by omega) _ _).other (by omega) _ _
  gp := Lies.set3 h.gp _ _ _
  res := ((h.res.other (by omega) _ _).other (by omega) _ _).other (by omega) _ _
  below := below_set3 h.below (by omega) _ _ _
set_option maxRecDepth 100000 in
set_option maxHeartbeats 4000000 in
theorem lawAll (j : Jb) (g : Gp) (l : List Ev) (A : Option Addr) (c : Nat) (D : Option Addr) (d : Nat) (w : World) (hA : Row w A (pc g.ps)) (hl : g.ps.length ≤ c) (hc : c ≤ maxLen) (hD : Row w D (ec l)) (hd : l.length ≤ 9223372036854775807) :
    Calls Try.prog 26 #[jbV j, gpV g.no g.mark (.slice A g.ps.length c), .slice D l.length d] w (GivesGB (allT j g l) w) := by
  obtain ⟨no, mark, xs⟩ := g
  simp only at hA hl ⊢
  have HT := Lib.hid (fun g e A c w' (h : Row w' A (pc g.ps)) h1 h2 => gpTake j g e A c w' h h1 h2)
  have T0 := Lib.hid (Three.start w j no mark (.slice A xs.length c))
  have HA := Lib.hid hA
  have HD := Lib.hid hD
  have HC := Lib.hid (And.intro hl hc)
  clear hA hD hl hc
  go_enter Try.func26, Try.ntmps26
  go_wp2_with fail
  go_loopw [15] (fun i wr => ∃ (k : Nat) (g1 : Gp) (A1 : Option Addr) (c1 : Nat), i = .int .i64 k ∧ k ≤ l.length ∧ allT j ⟨no, mark, xs⟩ (l.take k) = (g1, true) ∧ g1.ps.length ≤ c1 ∧ c1 ≤ maxLen ∧ Row wr A1 (pc g1.ps) ∧ Three w j g1.no g1.mark (.slice A1 g1.ps.length c1) wr) (fun i _ => l.length - (intOf i).toNat)
  case atStart => exact ⟨0, ⟨no, mark, xs⟩, A, c, rfl, Nat.zero_le _, by simp [allT], HC.out.1, HC.out.2, HA.out.below T0.out.below, T0.out⟩
  case round =>
    obtain ⟨k, g1, A1, c1, rfl, hk, hE, hl1, hc1, hR1, hF⟩ := hrel
    have HE := Lib.hid hE; have HL1 := Lib.hid (And.intro hl1 hc1); have HR1 := Lib.hid hR1; have F := Lib.hid hF
    clear hE hl1 hc1 hR1 hF
    by_cases hlt : k < l.length
    · obtain ⟨e, he⟩ : ∃ e, l[k]? = some e := ⟨_, List.getElem?_eq_getElem hlt⟩
      obtain ⟨bD, oD, rfl, q0, q1, q2⟩ := row_ev (HD.out.below F.out.below) he
      have HSTEP := Lib.hid (show allT j ⟨no, mark, xs⟩ (l.take (k + 1)) = stepT j (g1, true) e from by
        rw [List.take_add_one, he]
        show allT j _ (l.take k ++ [e]) = _
        rw [allT_push, HE.out])
      obtain ⟨o, ho⟩ : ∃ o, o = takeR j g1 e := ⟨_, rfl⟩
      have HTK := Lib.hid (show ∀ w', Row w' A1 (pc g1.ps) → Calls Try.prog 11 #[jbV j, gpV g1.no g1.mark (.slice A1 g1.ps.length c1), Itm.evV (kS e.key) e.at_ e.val] w' (GivesGN o w') from fun w' h => ho ▸ HT.out g1 e A1 c1 w' h HL1.out.1 HL1.out.2)
      have HO := Lib.hid ho
      have j0 := F.out.job.cell (j := 0) rfl; have j1 := F.out.job.cell (j := 1) rfl; have j2 := F.out.job.cell (j := 2) rfl; have j3 := F.out.job.cell (j := 3) rfl
      have j4 := F.out.job.cell (j := 4) rfl; have j5 := F.out.job.cell (j := 5) rfl; have j6 := F.out.job.cell (j := 6) rfl; have j7 := F.out.job.cell (j := 7) rfl
      have g0 : wr.cell? ⟨w.heap.size + 1, 0, none⟩ = some (.int .i64 g1.no) := F.out.gp.cell (j := 0) rfl
      have g1' : wr.cell? ⟨w.heap.size + 1, 1, none⟩ = some (.int .i64 g1.mark) := F.out.gp.cell (j := 1) rfl
      have g2 : wr.cell? ⟨w.heap.size + 1, 2, none⟩ = some (.slice A1 g1.ps.length c1) := F.out.gp.cell (j := 2) rfl
      have l0 : w.heap.size < wr.heap.size := lt_of_block F.out.job
      have l1 : w.heap.size + 1 < wr.heap.size := lt_of_block F.out.gp
      clear ho he
      by_cases h0 : o.2.2 = 0
      · have e0 := nb0 h0
        have HST2 := Lib.hid (show stepT j (g1, true) e = (o.1, true) from by unfold stepT; rw [if_pos rfl]; simp only [← HO.out]; rw [if_pos h0])
        clear h0
        go_wp2_with fail
        refine (HTK.out _ (HR1.out.below (below_al (Below.refl _ _)))).mono ?_
        rintro e5 w5 ⟨A5, c5, rfl, l5, m5, R5, hb5⟩
        have F5 := Lib.hid ((F.out.next (below_al (Below.refl _ _))).next hb5)
        have HR5 := Lib.hid R5; have HL5 := Lib.hid (And.intro l5 m5)
        clear R5 l5 m5 hb5 q0 q1 q2 j0 j1 j2 j3 j4 j5 j6 j7 g0 g1' g2 l0 l1
        have F6 := Lib.hid (F5.out.next (below_al (o := .cells (gpC o.1.no o.1.mark (.slice A5 o.1.ps.length c5)) 26) (Below.refl _ _)))
        have HR6 := Lib.hid (HR5.out.below (below_al (o := .cells (gpC o.1.no o.1.mark (.slice A5 o.1.ps.length c5)) 26) (Below.refl _ _)))
        have k0 := F5.out.gp.cell (j := 0) rfl; have k1 := F5.out.gp.cell (j := 1) rfl; have k2 := F5.out.gp.cell (j := 2) rfl
        have f0 := F5.out.gp.free 0; have f1 := F5.out.gp.free 1; have f2 := F5.out.gp.free 2
        have l1 : w.heap.size + 1 < w5.heap.size := lt_of_block F5.out.gp
        go_wp2_with fail
        go_roundw
        case rel => exact ⟨k + 1, o.1, A5, c5, rfl, by omega, by rw [HSTEP.out, HST2.out], HL5.out.1, HL5.out.2, (row_set3 HR5.out F5.out.gp (pc_big _) _ _ _).below (below_al (Below.refl _ _)), (F5.out.gset3 _ _ _).next (below_al (Below.refl _ _))⟩
        case measure => simp [intOf]; omega
      · have e0 := nb h0
        have HT2 := Lib.hid (show allT j ⟨no, mark, xs⟩ l = (g1, false) from by
          have h1 : allT j ⟨no, mark, xs⟩ (l.take (k + 1)) = (g1, false) := by rw [HSTEP.out]; unfold stepT; rw [if_pos rfl]; simp only [← HO.out]; rw [if_neg h0]
          conv => lhs; rw [← List.take_append_drop (k + 1) l]
          rw [allT_more (by rw [h1]), h1])
        clear h0
        go_wp2_with fail
        refine (HTK.out _ (HR1.out.below (below_al (Below.refl _ _)))).mono ?_
        rintro e5 w5 ⟨A5, c5, rfl, l5, m5, R5, hb5⟩
        have F5 := Lib.hid ((F.out.next (below_al (Below.refl _ _))).next hb5)
        have HR5 := Lib.hid ((HR1.out.below (below_al (Below.refl _ _))).below hb5)
        clear R5 l5 m5 hb5 q0 q1 q2 j0 j1 j2 j3 j4 j5 j6 j7 g0 g1' g2 l0 l1
        have F6 := Lib.hid (F5.out.next (below_al (o := .cells (gpC o.1.no o.1.mark (.slice A5 o.1.ps.length c5)) 26) (Below.refl _ _)))
        have HR6 := Lib.hid (HR5.out.below (below_al (o := .cells (gpC o.1.no o.1.mark (.slice A5 o.1.ps.length c5)) 26) (Below.refl _ _)))
        have k0 : w5.cell? ⟨w.heap.size + 1, 0, none⟩ = some (.int .i64 g1.no) := F5.out.gp.cell (j := 0) rfl
        have k1 : w5.cell? ⟨w.heap.size + 1, 1, none⟩ = some (.int .i64 g1.mark) := F5.out.gp.cell (j := 1) rfl
        have k2 : w5.cell? ⟨w.heap.size + 1, 2, none⟩ = some (.slice A1 g1.ps.length c1) := F5.out.gp.cell (j := 2) rfl
        have r0 := F5.out.res.cell (j := 0) rfl; have r1 := F5.out.res.cell (j := 1) rfl; have r2 := F5.out.res.cell (j := 2) rfl
        have f0 := F5.out.res.free 0; have f1 := F5.out.res.free 1; have f2 := F5.out.res.free 2
        have l1 : w.heap.size + 1 < w5.heap.size := lt_of_block F5.out.gp
        have l2 : w.heap.size + 1 + 1 < w5.heap.size := lt_of_block F5.out.res
        go_wp2_with fail
        rw [HT2.out]
        exact all_end_al (o := (g1, false)) _ rfl rfl rfl F5.out.res HL1.out.1 HL1.out.2 HR5.out F5.out.below
    · have HT2 := Lib.hid (show allT j ⟨no, mark, xs⟩ l = (g1, true) from by
        have h := HE.out
        rwa [List.take_of_length_le (by omega)] at h)
      have k0 : wr.cell? ⟨w.heap.size + 1, 0, none⟩ = some (.int .i64 g1.no) := F.out.gp.cell (j := 0) rfl
      have k1 : wr.cell? ⟨w.heap.size + 1, 1, none⟩ = some (.int .i64 g1.mark) := F.out.gp.cell (j := 1) rfl
      have k2 : wr.cell? ⟨w.heap.size + 1, 2, none⟩ = some (.slice A1 g1.ps.length c1) := F.out.gp.cell (j := 2) rfl
      have r0 := F.out.res.cell (j := 0) rfl; have r1 := F.out.res.cell (j := 1) rfl; have r2 := F.out.res.cell (j := 2) rfl
      have f0 := F.out.res.free 0; have f1 := F.out.res.free 1; have f2 := F.out.res.free 2
      go_wp2_with fail
      rw [HT2.out]
      exact all_end (o := (g1, true)) rfl rfl rfl F.out.res HL1.out.1 HL1.out.2 HR1.out F.out.below
end Grp
end Go.Proofs.Ythfbcfddfbipfaa
