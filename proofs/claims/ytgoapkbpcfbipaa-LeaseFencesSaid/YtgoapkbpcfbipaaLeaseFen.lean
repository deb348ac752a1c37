/- What LeaseFences keeps: what a call makes of a table; which tokens are fenced; the map. -/
import Derived.Test.YtgoapkbpcfbipaaLeaseTurn
import Derived.Test.YtgoapkbpcfbipaaGenMap
import Derived.Test.YtgoapkbpcfbipaaGenRange
import Derived.Maps.OwnSet
namespace Go.Proofs.Ytgoapkbpcfbipaa
open Go.ChangeShapes Go.WideShapes Go.ChangeAt Go.RowKit Go.Maps
set_option linter.unusedVariables false
set_option maxRecDepth 8000
namespace Ls
open Gen
open Tick (cl addT)
/-- What a call at a time makes of a table. -/
structure Moved (t t' : Tb) (now : Int) : Prop where
  ok : Ok t'
  len : t'.ls.length = t.ls.length
  last : t.last ≤ t'.last
  keep : ∀ (i : Nat) (x l : Le), t.ls[i]? = some x → t'.ls[i]? = some l → inF x now = true → l.own = 0 ∨ (l.own = x.own ∧ l.tok = x.tok)
  fence : ∀ (g k : Int), 0 ≤ g → g < t.ls.length → k ≤ t.last → fencedO t g k = true → fencedO t' g k = true
theorem fenced_nat {t : Tb} (h : Ok t) {j : Nat} {x : Le} (hx : t.ls[j]? = some x) (k : Int) : fencedO t (j : Int) k = decide (x.own = 0 ∨ x.tok ≠ k) := by
  have hj := (List.getElem?_eq_some_iff.1 hx).1
  unfold fencedO
  rw [if_neg (by rw [hasT_mk h hj]; simp), at_nat t.ls t.last hx]
/-- One lease is put anew. -/
theorem moved_set {t : Tb} (h : Ok t) {j : Nat} {x y : Le} {last now : Int} (hx : t.ls[j]? = some x) (ho : Ok ⟨t.ls.set j y, last⟩) (hl : t.last ≤ last)
    (h1 : inF x now = true → y.own = 0 ∨ (y.own = x.own ∧ y.tok = x.tok)) (h2 : ∀ k, k ≤ t.last → (x.own = 0 ∨ x.tok ≠ k) → (y.own = 0 ∨ y.tok ≠ k)) : Moved t ⟨t.ls.set j y, last⟩ now := by
  have hj := (List.getElem?_eq_some_iff.1 hx).1
  refine ⟨ho, List.length_set, hl, fun i x' l hx' hl' hf => ?_, fun g k hg hgn hk hf => ?_⟩
  · by_cases e : i = j
    · subst e
      rw [hx] at hx'
      cases hx'
      have hl'' : (t.ls.set i y)[i]? = some l := hl'
      rw [List.getElem?_set_self hj] at hl''
      cases hl''
      exact h1 hf
    · have hl'' : (t.ls.set j y)[i]? = some l := hl'
      rw [List.getElem?_set_ne (fun e2 => e e2.symm), hx'] at hl''
      cases hl''
      exact .inr ⟨rfl, rfl⟩
  · obtain ⟨i, rfl⟩ : ∃ i : Nat, g = (i : Int) := ⟨g.toNat, by omega⟩
    obtain ⟨z, hz⟩ : ∃ z, t.ls[i]? = some z := ⟨_, List.getElem?_eq_getElem (by omega)⟩
    rw [fenced_nat h hz] at hf
    have hf := of_decide_eq_true hf
    by_cases e : i = j
    · subst e
      rw [hx] at hz
      cases hz
      rw [fenced_nat ho (x := y) (List.getElem?_set_self hj)]
      exact decide_eq_true (h2 k hk hf)
    · rw [fenced_nat ho (x := z) (by show (t.ls.set j y)[i]? = some z; rw [List.getElem?_set_ne (fun e2 => e e2.symm)]; exact hz)]
      exact decide_eq_true hf
theorem moved_refl {t : Tb} (h : Ok t) (now : Int) : Moved t t now := ⟨h, rfl, Int.le_refl _, fun i x l h1 h2 _ => by rw [h1] at h2; cases h2; exact .inr ⟨rfl, rfl⟩, fun _ _ _ _ _ hf => hf⟩
/-- What was granted. -/
structure Granted (t : Tb) (j : Nat) (now : Int) (o : Tb × Int × Int) (x : Le) : Prop where
  get : t.ls[j]? = some x
  free : inF x now = false
  tok : o.2.1 = t.last + 1
  last : o.1.last = t.last + 1
  moved : Moved t o.1 now
theorem grant_moved {t : Tb} (h : Ok t) {j : Nat} (hj : j < t.ls.length) {wk now ut : Int} (hu : 0 ≤ ut ∧ ut ≤ fin) (ho : (grantO t (j : Int) wk now ut).2.2 = 0) : ∃ x, Granted t j now (grantO t (j : Int) wk now ut) x := by
  obtain ⟨x, hx⟩ : ∃ x, t.ls[j]? = some x := ⟨_, List.getElem?_eq_getElem hj⟩
  have ha : at_ t (j : Int) = x := at_nat t.ls t.last hx
  by_cases hw : 1 ≤ wk ∧ wk ≤ 99
  · by_cases hf : inF x now = true
    · rw [grant_fence h hx hw hf] at ho
      exact absurd ho (by decide)
    · have hf : inF x now = false := by simpa using hf
      by_cases hl : t.last = 1073741824
      · exfalso
        unfold grantO at ho
        rw [if_neg (by rw [hasT_mk h hj]; simp [hw]), ha, hf, if_neg (by simp), if_pos hl] at ho
        exact absurd ho (by decide)
      · rw [grant_eq h hx hw hf hl]
        have hlast := h.last
        have ok1 : Ok ⟨t.ls.set j ⟨wk, t.last + 1, ut⟩, t.last + 1⟩ := ok_setN h hj ⟨by omega, by omega⟩ ((okL_iff _ _).2 ⟨by simp only; omega, by simp only; omega, hu, fun e => by simp only at e; omega, fun _ => by simp only; omega⟩)
          (fun i y hi hy _ => by
            have := (okL_iff _ _).1 (h.each i y hy)
            show y.tok ≠ t.last + 1
            omega)
        exact ⟨x, hx, hf, rfl, rfl, moved_set h hx ok1 (by omega) (fun e => by rw [hf] at e; cases e) (fun k hk _ => .inr (by show t.last + 1 ≠ k; omega))⟩
  · exfalso
    unfold grantO at ho
    rw [if_pos (.inr hw)] at ho
    exact absurd ho (by decide)
theorem renew_moved {t : Tb} (h : Ok t) {j : Nat} (hj : j < t.ls.length) {k now ut : Int} (hu : 0 ≤ ut ∧ ut ≤ fin) (ho : (renewO t (j : Int) k now ut).2 = 0) : Moved t (renewO t (j : Int) k now ut).1 now ∧ (renewO t (j : Int) k now ut).1.last = t.last := by
  obtain ⟨i, x, hr⟩ := renew_ok ho
  have e : i = j := by have := hr.place; omega
  subst e
  have h1 := (hr.has hu).1
  rw [hr.is] at h1 ⊢
  exact ⟨moved_set h hr.get h1 (Int.le_refl _) (fun _ => .inr ⟨rfl, rfl⟩) (fun k hk hf => hf), rfl⟩
theorem give_moved {t : Tb} (h : Ok t) {j : Nat} (hj : j < t.ls.length) {k now : Int} (ho : (giveO t (j : Int) k).2 = 0) : Moved t (giveO t (j : Int) k).1 now ∧ (giveO t (j : Int) k).1.last = t.last := by
  obtain ⟨x, hx⟩ : ∃ x, t.ls[j]? = some x := ⟨_, List.getElem?_eq_getElem hj⟩
  by_cases hf : fencedO t (j : Int) k = true
  · exfalso
    unfold giveO at ho
    rw [if_neg (by rw [hasT_mk h hj]; simp), if_pos hf] at ho
    exact absurd ho (by decide)
  · have hf : fencedO t (j : Int) k = false := by simpa using hf
    rw [fenced_nat h hx] at hf
    have hf := of_decide_eq_false hf
    have h1 : x.own ≠ 0 := fun e => hf (.inl e)
    have h2 : x.tok = k := Classical.byContradiction fun e => hf (.inr e)
    rw [give_eq h hx h1 h2]
    have hx0 := (okL_iff _ _).1 (h.each j x hx)
    have ok1 : Ok ⟨t.ls.set j ⟨0, k, 0⟩, t.last⟩ := ok_setN h hj ⟨Int.le_refl _, h.last.2⟩ ((okL_iff _ _).2 ⟨⟨(by decide : (0 : Int) ≤ 0), (by decide : (0 : Int) ≤ 99)⟩, by rw [← h2]; exact hx0.2.1, ⟨(by decide : (0 : Int) ≤ 0), (by decide : (0 : Int) ≤ 1099511627776)⟩, fun _ => rfl, fun e => absurd e (by decide : ¬ (0 : Int) < 0)⟩)
      (fun i y hi hy h0 => by
        show y.tok ≠ k
        rw [← h2]
        have h0' : 0 < x.tok := by rw [h2]; exact h0
        rcases Nat.lt_or_ge i j with hij | hij
        · exact h.solo j i x y hij hx hy h0'
        · intro e
          exact h.solo i j y x (by omega) hy hx (by rw [e]; exact h0') e.symm)
    exact ⟨moved_set h hx ok1 (Int.le_refl _) (fun _ => .inl rfl) (fun _ _ _ => .inl rfl), rfl⟩
def inW (n : Int) : Prop := -9223372036854775808 ≤ n ∧ n ≤ 9223372036854775807
theorem wfW {n : Int} (h : (Lit.int .i64 n).wf = true) : inW n := by
  simp [Lit.wf, IntKind.min, IntKind.max, IntKind.bits, IntKind.signed] at h
  unfold inW
  omega
theorem wf_W {n : Int} (h : inW n) : (Lit.int .i64 n).wf = true := by
  unfold inW at h
  simp [Lit.wf, IntKind.min, IntKind.max, IntKind.bits, IntKind.signed]
  omega
/-- The map's keys: a group and a token. -/
def gkK (g k : Int) : Lit := .string (keyBytes [.int .i64 g, .int .i64 k])
abbrev gkV (g k : Int) : Value := .agg #[.int .i64 g, .int .i64 k]
theorem lawGk : WideMaps.KeyLaw Try.prog 49 := deep_law_laid (P := Try.prog) (m := 9) (by kernel_rfl) (by omega) (of_decide_eq_true (by kernel_rfl)) (by kernel_rfl) (by kernel_rfl)
theorem gcells_gk : Try.prog.cellsOf 49 = 2 := by kernel_rfl
theorem gtypes : ∃ m, Try.prog.types.size = m + 2 := by
  have : 2 ≤ Try.prog.types.size := by decide +kernel
  exact ⟨Try.prog.types.size - 2, by omega⟩
theorem lits_intS {d : Nat} {c : Value} {ls : List Lit} (h : Try.prog.keyLits (d + 1) 3 [c] = some ls) : ∃ n : Int, c = .int .i64 n ∧ inW n ∧ ls = [.int .i64 n] := by
  unfold Program.keyLits at h
  rw [Try.underlying3] at h
  cases c with
  | int q n =>
    by_cases h2 : q = .i64 ∧ (Lit.int .i64 n).wf = true
    · simp [h2] at h
      obtain ⟨rfl, h3⟩ := h2
      exact ⟨n, rfl, wfW h3, h.symm⟩
    · simp [h2] at h
  | _ => simp at h
theorem keyOf_gk {g k : Int} (hg : inW g) (hk : inW k) : keyOf Try.prog 49 (gkV g k) = some (gkK g k) := by
  have w1 := wf_W hg
  have w2 := wf_W hk
  have hkt : Try.prog.keyType 49 = true := by kernel_rfl
  obtain ⟨m, hm⟩ := gtypes
  unfold keyOf
  rw [Try.underlying49, hm]
  simp [hkt, Value.formed, gcells_gk, Try.underlying49, Program.keyLits, Try.underlying3, lscells_int, w1, w2, Value.cells, gkK]
theorem keyOf_gk_inv {v : Value} {kl : Lit} (h : keyOf Try.prog 49 v = some kl) : ∃ g k, inW g ∧ inW k ∧ v = gkV g k ∧ kl = gkK g k := by
  have hkt : Try.prog.keyType 49 = true := by kernel_rfl
  obtain ⟨m, hm⟩ := gtypes
  unfold keyOf at h
  rw [Try.underlying49, hm] at h
  cases v with
  | agg cs =>
    obtain ⟨l⟩ := cs
    by_cases hl : l.length = 2
    · match l, hl with
      | [c0, c1], _ =>
        dsimp only at h
        have hf : (Try.prog.keyType 49 && (Value.agg #[c0, c1]).formed Try.prog 49) = true := by
          simp [hkt, Value.formed, gcells_gk, Try.underlying49]
        rw [if_pos hf] at h
        obtain ⟨ls, hk, rfl⟩ := Option.map_eq_some_iff.1 h
        unfold Program.keyLits at hk
        rw [Try.underlying49] at hk
        simp [gcells_gk, lscells_int, Value.cells] at hk
        cases h0 : Try.prog.keyLits (m + 2) 3 [c0] with
        | none => rw [h0] at hk; simp at hk
        | some a =>
          cases h1 : Try.prog.keyLits (m + 2) 3 [c1] with
          | none => rw [h0, h1] at hk; simp at hk
          | some b =>
            rw [h0, h1] at hk
            obtain ⟨x, rfl, q1, rfl⟩ := lits_intS h0
            obtain ⟨y, rfl, q2, rfl⟩ := lits_intS h1
            simp at hk
            subst hk
            exact ⟨x, y, q1, q2, rfl, rfl⟩
    · simp [hkt, Value.formed, gcells_gk, Try.underlying49, hl] at h
  | _ => simp [hkt, Value.formed, Try.underlying49] at h
theorem gkK_key (g k : Int) : WideAt.IsKeyLit (gkK g k) := trivial
theorem gkK_inj {g k g' k' : Int} (hg : inW g) (hk : inW k) (hg' : inW g') (hk' : inW k') (h : gkK g k = gkK g' k') : g = g' ∧ k = k' := by
  have h1 := keyOf_gk hg hk
  have h2 := keyOf_gk hg' hk'
  rw [h] at h1
  have h3 := lawGk.inj h1 h2
  simp only [Value.agg.injEq, Array.mk.injEq, List.cons.injEq, Value.int.injEq, true_and, and_true] at h3
  exact h3
abbrev FMap (w : World) (b n : Nat) (D : DataW Unit) : Prop := w.ownsMap Try.prog 49 (plainElem (H := Unit) Try.prog 4) b n D
theorem bR_mk (x : Bool) : plainElem (H := Unit) Try.prog 4 (.bool x) = some (.lit (.bool x), []) := plainElem_bool Try.underlying4 x
theorem bR_inv {v : Value} {y : DataW Unit × List MemPlace} (h : plainElem (H := Unit) Try.prog 4 v = some y) : ∃ c : Bool, v = .bool c ∧ y = (.lit (.bool c), []) := by
  unfold plainElem at h
  rw [Try.underlying4] at h
  cases v with
  | bool c => exact ⟨c, rfl, (Option.some.inj h).symm⟩
  | _ => cases h
/-- What the map says of the tokens that were given. -/
structure InAt (D : DataW Unit) (t : Tb) (left : Lit → Bool) : Prop where
  map : IsMap D
  each : ∀ g k, inW g → inW k → Maps.has D (gkK g k) = true → (0 ≤ g ∧ g < t.ls.length ∧ k ≤ t.last) ∧ ∃ b : Bool, (∀ z, D.atKey (gkK g k) z = .lit (.bool b)) ∧ (b = true → fencedO t g k = true) ∧ (left (gkK g k) = false → b = fencedO t g k)
theorem InAt.start (t : Tb) (f : Lit → Bool) : InAt (.map []) t f := ⟨isMap_empty, fun g k _ _ h => by cases h⟩
theorem InAt.act {D : DataW Unit} {t t' : Tb} {now : Int} (h : InAt D t (fun _ => false)) (hm : Moved t t' now) : InAt D t' (Maps.has D) := by
  refine ⟨h.map, fun g k hg hk hh => ?_⟩
  obtain ⟨⟨h1, h2, h3⟩, b, h4, h5, h6⟩ := h.each g k hg hk hh
  refine ⟨⟨h1, by rw [hm.len]; exact h2, Int.le_trans h3 hm.last⟩, b, h4, fun e => hm.fence g k h1 h2 h3 (h5 e), fun e => by rw [hh] at e; cases e⟩
theorem InAt.given {D : DataW Unit} {t : Tb} (h : InAt D t (Maps.has D)) {g k : Int} (hg : inW g) (hk : inW k) (hr : 0 ≤ g ∧ g < t.ls.length ∧ k ≤ t.last) :
    InAt (D.put (gkK g k) (.lit (.bool false))) t (Maps.has (D.put (gkK g k) (.lit (.bool false)))) := by
  refine ⟨h.map.put _ _, fun g' k' hg' hk' hh => ?_⟩
  by_cases e : gkK g' k' = gkK g k
  · obtain ⟨rfl, rfl⟩ := gkK_inj hg' hk' hg hk e
    exact ⟨hr, false, fun z => atKey_put_same h.map (gkK_key _ _) _ _, (fun e => by cases e), fun e => by rw [hh] at e; cases e⟩
  · rw [has_put_other e] at hh
    obtain ⟨h1, b, h4, h5, h6⟩ := h.each g' k' hg' hk' hh
    exact ⟨h1, b, fun z => by rw [atKey_put_other e]; exact h4 z, h5, fun e2 => by rw [has_put_other e, hh] at e2; cases e2⟩
theorem InAt.step {D : DataW Unit} {t : Tb} {left : Lit → Bool} (h : InAt D t left) {g k : Int} (hg : inW g) (hk : inW k) (hh : Maps.has D (gkK g k) = true) :
    InAt (D.put (gkK g k) (.lit (.bool (fencedO t g k)))) t (fun z => left z && !z.sameKey (gkK g k)) := by
  refine ⟨h.map.put _ _, fun g' k' hg' hk' hh' => ?_⟩
  by_cases e : gkK g' k' = gkK g k
  · obtain ⟨rfl, rfl⟩ := gkK_inj hg' hk' hg hk e
    exact ⟨(h.each g' k' hg hk hh).1, fencedO t g' k', fun z => atKey_put_same h.map (gkK_key _ _) _ _, fun e => e, fun _ => rfl⟩
  · rw [has_put_other e] at hh'
    obtain ⟨h1, b, h4, h5, h6⟩ := h.each g' k' hg' hk' hh'
    refine ⟨h1, b, fun z => by rw [atKey_put_other e]; exact h4 z, h5, fun e2 => h6 ?_⟩
    have hs : (gkK g' k').sameKey (gkK g k) = false := sameKey_ne e
    simpa [hs] using e2
theorem InAt.done {D : DataW Unit} {t : Tb} {left : Lit → Bool} (h : InAt D t left) (h0 : ∀ kl, left kl = false) : InAt D t (fun _ => false) :=
  ⟨h.map, fun g k hg hk hh => by
    obtain ⟨h1, b, h4, h5, h6⟩ := h.each g k hg hk hh
    exact ⟨h1, b, h4, h5, fun _ => h6 (h0 _)⟩⟩
end Ls
end Go.Proofs.Ytgoapkbpcfbipaa
