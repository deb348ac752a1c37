/- Events as keys of a map of counts: an entry fetched and stored, all entries one by one. -/
import Derived.Test.YtdfdfdhgggilbaaLoopOpen
import Derived.Test.YtdfdfdhgggilbaaGenMap
namespace Go.Proofs.Ytdfdfdhgggilbaa
open Go.ChangeShapes Go.WideShapes Go.ChangeAt Go.RowKit Go.Maps
set_option linter.unusedVariables false
namespace Lp
open Gen
def evK (e : Ev) : Lit := .string (keyBytes [.string e.key.data.toList, .int .i64 e.at_, .int .i64 e.val])
theorem lawEv : WideMaps.KeyLaw Try.prog 23 := deep_law_laid (P := Try.prog) (m := 9) (by kernel_rfl) (by omega) (of_decide_eq_true (by kernel_rfl)) (by kernel_rfl) (by kernel_rfl)
theorem ltypes : ∃ m, Try.prog.types.size = m + 2 := by
  have : 2 ≤ Try.prog.types.size := by decide +kernel
  exact ⟨Try.prog.types.size - 2, by omega⟩
theorem lits_str {d : Nat} {c : Value} {ls : List Lit} (h : Try.prog.keyLits (d + 1) 9 [c] = some ls) : ∃ s : ByteArray, c = .string s ∧ s.size ≤ maxLen ∧ ls = [.string s.data.toList] := by
  unfold Program.keyLits at h
  rw [Try.underlying9] at h
  cases c with
  | string s =>
    by_cases h2 : s.size ≤ maxLen
    · simp [h2] at h
      exact ⟨s, rfl, h2, h.symm⟩
    · simp [h2] at h
  | _ => simp at h
theorem lits_int {d : Nat} {c : Value} {ls : List Lit} (h : Try.prog.keyLits (d + 1) 2 [c] = some ls) : ∃ n : Int, c = .int .i64 n ∧ inI n ∧ ls = [.int .i64 n] := by
  unfold Program.keyLits at h
  rw [Try.underlying2] at h
  cases c with
  | int q n =>
    by_cases h2 : q = .i64 ∧ (Lit.int .i64 n).wf = true
    · simp [h2] at h
      obtain ⟨rfl, h3⟩ := h2
      exact ⟨n, rfl, lwf64 h3, h.symm⟩
    · simp [h2] at h
  | _ => simp at h
theorem keyOf_ev {e : Ev} (h : evOk e) : keyOf Try.prog 23 (evV e) = some (evK e) := by
  obtain ⟨w1, w2, w3⟩ := h
  have w1 := wf_in w1
  have w2 := wf_in w2
  have hkt : Try.prog.keyType 23 = true := by kernel_rfl
  obtain ⟨m, hm⟩ := ltypes
  unfold keyOf
  rw [Try.underlying23, hm]
  simp [hkt, Value.formed, lcells_ev, Try.underlying23, Program.keyLits, Try.underlying9, Try.underlying2, lcells_str, lcells_i64, w1, w2, w3, Value.cells, evK]
theorem keyOf_ev_inv {v : Value} {kl : Lit} (h : keyOf Try.prog 23 v = some kl) : ∃ e, evOk e ∧ v = evV e ∧ kl = evK e := by
  have hkt : Try.prog.keyType 23 = true := by kernel_rfl
  obtain ⟨m, hm⟩ := ltypes
  unfold keyOf at h
  rw [Try.underlying23, hm] at h
  cases v with
  | agg cs =>
    obtain ⟨l⟩ := cs
    by_cases hl : l.length = 3
    · match l, hl with
      | [c0, c1, c2], _ =>
        dsimp only at h
        have hf : (Try.prog.keyType 23 && (Value.agg #[c0, c1, c2]).formed Try.prog 23) = true := by
          simp [hkt, Value.formed, lcells_ev, Try.underlying23]
        rw [if_pos hf] at h
        obtain ⟨ls, hk, rfl⟩ := Option.map_eq_some_iff.1 h
        unfold Program.keyLits at hk
        rw [Try.underlying23] at hk
        simp [lcells_ev, lcells_str, lcells_i64, Value.cells] at hk
        cases h0 : Try.prog.keyLits (m + 2) 9 [c0] with
        | none => rw [h0] at hk; simp at hk
        | some a =>
          cases h1 : Try.prog.keyLits (m + 2) 2 [c1] with
          | none => rw [h0, h1] at hk; simp at hk
          | some b =>
            cases h2 : Try.prog.keyLits (m + 2) 2 [c2] with
            | none => rw [h0, h1, h2] at hk; simp at hk
            | some c =>
              rw [h0, h1, h2] at hk
              obtain ⟨k, rfl, q1, rfl⟩ := lits_str h0
              obtain ⟨x, rfl, q2, rfl⟩ := lits_int h1
              obtain ⟨y, rfl, q3, rfl⟩ := lits_int h2
              simp at hk
              subst hk
              exact ⟨⟨k, x, y⟩, ⟨q2, q3, q1⟩, rfl, rfl⟩
    · simp [hkt, Value.formed, lcells_ev, Try.underlying23, hl] at h
  | _ => simp [hkt, Value.formed, Try.underlying23] at h
theorem evK_key (e : Ev) : WideAt.IsKeyLit (evK e) := trivial
theorem evK_inj {p q : Ev} (hp : evOk p) (hq : evOk q) (h : evK p = evK q) : p = q := by
  have h1 := keyOf_ev hp
  have h2 := keyOf_ev hq
  rw [h] at h1
  have h3 := lawEv.inj h1 h2
  simp only [Value.agg.injEq, Array.mk.injEq, List.cons.injEq, Value.string.injEq, Value.int.injEq, true_and, and_true] at h3
  obtain ⟨e1, e2, e3⟩ := h3
  cases p; cases q; simp_all
/-- What a map of counts holds. -/
def CountAt (D : DataW Unit) (f : Ev → Int) : Prop := ∀ e, evOk e → D.atKey (evK e) (.lit (.int .i64 0)) = .lit (.int .i64 (f e))
theorem count_start (f : Ev → Int) (h : ∀ t, f t = 0) : CountAt (.map []) f := fun t _ => by rw [h t]; rfl
theorem count_put {D : DataW Unit} {f g : Ev → Int} {x : Ev} (hD : IsMap D) (hx : evOk x) (h : CountAt D f) (hg : ∀ t, t ≠ x → g t = f t) : CountAt (D.put (evK x) (.lit (.int .i64 (g x)))) g := by
  intro t ht
  by_cases e : t = x
  · subst e
    rw [atKey_put_same hD (evK_key t)]
  · rw [atKey_put_other (fun e2 => e (evK_inj ht hx e2)), h t ht, hg t e]
theorem zeroIntL (u : World) : (zeroValue 3).run Try.prog u = .ok (.int .i64 0) u := by kernel_rfl
abbrev Cnt (w : World) (b n : Nat) (D : DataW Unit) : Prop := w.ownsMap Try.prog 23 (plainElem (H := Unit) Try.prog 3) b n D
/-- An event's count, fetched, changed and stored. -/
theorem ev_turn {w : World} {b n : Nat} {D : DataW Unit} {f : Ev → Int} (h : Cnt w b n D) (hn : n < maxLen) {e : Ev} (he : evOk e) (hc : CountAt D f) :
    ∃ (st : Nat) (w1 : World), (Instr.lookup 43 (.map (some b)) (evV e) false).run Try.prog w = .ok (.int .i64 (f e)) w ∧
      (Instr.mapEntry 43 (.map (some b)) (evV e)).run Try.prog w = .ok (.tuple #[.int .i64 (f e), goInt st]) w1 ∧
      (Instr.lookup 43 (.map (some b)) (evV e) false).run Try.prog w1 = .ok (.int .i64 (f e)) w1 ∧ w.grownBy w1 (some b) ∧
      ∀ x : Int, inI x → ∃ w2, (Instr.entryStore 43 (.map (some b)) (goInt st) (.int .i64 x)).run Try.prog w1 = .ok () w2 ∧ Cnt w2 b (n + 1) (D.put (evK e) (.lit (.int .i64 x))) ∧ w.grownBy w2 (some b) := by
  obtain ⟨c, st, w1, hat, e1, e2, e3, g2, hst⟩ := entry_turn (H := Unit) lawEv Try.underlying43 Try.underlying3 zeroIntL h hn (keyOf_ev he)
  have hcn : c = f e := lit_inj (hat.symm.trans (hc e he))
  subst hcn
  exact ⟨st, w1, e1, e2, e3, g2, fun x hx => hst x (wf_in hx)⟩
end Lp
end Go.Proofs.Ytdfdfdhgggilbaa
