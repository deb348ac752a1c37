/- The law's do, whatever happens; acts that came in; a link's start. -/
import Derived.Test.YtbdlmokgmgpbfaaLinkDo0
import Derived.Test.YtbdlmokgmgpbfaaLinkDoF
import Derived.Test.YtbdlmokgmgpbfaaLinkOpen
namespace Go.Proofs.Ytbdlmokgmgpbfaa
open Go.ChangeShapes Go.WideShapes Go.ChangeAt Go.RowKit
set_option linter.unusedVariables false
set_option maxRecDepth 8000
namespace Lk
open Gen
theorem none_zero {α : Type} {l : List α} {which : Int} (h : l[idx which l.length]? = none) : l.length = 0 := by
  rcases Nat.eq_zero_or_pos l.length with h0 | h0
  · exact h0
  · have := idx_lt which h0
    rw [List.getElem?_eq_getElem this] at h
    cases h
theorem lawDoA (w0 : World) (b : Nat) (ep : Int) (N : Nat) (p : Wy) (hI : Inv ep N p) (hN : N ≤ 1000) (a : Ac) (w : World) (h : Plays w0 b p w) :
    Calls Try.prog 23 #[.pointer (some ⟨b, 0, none⟩), .agg #[.int .i64 a.what, .int .i64 a.which, .string a.body]] w (DidP w0 b (doO p a)) := by
  obtain ⟨what, which, body⟩ := a
  unfold doO
  by_cases h0 : what = 0
  · rw [if_pos h0]; exact lawDo0 w0 b ep N p hI hN what which body h0 w h
  rw [if_neg h0]
  by_cases h4 : what = 4
  · rw [if_pos h4]
    cases hv : p.wants[idx which p.wants.length]? with
    | none => exact lawDo4N w0 b ep N p hI hN what which body h4 (none_zero hv) w h
    | some v => exact lawDo4 w0 b ep N p hI hN what which body h4 v hv w h
  rw [if_neg h4]
  by_cases h5 : what = 5
  · rw [if_pos h5]; exact lawDo5 w0 b ep N p hI hN what which body h5 w h
  rw [if_neg h5]
  by_cases h13 : 1 ≤ what ∧ what ≤ 3
  · rw [if_pos h13]
    cases hx : p.way[idx which p.way.length]? with
    | none => exact lawDoNone w0 b ep N p hI what which body h13 (List.eq_nil_of_length_eq_zero (none_zero hx)) w h
    | some x =>
      have hnp : 0 < p.way.length := by have := (List.getElem?_eq_some_iff.1 hx).1; omega
      by_cases h1 : what = 1
      · simp only [if_pos h1]; exact lawDo1 w0 b ep N p hI hN what which body h1 hnp x hx w h
      · by_cases h2 : what = 2
        · simp only [if_neg h1, if_pos h2]; exact lawDo2 w0 b ep N p hI hN what which body h2 hnp x hx w h
        · simp only [if_neg h1, if_neg h2]; exact lawDo3 w0 b ep N p hI hN what which body (by omega) hnp w h
  · rw [if_neg h13]
    exact lawDoF w0 b ep N p hI hN what which body (by omega) w h
abbrev acL (a : Ac) : List Value := [.int .i64 a.what, .int .i64 a.which, .string a.body]
theorem acL_len (a : Ac) : (acL a).length = 3 := rfl
instance : Inhabited Ac := ⟨⟨0, 0, ByteArray.empty⟩⟩
section
variable {H : Type} {enc : TypeId × Value → H} {w : World} {base : Nat} {spare : Nat → Bool} {held : Bool}
theorem ltrod_acL {fuel : Nat} {c0 c1 c2 : Value} {x : DataW H × List MemPlace} (h : DataW.trod enc Try.prog w base spare held fuel 53 [c0, c1, c2] = some x) : ∃ e : Ac, [c0, c1, c2] = acL e := by
  obtain ⟨xs, n, _, _, _, hlen, hg⟩ := DataW.trod_struct Try.underlying53 h
  have hl : xs.length = 3 := hlen
  match xs, hl with
  | [y0, y1, y2], _ =>
    obtain ⟨a, rfl, _⟩ := lone_intW (x := y0) (by simpa [lkcells_int, lkcells_str] using hg 0 _ rfl)
    obtain ⟨b, rfl, _⟩ := lone_intW (x := y1) (by simpa [lkcells_int, lkcells_str] using hg 1 _ rfl)
    obtain ⟨k, rfl, _⟩ := lone_strW (x := y2) (by simpa [lkcells_int, lkcells_str] using hg 2 _ rfl)
    exact ⟨⟨a, b, k⟩, rfl⟩
theorem openActsL {v : Value} {d : DataW H} {ps : List MemPlace} {r : Reach} {b0 : Nat} (hval : Value.okWide Try.prog w r b0 47 v) (h : DataW.Trod enc Try.prog w base spare held 47 v d ps) :
    ∃ (A : Option Addr) (c : Nat) (l : List Ac), v = .slice A l.length c ∧ l.length ≤ c ∧ c ≤ maxLen ∧ Row w A (l.flatMap acL) :=
  openRow (f := acL) Try.underlying47 lkcells_ac (by omega) (fun _ => rfl) (fun fuel cs x hl hx => by
    match cs, hl with
    | [c0, c1, c2], _ => exact ltrod_acL hx) hval h
end
/-- A link at its start. -/
def p0 (E : Int) : Wy := ⟨⟨E, 0, [], 0⟩, ⟨E, 0⟩, [], [], [], true, []⟩
abbrev plC0 (E : Int) : Array Value := #[.int .i64 E, .int .i64 0, .slice none 0 0, .int .i64 0, .int .i64 E, .int .i64 0, .slice none 0 0, .slice none 0 0, .slice none 0 0, .bool true, .slice none 0 0]
theorem plays0 {w0 w : World} (E : Int) (h : Below w0.heap.size w0 w) : Plays w0 w.heap.size (p0 E) (w.alloc (.cells (plC0 E) 51)) :=
  ⟨.slice none 0 0, .slice none 0 0, .slice none 0 0, .slice none 0 0, .slice none 0 0, Lies.new w _ _, own_none, own_none, own_none, own_none, own_none, fun q h => (by cases h), fun q h => (by cases h), fun q h => (by cases h), h.size, h.alloc h.size _⟩
end Lk
end Go.Proofs.Ytbdlmokgmgpbfaa
