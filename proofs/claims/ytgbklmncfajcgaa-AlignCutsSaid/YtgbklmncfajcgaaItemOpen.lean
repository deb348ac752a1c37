/- An item, an event that came in. -/
import Derived.Test.YtgbklmncfajcgaaItemPutIt
import Derived.OpenShut
namespace Go.Proofs.Ytgbklmncfajcgaa
open Go.ChangeShapes Go.WideShapes Go.ChangeAt Go.RowKit
open Itm
set_option linter.unusedVariables false
set_option maxRecDepth 8000
theorem wf64 {n : Int} (h : (Lit.int .i64 n).wf = true) : -9223372036854775808 ≤ n ∧ n ≤ 9223372036854775807 := by
  simp [Lit.wf, IntKind.min, IntKind.max, IntKind.bits, IntKind.signed] at h
  omega
section
variable {H : Type} {enc : TypeId × Value → H} {w : World} {base : Nat} {spare : Nat → Bool} {held : Bool}
theorem cells_str : Try.prog.cellsOf 9 = 1 := by kernel_rfl
theorem cells_i64 : Try.prog.cellsOf 2 = 1 := by kernel_rfl
theorem cells_int : Try.prog.cellsOf 3 = 1 := by kernel_rfl
theorem cells_win : Try.prog.cellsOf 38 = 2 := by kernel_rfl
theorem cells_ev : Try.prog.cellsOf 36 = 3 := by kernel_rfl
theorem cells_res : Try.prog.cellsOf 40 = 5 := by kernel_rfl
theorem cells_it : Try.prog.cellsOf 42 = 11 := by kernel_rfl
theorem one_int {fuel : Nat} {c : Value} {x : DataW H × List MemPlace} (h : DataW.trod enc Try.prog w base spare held fuel 2 [c] = some x) : ∃ z : Int, c = .int .i64 z ∧ -9223372036854775808 ≤ z ∧ z ≤ 9223372036854775807 := by
  obtain ⟨z, h1, _, h3⟩ := DataW.trod_int Try.underlying2 h
  exact ⟨z, by simpa using h1, wf64 h3⟩
theorem one_int' {fuel : Nat} {c : Value} {x : DataW H × List MemPlace} (h : DataW.trod enc Try.prog w base spare held fuel 3 [c] = some x) : ∃ z : Int, c = .int .i64 z ∧ -9223372036854775808 ≤ z ∧ z ≤ 9223372036854775807 := by
  obtain ⟨z, h1, _, h3⟩ := DataW.trod_int Try.underlying3 h
  exact ⟨z, by simpa using h1, wf64 h3⟩
theorem one_str {fuel : Nat} {c : Value} {x : DataW H × List MemPlace} (h : DataW.trod enc Try.prog w base spare held fuel 9 [c] = some x) : ∃ s : ByteArray, c = .string s ∧ s.size ≤ maxLen := by
  obtain ⟨s, h1, _, h3⟩ := DataW.trod_string Try.underlying9 h
  exact ⟨s, by simpa using h1, h3⟩
theorem trod_ev {fuel : Nat} {c0 c1 c2 : Value} {x : DataW H × List MemPlace} (h : DataW.trod enc Try.prog w base spare held fuel 36 [c0, c1, c2] = some x) :
    ∃ (k : ByteArray) (a v : Int), c0 = .string k ∧ c1 = .int .i64 a ∧ c2 = .int .i64 v ∧ -9223372036854775808 ≤ v ∧ v ≤ 9223372036854775807 := by
  obtain ⟨xs, n, _, _, _, hlen, hg⟩ := DataW.trod_struct Try.underlying36 h
  have hl : xs.length = 3 := hlen
  match xs, hl with
  | [y0, y1, y2], _ =>
    obtain ⟨k, rfl, _⟩ := one_str (x := y0) (by simpa [cells_str] using hg 0 _ rfl)
    obtain ⟨a, rfl, _⟩ := one_int (x := y1) (by simpa [cells_i64] using hg 1 _ rfl)
    obtain ⟨v, rfl, h1, h2⟩ := one_int (x := y2) (by simpa [cells_i64] using hg 2 _ rfl)
    exact ⟨k, a, v, rfl, rfl, rfl, h1, h2⟩
theorem trod_win {fuel : Nat} {c0 c1 : Value} {x : DataW H × List MemPlace} (h : DataW.trod enc Try.prog w base spare held fuel 38 [c0, c1] = some x) :
    ∃ (a v : Int), c0 = .int .i64 a ∧ c1 = .int .i64 v := by
  obtain ⟨xs, n, _, _, _, hlen, hg⟩ := DataW.trod_struct Try.underlying38 h
  have hl : xs.length = 2 := hlen
  match xs, hl with
  | [y0, y1], _ =>
    obtain ⟨a, rfl, _⟩ := one_int (x := y0) (by simpa [cells_i64] using hg 0 _ rfl)
    obtain ⟨v, rfl, h1, h2⟩ := one_int (x := y1) (by simpa [cells_i64] using hg 1 _ rfl)
    exact ⟨a, v, rfl, rfl⟩
theorem trod_res {fuel : Nat} {c0 c1 c2 c3 c4 : Value} {x : DataW H × List MemPlace} (h : DataW.trod enc Try.prog w base spare held fuel 40 [c0, c1, c2, c3, c4] = some x) :
    ∃ (lo hi : Int) (k : ByteArray) (n v : Int), c0 = .int .i64 lo ∧ c1 = .int .i64 hi ∧ c2 = .string k ∧ c3 = .int .i64 n ∧ c4 = .int .i64 v ∧ -9223372036854775808 ≤ v ∧ v ≤ 9223372036854775807 := by
  obtain ⟨xs, n, _, _, _, hlen, hg⟩ := DataW.trod_struct Try.underlying40 h
  have hl : xs.length = 4 := hlen
  match xs, hl with
  | [y0, y1, y2, y3], _ =>
    obtain ⟨lo, hi, rfl, rfl⟩ := trod_win (x := y0) (by simpa [cells_win] using hg 0 _ rfl)
    obtain ⟨k, rfl, _⟩ := one_str (x := y1) (by simpa [cells_str] using hg 1 _ rfl)
    obtain ⟨n, rfl, _⟩ := one_int (x := y2) (by simpa [cells_i64] using hg 2 _ rfl)
    obtain ⟨v, rfl, h1, h2⟩ := one_int (x := y3) (by simpa [cells_i64] using hg 3 _ rfl)
    exact ⟨lo, hi, k, n, v, rfl, rfl, rfl, rfl, rfl, h1, h2⟩
theorem openEvent {r : Reach} {b0 : Nat} {v : Value} {d : DataW H} {p : List MemPlace} (hv : Value.okWide Try.prog w r b0 36 v) (h : DataW.Trod enc Try.prog w base spare held 36 v d p) :
    ∃ (k : ByteArray) (a x : Int), v = evV k a x := by
  obtain ⟨cs, rfl, hsz⟩ := okWide_struct Try.underlying36 hv
  obtain ⟨l⟩ := cs
  match l, hsz.trans cells_ev with
  | [c0, c1, c2], _ =>
    obtain ⟨fuel, hf⟩ := h
    obtain ⟨k, a, v, rfl, rfl, rfl, _⟩ := trod_ev (by simpa [Value.cells] using hf)
    exact ⟨k, a, v, rfl⟩
theorem openItem {r : Reach} {b0 : Nat} {v : Value} {d : DataW H} {p : List MemPlace} (hv : Value.okWide Try.prog w r b0 42 v) (h : DataW.Trod enc Try.prog w base spare held 42 v d p) :
    ∃ a : It, v = itV a ∧ Fits a := by
  obtain ⟨cs, rfl, hsz⟩ := okWide_struct Try.underlying42 hv
  obtain ⟨l⟩ := cs
  match l, hsz.trans cells_it with
  | [c0, c1, c2, c3, c4, c5, c6, c7, c8, c9, c10], _ =>
    obtain ⟨fuel, hf⟩ := h
    obtain ⟨xs, n, _, _, _, hlen, hg⟩ := DataW.trod_struct Try.underlying42 hf
    have hl : xs.length = 5 := hlen
    match xs, hl with
    | [y0, y1, y2, y3, y4], _ =>
      obtain ⟨k, rfl, _⟩ := one_int' (x := y0) (by simpa [Value.cells, cells_int] using hg 0 _ rfl)
      obtain ⟨ek, ea, ev, rfl, rfl, rfl, e1, e2⟩ := trod_ev (x := y1) (by simpa [Value.cells, cells_ev] using hg 1 _ rfl)
      obtain ⟨m, rfl, _⟩ := one_int (x := y2) (by simpa [Value.cells, cells_i64] using hg 2 _ rfl)
      obtain ⟨n, rfl, _⟩ := one_int' (x := y3) (by simpa [Value.cells, cells_int] using hg 3 _ rfl)
      obtain ⟨lo, hi, rk, rn, rv, rfl, rfl, rfl, rfl, rfl, r1, r2⟩ := trod_res (x := y4) (by simpa [Value.cells, cells_res] using hg 4 _ rfl)
      exact ⟨⟨k, ek, ea, ev, m, n, lo, hi, rk, rn, rv⟩, rfl, ⟨e1, e2, r1, r2⟩⟩
end
end Go.Proofs.Ytgbklmncfajcgaa
