/- What the laws of jobs lean on: jobs compared whole, jobs that came in, what listed variables hold. -/
import Derived.Test.YtileonenphmkkaaDoorJobNum
import Derived.Test.YtileonenphmkkaaDoorJobRight
import Derived.Test.YtileonenphmkkaaDoorLiftVars
import Derived.Laws.StructEq
import Derived.Deep.CondSized
namespace Go.Proofs.YtileonenphmkkaaDoor
open Go.ChangeShapes Go.WideShapes Go.ChangeAt Go.RowKit
set_option linter.unusedVariables false
set_option maxRecDepth 8000
namespace Jo
open Gen
theorem fields_jb : Tryd.prog.underlying 23 = some (.struct (Tryd.prog.fieldsOf 23)) := by kernel_rfl
theorem stood_jb : Tryd.prog.stoodInHeld 23 = false := by kernel_rfl
theorem run_sameJb (j : Jb) (w : World) : (binOp .eql 23 (jbV j) (jbV j)).run Tryd.prog w = .ok (.bool true) w := by
  have h1 := Tryd.underlying3
  have h2 := Tryd.underlying2
  rw [run_eql_struct, show (10000 : Nat) = 9999 + 1 from rfl, run_equalIn_agg w _ _ _ _ fields_jb stood_jb]
  simp [Program.fieldsOf, Tryd.underlying23, Op.eqFields, part, isAgg, run_underlying h1, run_underlying h2, run_equalIn_int w 9998 _ .i64 .i64 _ _ h1, run_equalIn_int w 9998 _ .i64 .i64 _ _ h2]
theorem pow_data : (Rows.laid_internal_strconv_uint64pow10 : DataW Unit) = Lib.tabData .u64 Lib.pow10Tab := by kernel_rfl
/-- The seven listed variables. -/
abbrev laid7 : List (String × DataW Unit) := Rows.jobReadsRow.laid
theorem vr_of_laid {w : World} (h : laidMetH Tryd.prog laid7 w) : Vr w := by
  have h0 := Lift.laidMet_of_H (by kernel_rfl) h
  have h1 : laidMet Tryd.prog (("internal/strconv.uint64pow10", Rows.laid_internal_strconv_uint64pow10) :: ("unicode/utf8.acceptRanges", Rows.laid_unicode_utf8_acceptRanges) :: ("strconv.ErrRange", Rows.laid_strconv_ErrRange) :: ("strconv.ErrSyntax", Rows.laid_strconv_ErrSyntax) :: [("unicode/utf8.first", Rows.laid_unicode_utf8_first)]) w := h0.tail.tail
  refine ⟨?_, ?_, ?_⟩
  · rw [pow_data] at h1
    exact Lib.tabIs_of_head (g := 1) (by kernel_rfl) (by kernel_rfl) Tryd.underlying112 Tryd.underlying96 (by kernel_rfl) (by kernel_rfl) h1
  · exact Lift.laid_iface h1.tail.tail.tail (by kernel_rfl) (by kernel_rfl) Tryd.underlying59
  · exact Lift.laid_iface h1.tail.tail (by kernel_rfl) (by kernel_rfl) Tryd.underlying59
theorem sized_str {H : Type} {P : Program} {ts : List TypeId} {ds : List (DataW H)} (h : (DataW.weightsEach P ts ds).all (· ≤ reachBytes) = true) {j : Nat} {t : TypeId} {l : List UInt8} (ht : ts[j]? = some t) (hd : ds[j]? = some (.lit (.string l))) : l.length ≤ 140737488355328 := by
  have h2 := sized_string h (j := j) ht hd
  unfold reachBytes at h2
  omega
/-- A job whose numbers fit. -/
def inI (n : Int) : Prop := -9223372036854775808 ≤ n ∧ n ≤ 9223372036854775807
theorem wf_inI {n : Int} (h : (Lit.int .i64 n).wf = true) : inI n := by
  simp [Lit.wf, IntKind.min, IntKind.max, IntKind.bits, IntKind.signed] at h
  unfold inI
  omega
theorem cells_jb : Tryd.prog.cellsOf 23 = 8 := by kernel_rfl
theorem cells_jint : Tryd.prog.cellsOf 3 = 1 := by kernel_rfl
theorem cells_ji64 : Tryd.prog.cellsOf 2 = 1 := by kernel_rfl
section
variable {H : Type} {enc : TypeId × Value → H} {w : World} {base : Nat} {spare : Nat → Bool} {held : Bool}
theorem jone_int {fuel : Nat} {c : Value} {x : DataW H × List MemPlace} (h : DataW.trod enc Tryd.prog w base spare held fuel 3 [c] = some x) : ∃ z : Int, c = .int .i64 z ∧ inI z := by
  obtain ⟨z, h1, _, h3⟩ := DataW.trod_int Tryd.underlying3 h
  exact ⟨z, by simpa using h1, wf_inI h3⟩
theorem jone_i64 {fuel : Nat} {c : Value} {x : DataW H × List MemPlace} (h : DataW.trod enc Tryd.prog w base spare held fuel 2 [c] = some x) : ∃ z : Int, c = .int .i64 z ∧ inI z := by
  obtain ⟨z, h1, _, h3⟩ := DataW.trod_int Tryd.underlying2 h
  exact ⟨z, by simpa using h1, wf_inI h3⟩
theorem openJb {r : Reach} {b0 : Nat} {v : Value} {d : DataW H} {p : List MemPlace} (hv : Value.okWide Tryd.prog w r b0 23 v) (h : DataW.Trod enc Tryd.prog w base spare held 23 v d p) : ∃ j : Jb, v = jbV j ∧ inI j.limit := by
  obtain ⟨cs, rfl, hsz⟩ := okWide_struct Tryd.underlying23 hv
  obtain ⟨l⟩ := cs
  match l, hsz.trans cells_jb with
  | [c0, c1, c2, c3, c4, c5, c6, c7], _ =>
    obtain ⟨fuel, hf⟩ := h
    have h : DataW.trod enc Tryd.prog w base spare held fuel 23 [c0, c1, c2, c3, c4, c5, c6, c7] = some (d, p) := by simpa [Value.cells] using hf
    obtain ⟨xs, n, _, _, _, hlen, hg⟩ := DataW.trod_struct Tryd.underlying23 h
    have hl : xs.length = 8 := hlen
    match xs, hl with
    | [y0, y1, y2, y3, y4, y5, y6, y7], _ =>
      obtain ⟨a0, rfl, _⟩ := jone_int (x := y0) (by simpa [cells_jint, cells_ji64] using hg 0 _ rfl)
      obtain ⟨a1, rfl, _⟩ := jone_i64 (x := y1) (by simpa [cells_jint, cells_ji64] using hg 1 _ rfl)
      obtain ⟨a2, rfl, _⟩ := jone_i64 (x := y2) (by simpa [cells_jint, cells_ji64] using hg 2 _ rfl)
      obtain ⟨a3, rfl, _⟩ := jone_int (x := y3) (by simpa [cells_jint, cells_ji64] using hg 3 _ rfl)
      obtain ⟨a4, rfl, _⟩ := jone_int (x := y4) (by simpa [cells_jint, cells_ji64] using hg 4 _ rfl)
      obtain ⟨a5, rfl, h5⟩ := jone_i64 (x := y5) (by simpa [cells_jint, cells_ji64] using hg 5 _ rfl)
      obtain ⟨a6, rfl, _⟩ := jone_i64 (x := y6) (by simpa [cells_jint, cells_ji64] using hg 6 _ rfl)
      obtain ⟨a7, rfl, _⟩ := jone_int (x := y7) (by simpa [cells_jint, cells_ji64] using hg 7 _ rfl)
      exact ⟨⟨a0, a1, a2, a3, a4, a5, a6, a7⟩, rfl, h5⟩
end
end Jo
end Go.Proofs.YtileonenphmkkaaDoor
