/- The walk of the law JobReads. -/
import Derived.Test.YtileonenphmkkaaDoorJobRefP
import Derived.Test.YtileonenphmkkaaDoorLiftVars
import Derived.Laws.StructEq
import Derived.Deep.CondSized
namespace Go.Proofs.YtileonenphmkkaaDoor
open Go.ChangeShapes Go.WideShapes Go.ChangeAt Go.RowKit
set_option linter.unusedVariables false
set_option maxRecDepth 8000
namespace Jo
open Gen
theorem fields_jb : Tryd.prog.underlying 23 = some (.struct (Tryd.prog.fieldsOf 23)) := by kernel_rfl
theorem stood_jb : Tryd.prog.stoodInHeld 23 = false := by kernel_rfl
theorem run_sameJb (j : Jb) (w : World) : (binOp .eql 23 (jbV j) (jbV j)).run Tryd.prog w = .ok (.bool true) w := by
  have h1 := Tryd.underlying3
  have h2 := Tryd.underlying2
  rw [run_eql_struct, show (10000 : Nat) = 9999 + 1 from rfl, run_equalIn_agg w _ _ _ _ fields_jb stood_jb]
  simp [Program.fieldsOf, Tryd.underlying23, Op.eqFields, part, isAgg, run_underlying h1, run_underlying h2, run_equalIn_int w 9998 _ .i64 .i64 _ _ h1, run_equalIn_int w 9998 _ .i64 .i64 _ _ h2]
theorem pow_data : (Rows.laid_internal_strconv_uint64pow10 : DataW Unit) = Lib.tabData .u64 Lib.pow10Tab := by kernel_rfl
theorem vr_of_laid {w : World} (h : laidMetH Tryd.prog Rows.jobReadsRow.laid w) : Vr w := by
  have h0 := Lift.laidMet_of_H (by kernel_rfl) h
  have h1 : laidMet Tryd.prog (("internal/strconv.uint64pow10", Rows.laid_internal_strconv_uint64pow10) :: ("unicode/utf8.acceptRanges", Rows.laid_unicode_utf8_acceptRanges) :: ("strconv.ErrRange", Rows.laid_strconv_ErrRange) :: ("strconv.ErrSyntax", Rows.laid_strconv_ErrSyntax) :: [("unicode/utf8.first", Rows.laid_unicode_utf8_first)]) w := h0.tail.tail
  refine ⟨?_, ?_, ?_⟩
  · rw [pow_data] at h1
    exact Lib.tabIs_of_head (g := 1) (by kernel_rfl) (by kernel_rfl) Tryd.underlying112 Tryd.underlying96 (by kernel_rfl) (by kernel_rfl) h1
  · exact Lift.laid_iface h1.tail.tail.tail (by kernel_rfl) (by kernel_rfl) Tryd.underlying59
  · exact Lift.laid_iface h1.tail.tail (by kernel_rfl) (by kernel_rfl) Tryd.underlying59
theorem sized_str {H : Type} {P : Program} {ts : List TypeId} {ds : List (DataW H)} (h : (DataW.weightsEach P ts ds).all (· ≤ reachBytes) = true) {j : Nat} {t : TypeId} {l : List UInt8} (ht : ts[j]? = some t) (hd : ds[j]? = some (.lit (.string l))) : l.length ≤ 140737488355328 := by
  have h2 := sized_string h (j := j) ht hd
  unfold reachBytes at h2
  omega
set_option maxHeartbeats 2000000 in
theorem walkJobReads (s : List UInt8) (hs : s.length ≤ 140737488355328) (w : World) (hw : Vr w) : Calls Tryd.prog 4 #[strv s] w (TellsB true w) := by
  have HP := Lib.hid (jParse s hs w hw)
  have HQ := Lib.hid (fun w => rParse s hs w)
  have HA := Lib.hid (fun w => lAlive w)
  obtain ⟨j, hj⟩ : ∃ j, j = outJ (parse s) := ⟨_, rfl⟩
  obtain ⟨er, her⟩ : ∃ x, x = outE (parse s) := ⟨_, rfl⟩
  obtain ⟨k, hk⟩ : ∃ x, x = outK (parse s) := ⟨_, rfl⟩
  unfold TellsP at HP HQ
  rw [← hj, ← her, ← hk] at HP HQ
  have hsame := fun w => run_sameJb j w
  have he : (er == er) = true := eq_b rfl
  have hke : (k == k) = true := eq_b rfl
  clear hj her hk hs hw
  go_enter Tryd.func4, Tryd.ntmps4
  go_wp2_with fail
  refine HP.out.mono ?_
  rintro e w1 ⟨rfl, hb1⟩
  have B1 := Lib.hid hb1
  have J1 := Lib.hid (Lies.new w1 (jbC j) 23)
  clear hb1
  go_wp2_with fail
  refine (HQ.out _).mono ?_
  rintro e w2 ⟨rfl, hb2⟩
  have B2 := Lib.hid (below_next (below_al (o := .cells (jbC j) 23) B1.out) hb2)
  have J2 := Lib.hid (show Lies w1.heap.size (jbC j) 23 w2 from (hb2.block _ (lt_of_block J1.out)).trans J1.out)
  have K2 := Lib.hid (Lies.new w2 (jbC j) 23)
  clear hb2
  go_wp2_with fail
  refine (HA.out _).mono ?_
  rintro e w3 ⟨rfl, hb3⟩
  have B3 := Lib.hid (below_next (below_al (o := .cells (jbC j) 23) B2.out) hb3)
  have J3 := Lib.hid (show Lies w1.heap.size (jbC j) 23 w3 from (hb3.block _ (lt_of_block J2.out.al)).trans J2.out.al)
  have K3 := Lib.hid (show Lies w2.heap.size (jbC j) 23 w3 from (hb3.block _ (lt_of_block K2.out)).trans K2.out)
  have x0 := J3.out.cell (j := 0) rfl
  have x1 := J3.out.cell (j := 1) rfl
  have x2 := J3.out.cell (j := 2) rfl
  have x3 := J3.out.cell (j := 3) rfl
  have x4 := J3.out.cell (j := 4) rfl
  have x5 := J3.out.cell (j := 5) rfl
  have x6 := J3.out.cell (j := 6) rfl
  have x7 := J3.out.cell (j := 7) rfl
  have z0 := K3.out.cell (j := 0) rfl
  have z1 := K3.out.cell (j := 1) rfl
  have z2 := K3.out.cell (j := 2) rfl
  have z3 := K3.out.cell (j := 3) rfl
  have z4 := K3.out.cell (j := 4) rfl
  have z5 := K3.out.cell (j := 5) rfl
  have z6 := K3.out.cell (j := 6) rfl
  have z7 := K3.out.cell (j := 7) rfl
  clear hb3
  go_wp2_with fail
  go_ret
  exact ⟨rfl, B3.out⟩
theorem lawJobReads : Lift.OwesX Vr 4 [9] := by
  intro H enc W base args ds ps hval hA _ hwt hY
  obtain ⟨v0, d0, rfl, rfl, h0⟩ := trodAll_one hA
  obtain ⟨s, rfl, rfl, rfl, ws⟩ := ChangeMaps.open_string Tryd.underlying9 (hval 0 _ v0 rfl rfl) h0
  exact walkJobReads s.data.toList (sized_str hwt (j := 0) rfl rfl) W hY
end Jo
theorem lawJobReads : Lift.OwesX Jo.Vr 4 [9] := Jo.lawJobReads
theorem laidToJobReads (w : World) (h : laidMetH Tryd.prog Rows.jobReadsRow.laid w) : Jo.Vr w := Jo.vr_of_laid h
end Go.Proofs.YtileonenphmkkaaDoor
