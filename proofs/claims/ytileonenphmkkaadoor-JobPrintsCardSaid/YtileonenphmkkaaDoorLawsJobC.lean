/- The walk of the law JobPrints. -/
import Derived.Test.YtileonenphmkkaaDoorJobLaw
import Derived.Test.YtileonenphmkkaaDoorJobText
import Derived.Test.YtileonenphmkkaaDoorJobRef
namespace Go.Proofs.YtileonenphmkkaaDoor
open Go.ChangeShapes Go.WideShapes Go.ChangeAt Go.RowKit
set_option linter.unusedVariables false
set_option maxRecDepth 8000
namespace Jo
open Gen
open Go.Lib (decDigits)
set_option maxHeartbeats 600000 in
theorem walkJobPrints (j : Jb) (hl : j.limit ≤ 9223372036854775807) (w : World) (hw : Tb w) : Calls Tryd.prog 3 #[jbV j] w (TellsB true w) := by
  have HP := Lib.hid (fun w ht => jPrint j hl w ht)
  have HA := Lib.hid (fun w => lAlive w)
  have HR := Lib.hid (fun w => rRight j w)
  have HW := Lib.hid hw
  have J0 := Lib.hid (Lies.new w (jbC j) 23)
  have B0 := Lib.hid (below_al (o := .cells (jbC j) 23) (Below.refl w.heap.size w))
  unfold PrintR at HP
  cases hr : right j with
  | false =>
    rw [hr] at HP HR
    have HP := Lib.hid (fun w ht => show Calls Tryd.prog 8 #[jbV j] w (fun e w' => e = .returned (.tuple #[strv [], .int .i64 130]) ∧ Below w.heap.size w w') from HP.out w ht)
    clear hr hl hw
    go_enter Tryd.func3, Tryd.ntmps3
    go_wp2_with fail
    refine (HP.out _ (HW.out.next B0.out)).mono ?_
    rintro e w1 ⟨rfl, hb1⟩
    have J1 := Lib.hid (show Lies w.heap.size (jbC j) 23 w1 from (hb1.block _ (lt_of_block J0.out)).trans J0.out)
    have B1 := Lib.hid (below_next B0.out hb1)
    have x0 := J1.out.cell (j := 0) rfl
    have x1 := J1.out.cell (j := 1) rfl
    have x2 := J1.out.cell (j := 2) rfl
    have x3 := J1.out.cell (j := 3) rfl
    have x4 := J1.out.cell (j := 4) rfl
    have x5 := J1.out.cell (j := 5) rfl
    have x6 := J1.out.cell (j := 6) rfl
    have x7 := J1.out.cell (j := 7) rfl
    clear hb1
    go_wp2_with fail
    refine (HR.out _).mono ?_
    rintro e w2 ⟨rfl, hb2⟩
    have B2 := Lib.hid (below_next B1.out hb2)
    clear hb2
    go_wp2_with fail
    refine (HA.out _).mono ?_
    rintro e w3 ⟨rfl, hb3⟩
    have B3 := Lib.hid (below_next B2.out hb3)
    clear hb3
    go_wp2_with fail
    go_ret
    exact ⟨rfl, B3.out⟩
  | true =>
    rw [hr] at HP HR
    have HP := Lib.hid (fun w ht => show Calls Tryd.prog 8 #[jbV j] w (fun e w' => e = .returned (.tuple #[strv (text j), .int .i64 0]) ∧ Below w.heap.size w w') from HP.out w ht)
    have HT := Lib.hid (fun w ht => rText j hr hl w ht)
    have hss : (text j == text j) = true := by simp
    clear hr hl hw
    go_enter Tryd.func3, Tryd.ntmps3
    go_wp2_with fail
    refine (HP.out _ (HW.out.next B0.out)).mono ?_
    rintro e w1 ⟨rfl, hb1⟩
    have J1 := Lib.hid (show Lies w.heap.size (jbC j) 23 w1 from (hb1.block _ (lt_of_block J0.out)).trans J0.out)
    have B1 := Lib.hid (below_next B0.out hb1)
    have x0 := J1.out.cell (j := 0) rfl
    have x1 := J1.out.cell (j := 1) rfl
    have x2 := J1.out.cell (j := 2) rfl
    have x3 := J1.out.cell (j := 3) rfl
    have x4 := J1.out.cell (j := 4) rfl
    have x5 := J1.out.cell (j := 5) rfl
    have x6 := J1.out.cell (j := 6) rfl
    have x7 := J1.out.cell (j := 7) rfl
    clear hb1
    go_wp2_with fail
    refine (HR.out _).mono ?_
    rintro e w2 ⟨rfl, hb2⟩
    have J2 := Lib.hid (show Lies w.heap.size (jbC j) 23 w2 from (hb2.block _ (lt_of_block J1.out)).trans J1.out)
    have B2 := Lib.hid (below_next B1.out hb2)
    have x0 := J2.out.cell (j := 0) rfl
    have x1 := J2.out.cell (j := 1) rfl
    have x2 := J2.out.cell (j := 2) rfl
    have x3 := J2.out.cell (j := 3) rfl
    have x4 := J2.out.cell (j := 4) rfl
    have x5 := J2.out.cell (j := 5) rfl
    have x6 := J2.out.cell (j := 6) rfl
    have x7 := J2.out.cell (j := 7) rfl
    clear hb2
    go_wp2_with fail
    refine (HT.out _ (HW.out.next B2.out)).mono ?_
    rintro e w3 ⟨rfl, hb3⟩
    have B3 := Lib.hid (below_next B2.out hb3)
    clear hb3
    go_wp2_with fail
    go_ret
    exact ⟨rfl, B3.out⟩
theorem lawJobPrints : Lift.OwesX Tb 3 [23] := by
  intro H enc W base args ds ps hval hA _ hwt hY
  obtain ⟨v0, d0, rfl, rfl, h0⟩ := trodAll_one hA
  obtain ⟨j, rfl, hl⟩ := openJb (hval 0 _ v0 rfl rfl) h0
  exact walkJobPrints j hl.2 W hY
/-- The three listed variables. -/
theorem tb_of_laid3 {w : World} (h : laidMetH Tryd.prog Rows.jobPrintsRow.laid w) : Tb w := by
  have h0 := Lift.laidMet_of_H (by kernel_rfl) h
  have h1 : laidMet Tryd.prog (("internal/strconv.uint64pow10", Rows.laid_internal_strconv_uint64pow10) :: []) w := h0.tail.tail
  rw [pow_data] at h1
  exact Lib.tabIs_of_head (g := 1) (by kernel_rfl) (by kernel_rfl) Tryd.underlying112 Tryd.underlying96 (by kernel_rfl) (by kernel_rfl) h1
end Jo
theorem lawJobPrints : Lift.OwesX Jo.Tb 3 [23] := Jo.lawJobPrints
theorem laidToJobPrints (w : World) (h : laidMetH Tryd.prog Rows.jobPrintsRow.laid w) : Jo.Tb w := Jo.tb_of_laid3 h
end Go.Proofs.YtileonenphmkkaaDoor
