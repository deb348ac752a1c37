/- JobLines: the ways that end early. -/
import Derived.Test.YtileonenphmkkaaDoorJobLaw
import Derived.Test.YtileonenphmkkaaDoorJobParse
import Derived.Test.YtileonenphmkkaaDoorJobPrint
import Derived.Test.YtileonenphmkkaaDoorJobRef
import Derived.Test.YtileonenphmkkaaDoorJobSplit
namespace Go.Proofs.YtileonenphmkkaaDoor
open Go.ChangeShapes Go.WideShapes Go.ChangeAt Go.RowKit
set_option linter.unusedVariables false
set_option maxRecDepth 8000
namespace Jo
open Gen
set_option maxHeartbeats 600000 in
theorem walkLinesA (j : Jb) (hl : j.limit ≤ 9223372036854775807) (k0 : Int) (more : List UInt8) (hr : right j = false) (w : World) (hw : Vr w) : Calls Tryd.prog 7 #[jbV j, .int .i64 k0, strv more] w (TellsB true w) := by
  have HP := Lib.hid (fun w ht => jPrint j hl w ht)
  have HA := Lib.hid (fun w => lAlive w)
  have HW := Lib.hid hw
  have B0 := Lib.hid (below_al (o := .cells (jbC j) 23) (Below.refl w.heap.size w))
  unfold PrintR at HP
  rw [hr] at HP
  have HP := Lib.hid (fun w ht => show Calls Tryd.prog 8 #[jbV j] w (fun e w' => e = .returned (.tuple #[strv [], .int .i64 130]) ∧ Below w.heap.size w w') from HP.out w ht)
  clear hr hl hw
  go_enter Tryd.func7, Tryd.ntmps7
  go_wp2_with fail
  refine (HP.out _ (HW.out.next B0.out).tab).mono ?_
  rintro e w1 ⟨rfl, hb1⟩
  have B1 := Lib.hid (below_next B0.out hb1)
  clear hb1
  go_wp2_with fail
  refine (HA.out _).mono ?_
  rintro e w2 ⟨rfl, hb2⟩
  have B2 := Lib.hid (below_next B1.out hb2)
  clear hb2
  go_wp2_with fail
  go_ret
  exact ⟨rfl, B2.out⟩
set_option maxHeartbeats 600000 in
theorem walkLinesB (j : Jb) (hl : j.limit ≤ 9223372036854775807) (k0 : Int) (more : List UInt8) (hr : right j = true) (hm : 100 < more.length) (w : World) (hw : Vr w) : Calls Tryd.prog 7 #[jbV j, .int .i64 k0, strv more] w (TellsB true w) := by
  have HP := Lib.hid (fun w ht => jPrint j hl w ht)
  have HA := Lib.hid (fun w => lAlive w)
  have HW := Lib.hid hw
  have B0 := Lib.hid (below_al (o := .cells (jbC j) 23) (Below.refl w.heap.size w))
  unfold PrintR at HP
  rw [hr] at HP
  have HP := Lib.hid (fun w ht => show Calls Tryd.prog 8 #[jbV j] w (fun e w' => e = .returned (.tuple #[strv (text j), .int .i64 0]) ∧ Below w.heap.size w w') from HP.out w ht)
  have g1 : (100 : Int) < (more.length : Int) := by omega
  clear hr hl hw hm
  go_enter Tryd.func7, Tryd.ntmps7
  go_wp2_with fail
  refine (HP.out _ (HW.out.next B0.out).tab).mono ?_
  rintro e w1 ⟨rfl, hb1⟩
  have B1 := Lib.hid (below_next B0.out hb1)
  clear hb1
  go_wp2_with fail
  refine (HA.out _).mono ?_
  rintro e w2 ⟨rfl, hb2⟩
  have B2 := Lib.hid (below_next B1.out hb2)
  clear hb2
  go_wp2_with fail
  go_ret
  exact ⟨rfl, B2.out⟩
end Jo
end Go.Proofs.YtileonenphmkkaaDoor
