/- The walk of the law JobRights. -/
import Derived.Test.YtileonenphmkkaaJobOpen
import Derived.Test.YtileonenphmkkaaWide
namespace Go.Proofs.Ytileonenphmkkaa
open Go.ChangeShapes Go.WideShapes Go.ChangeAt Go.RowKit
set_option linter.unusedVariables false
set_option maxRecDepth 8000
namespace Jo
open Gen
/-- What the operations hang on: the job, and the inputs that came in. -/
structure JiAt (w0 : World) (j : Jb) (l : List Sr) (A : Option Addr) (b : Nat) (w : World) : Prop where
  job : Lies b (jbC j) 23 w
  row : Row w A (l.flatMap fun s => [srV s])
  srs : Srs w l
  below : Below w0.heap.size w0 w
theorem JiAt.next {w0 : World} {j : Jb} {l : List Sr} {A : Option Addr} {b : Nat} {w w' : World} (h : JiAt w0 j l A b w) (hb : Below w.heap.size w w') : JiAt w0 j l A b w' :=
  ⟨(hb.block _ (lt_of_block h.job)).trans h.job, h.row.below hb, h.srs.below hb, below_next h.below hb⟩
set_option maxRecDepth 100000 in
set_option maxHeartbeats 600000 in
theorem walkJobRights (j : Jb) (l : List Sr) (A : Option Addr) (c : Nat) (w : World) (h : Row w A (l.flatMap fun s => [srV s])) (hi : Srs w l) (hl : l.length ≤ 9223372036854775807) :
    Calls Try.prog 3 #[jbV j, .slice A l.length c] w (TellsB true w) := by
  have HA := Lib.hid (fun w => lAlive w)
  have HK := Lib.hid (fun w => jRight j w)
  have HF := Lib.hid (fun w => rRight j w)
  have HJ := Lib.hid (fun w h hi => jInputs l A c w h hi)
  have HR := Lib.hid (fun w h hi => rInputs l A c w h hi hl)
  obtain ⟨r, hr⟩ : ∃ r, r = right j := ⟨_, rfl⟩
  obtain ⟨q, hq⟩ : ∃ q, q = insOk l := ⟨_, rfl⟩
  rw [← hr] at HK HF
  rw [← hq] at HJ HR
  have hb0 := below_al (o := .cells (jbC j) 23) (Below.refl w.heap.size w)
  have S := Lib.hid (show JiAt w j l A w.heap.size (w.alloc (.cells (jbC j) 23)) from ⟨Lies.new w _ _, h.below hb0, hi.below hb0, hb0⟩)
  have S := Lib.hid (S.out.next (below_drewOf (Below.refl _ _)))
  clear h hi hl hr hq hb0
  go_enter Try.func3, Try.ntmps3
  go_wp2_with fail
  refine wide_all (JiAt w j l A w.heap.size) (by kernel_rfl) (by kernel_rfl) S.out ?_
  repeat (first
  | go_big_quiet_skip
  | (go_big_quiet_want
     apply wide_op
     · (intro w5 h5; obtain ⟨hj, hrow, hs, hbl⟩ := id h5; have x0 := hj.cell (j := 0) rfl; have x1 := hj.cell (j := 1) rfl; have x2 := hj.cell (j := 2) rfl; have x3 := hj.cell (j := 3) rfl; have x4 := hj.cell (j := 4) rfl; have x5 := hj.cell (j := 5) rfl; have x6 := hj.cell (j := 6) rfl; have x7 := hj.cell (j := 7) rfl; clear hj hrow hs hbl; go_simp; first | done | with_reducible rfl | (refine (HA.out _).mono ?_; rintro e w6 ⟨rfl, hb6⟩; exact ⟨rfl, h5.next hb6⟩) | (refine (HK.out _).mono ?_; rintro e w6 ⟨rfl, hb6⟩; exact ⟨rfl, h5.next hb6⟩) | (refine (HF.out _).mono ?_; rintro e w6 ⟨rfl, hb6⟩; exact ⟨rfl, h5.next hb6⟩) | (refine (HJ.out _ h5.row h5.srs).mono ?_; rintro e w6 ⟨rfl, hb6⟩; exact ⟨rfl, h5.next hb6⟩) | (refine (HR.out _ h5.row h5.srs).mono ?_; rintro e w6 ⟨rfl, hb6⟩; exact ⟨rfl, h5.next hb6⟩))
     (try simp only [Act.put, List.setIfInBounds_toArray, List.set_cons_zero, List.set_cons_succ])
     go_big_quiet_on))
  refine wpQuiet_nil ?_
  intro w6 h6
  have B6 := Lib.hid h6.below
  clear h6
  go_wp2_with fail
  go_ret
  exact ⟨by first | rfl | simp, B6.out⟩
theorem lawJobRights : Lift.Owes 3 [23, 24] := by
  intro H enc W base args ds ps hval hA _ _
  obtain ⟨v0, v1, d0, d1, p0, p1, rfl, rfl, rfl, h0, h1⟩ := trodAll_two hA
  obtain ⟨j, rfl, hl⟩ := openJb (hval 0 _ v0 rfl rfl) h0
  obtain ⟨A, c, l, rfl, hll, hrow, hs⟩ := openIns (hval 1 _ v1 rfl rfl) h1
  exact walkJobRights j l A c W hrow hs hll
end Jo
theorem lawJobRights : Lift.Owes 3 [23, 24] := Jo.lawJobRights
end Go.Proofs.Ytileonenphmkkaa
