/- The walk of the law on what is read: it returns true, whatever the input. -/
import Derived.Test.YthgafhinlchghaaItemGetTot
import Derived.Test.YthgafhinlchghaaLawsItemA
import Derived.Test.YthgafhinlchghaaItemForm
namespace Go.Proofs.Ythgafhinlchghaa
open Go.ChangeShapes Go.WideShapes Go.ChangeAt Go.RowKit
open Itm Vlq
set_option linter.unusedVariables false
theorem walkItemReads (s : ByteArray) (hs : s.size ≤ 140737488355328) (w : World) : Calls Try.prog 5 #[.string s] w (Yes w) := by
  have HA := Lib.hid (fun w => itAlive w)
  have HG := Lib.hid (fun w => itGet s (by omega) w)
  have HH := Lib.hid (fun w => rfGet s hs w)
  obtain ⟨⟨a, c⟩, hF⟩ : ∃ K, getF s = K := ⟨_, rfl⟩
  rw [hF] at HG HH
  have hE : ∀ w, (binOp .eql 29 (.agg #[.int .i64 a.k, .string a.ek, .int .i64 a.ea, .int .i64 a.ev, .int .i64 a.m, .int .i64 a.n, .int .i64 a.lo, .int .i64 a.hi, .string a.rk, .int .i64 a.rn, .int .i64 a.rv]) (.agg #[.int .i64 a.k, .string a.ek, .int .i64 a.ea, .int .i64 a.ev, .int .i64 a.m, .int .i64 a.n, .int .i64 a.lo, .int .i64 a.hi, .string a.rk, .int .i64 a.rn, .int .i64 a.rv])).run Try.prog w = .ok (.bool true) w := fun w => (run_eqIt a a w).trans (by rw [eqI_self])
  clear hF hs
  go_enter Try.func5, Try.ntmps5
  go_wp2_with fail
  refine (HG.out _).mono ?_
  rintro e w2 ⟨rfl, hb2⟩
  have L2 := Lib.hid (Lies.new w2 (itC a) 29)
  have B2 := Lib.hid (below_al (o := .cells (itC a) 29) hb2)
  go_wp2_with fail
  refine (HH.out _).mono ?_
  rintro e w3 ⟨rfl, hb3⟩
  have B3 := Lib.hid (below_al (o := .cells (itC a) 29) (B2.out.trans (hb3.mono B2.out.size)))
  have L3 := Lib.hid (show Lies w2.heap.size (itC a) 29 (w3.alloc (.cells (itC a) 29)) from Lies.al ((hb3.block _ (lt_of_block L2.out)).trans L2.out))
  have J3 := Lib.hid (Lies.new w3 (itC a) 29)
  go_wp2_with fail
  refine (HA.out _).mono ?_
  rintro e w4 ⟨rfl, hb4⟩
  have L4 := Lib.hid (show Lies w2.heap.size (itC a) 29 w4 from (hb4.block _ (lt_of_block L3.out)).trans L3.out)
  have J4 := Lib.hid (show Lies w3.heap.size (itC a) 29 w4 from (hb4.block _ (lt_of_block J3.out)).trans J3.out)
  have c0 := L4.out.cell (j := 0) rfl; have c1 := L4.out.cell (j := 1) rfl; have c2 := L4.out.cell (j := 2) rfl; have c3 := L4.out.cell (j := 3) rfl; have c4 := L4.out.cell (j := 4) rfl; have c5 := L4.out.cell (j := 5) rfl; have c6 := L4.out.cell (j := 6) rfl; have c7 := L4.out.cell (j := 7) rfl; have c8 := L4.out.cell (j := 8) rfl; have c9 := L4.out.cell (j := 9) rfl; have c10 := L4.out.cell (j := 10) rfl
  have d0 := J4.out.cell (j := 0) rfl; have d1 := J4.out.cell (j := 1) rfl; have d2 := J4.out.cell (j := 2) rfl; have d3 := J4.out.cell (j := 3) rfl; have d4 := J4.out.cell (j := 4) rfl; have d5 := J4.out.cell (j := 5) rfl; have d6 := J4.out.cell (j := 6) rfl; have d7 := J4.out.cell (j := 7) rfl; have d8 := J4.out.cell (j := 8) rfl; have d9 := J4.out.cell (j := 9) rfl; have d10 := J4.out.cell (j := 10) rfl
  go_wp2_with fail
  go_ret
  exact ⟨by simp, B3.out.trans (hb4.mono B3.out.size)⟩
theorem str_bound {H : Type} {s : ByteArray} (hw : (DataW.weightsEach (H := H) Try.prog [9] [.lit (.string s.data.toList)]).all (· ≤ reachBytes) = true) : s.size ≤ 140737488355328 := by
  have h := sized_string hw (j := 0) rfl rfl
  rw [Lib.size_eq]
  unfold reachBytes at h
  omega
theorem lawItemReads : Lift.Owes 5 [9] := by
  intro H enc W base args ds ps hval hA _ hw
  obtain ⟨v0, d0, rfl, rfl, h0⟩ := trodAll_one hA
  obtain ⟨s, rfl, rfl, rfl, w0⟩ := ChangeMaps.open_string Try.underlying9 (hval 0 _ v0 rfl rfl) h0
  exact walkItemReads s (str_bound hw) W
end Go.Proofs.Ythgafhinlchghaa
