/- The walks of the laws JobBack, JobOnce. -/
import Derived.Test.YtileonenphmkkaaDoorJobLaw
import Derived.Test.YtileonenphmkkaaDoorJobParse
import Derived.Test.YtileonenphmkkaaDoorJobPrint
import Derived.Test.YtileonenphmkkaaDoorJobRef
namespace Go.Proofs.YtileonenphmkkaaDoor
open Go.ChangeShapes Go.WideShapes Go.ChangeAt Go.RowKit
set_option linter.unusedVariables false
set_option maxRecDepth 8000
namespace Jo
open Gen
open Go.Lib (decDigits)
theorem text_len {j : Jb} (h : right j = true) (hl : j.limit ≤ 9223372036854775807) : (text j).length ≤ 1000 := by
  obtain ⟨g, a, b, k, l, f, d, i, N⟩ := right_nats h
  rw [text_nats N]
  obtain ⟨n1, n2, n3, n4, n5, n6, n7, n8⟩ := N
  have z1 := dec_len (n := g) (by omega)
  have z2 := dec_len (n := a) (by omega)
  have z3 := dec_len (n := b) (by omega)
  have z4 := dec_len (n := l) (by omega)
  have z5 := dec_len (n := f) (by omega)
  have z6 := dec_len (n := d) (by omega)
  have z7 := dec_len (n := i) (by omega)
  have z8 := name_len8 k
  simp only [tx1, tx2, txF, List.length_append, List.length_cons, List.length_nil]
  omega
set_option maxHeartbeats 600000 in
theorem walkJobBack (j : Jb) (hl : j.limit ≤ 9223372036854775807) (w : World) (hw : Vr w) : Calls Tryd.prog 5 #[jbV j] w (TellsB true w) := by
  have HP := Lib.hid (fun w ht => jPrint j hl w ht)
  have HA := Lib.hid (fun w => lAlive w)
  have HR := Lib.hid (fun w => jRight j w)
  have HW := Lib.hid hw
  have J0 := Lib.hid (Lies.new w (jbC j) 23)
  have B0 := Lib.hid (below_al (o := .cells (jbC j) 23) (Below.refl w.heap.size w))
  unfold PrintR at HP
  cases hr : right j with
  | false =>
    rw [hr] at HP HR
    have HP := Lib.hid (fun w ht => show Calls Tryd.prog 8 #[jbV j] w (fun e w' => e = .returned (.tuple #[strv [], .int .i64 130]) ∧ Below w.heap.size w w') from HP.out w ht)
    clear hr hl hw
    go_enter Tryd.func5, Tryd.ntmps5
    go_wp2_with fail
    refine (HP.out _ (HW.out.next B0.out).tab).mono ?_
    rintro e w1 ⟨rfl, hb1⟩
    have J1 := Lib.hid (show Lies w.heap.size (jbC j) 23 w1 from (hb1.block _ (lt_of_block J0.out)).trans J0.out)
    have B1 := Lib.hid (below_next B0.out hb1)
    clear hb1
    go_wp2_with fail
    refine (HA.out _).mono ?_
    rintro e w2 ⟨rfl, hb2⟩
    have J2 := Lib.hid (show Lies w.heap.size (jbC j) 23 w2 from (hb2.block _ (lt_of_block J1.out)).trans J1.out)
    have B2 := Lib.hid (below_next B1.out hb2)
    have x0 := J2.out.cell (j := 0) rfl
    have x1 := J2.out.cell (j := 1) rfl
    have x2 := J2.out.cell (j := 2) rfl
    have x3 := J2.out.cell (j := 3) rfl
    have x4 := J2.out.cell (j := 4) rfl
    have x5 := J2.out.cell (j := 5) rfl
    have x6 := J2.out.cell (j := 6) rfl
    have x7 := J2.out.cell (j := 7) rfl
    clear hb2
    go_wp2_with fail
    refine (HR.out _).mono ?_
    rintro e w3 ⟨rfl, hb3⟩
    have B3 := Lib.hid (below_next B2.out hb3)
    clear hb3
    go_wp2_with fail
    go_ret
    exact ⟨rfl, B3.out⟩
  | true =>
    rw [hr] at HP
    have HP := Lib.hid (fun w ht => show Calls Tryd.prog 8 #[jbV j] w (fun e w' => e = .returned (.tuple #[strv (text j), .int .i64 0]) ∧ Below w.heap.size w w') from HP.out w ht)
    have hlen := text_len hr hl
    have HQ := Lib.hid (fun w hw => show Calls Tryd.prog 12 #[strv (text j)] w (fun e w' => e = .returned (.tuple #[jbV j, .int .i64 0, .int .i64 0]) ∧ Below w.heap.size w w') from by
      have h := jParse (text j) (by omega) w hw
      rw [parse_text hr hl] at h
      exact h)
    have hsame := fun w => run_sameJb j w
    clear hr hl hw hlen
    go_enter Tryd.func5, Tryd.ntmps5
    go_wp2_with fail
    refine (HP.out _ (HW.out.next B0.out).tab).mono ?_
    rintro e w1 ⟨rfl, hb1⟩
    have J1 := Lib.hid (show Lies w.heap.size (jbC j) 23 w1 from (hb1.block _ (lt_of_block J0.out)).trans J0.out)
    have B1 := Lib.hid (below_next B0.out hb1)
    clear hb1
    go_wp2_with fail
    refine (HQ.out _ (HW.out.next B1.out)).mono ?_
    rintro e w2 ⟨rfl, hb2⟩
    have J2 := Lib.hid (show Lies w.heap.size (jbC j) 23 w2 from (hb2.block _ (lt_of_block J1.out)).trans J1.out)
    have B2 := Lib.hid (below_next B1.out hb2)
    have hlt : w.heap.size < w2.heap.size := lt_of_block J2.out
    have x0 := J2.out.cell (j := 0) rfl
    have x1 := J2.out.cell (j := 1) rfl
    have x2 := J2.out.cell (j := 2) rfl
    have x3 := J2.out.cell (j := 3) rfl
    have x4 := J2.out.cell (j := 4) rfl
    have x5 := J2.out.cell (j := 5) rfl
    have x6 := J2.out.cell (j := 6) rfl
    have x7 := J2.out.cell (j := 7) rfl
    clear hb2
    go_wp2_with fail
    go_ret
    exact ⟨rfl, below_al B2.out⟩
theorem run_sameZ (w : World) : (binOp .eql 23 (jbV zJ) (jbV zJ)).run Tryd.prog w = .ok (.bool true) w := run_sameJb zJ w
theorem parse_line {s : List UInt8} {k : Nat} (h : parse s = .line k) : k ≤ 7 := by
  unfold parse at h
  split at h
  · cases h; omega
  · split at h
    · cases h; omega
    · split at h
      · cases h; omega
      · split at h
        · cases h; omega
        · split at h
          · cases h; omega
          · split at h
            · cases h; omega
            · split at h
              · split at h <;> cases h
              · cases h; omega
set_option maxHeartbeats 600000 in
theorem walkJobOnce (s : List UInt8) (hs : s.length ≤ 140737488355328) (w : World) (hw : Vr w) : Calls Tryd.prog 6 #[strv s] w (TellsB true w) := by
  have HA := Lib.hid (fun w => lAlive w)
  have HW := Lib.hid hw
  have HP := Lib.hid (jParse s hs w hw)
  cases hp : parse s with
  | ok j =>
    obtain ⟨hr, ht, hl⟩ := parse_once hp
    rw [hp] at HP
    have HP := Lib.hid (show Calls Tryd.prog 12 #[strv s] w (fun e w' => e = .returned (.tuple #[jbV j, .int .i64 0, .int .i64 0]) ∧ Below w.heap.size w w') from HP.out)
    have HQ := Lib.hid (fun w hw => show Calls Tryd.prog 8 #[jbV j] w (fun e w' => e = .returned (.tuple #[strv s, .int .i64 0]) ∧ Below w.heap.size w w') from by
      have h := jPrint j hl w hw
      unfold PrintR at h
      rw [hr, ht] at h
      exact h)
    have hss : (s == s) = true := by simp
    clear hp hr ht hl hw hs
    go_enter Tryd.func6, Tryd.ntmps6
    go_wp2_with fail
    refine HP.out.mono ?_
    rintro e w1 ⟨rfl, hb1⟩
    have B1 := Lib.hid (below_al (o := .cells (jbC j) 23) hb1)
    clear hb1
    go_wp2_with fail
    refine (HQ.out _ (HW.out.next B1.out).tab).mono ?_
    rintro e w2 ⟨rfl, hb2⟩
    have B2 := Lib.hid (below_next B1.out hb2)
    clear hb2
    go_wp2_with fail
    refine (HA.out _).mono ?_
    rintro e w3 ⟨rfl, hb3⟩
    have B3 := Lib.hid (below_next B2.out hb3)
    clear hb3
    go_wp2_with fail
    go_ret
    exact ⟨rfl, B3.out⟩
  | job =>
    rw [hp] at HP
    have HP := Lib.hid (show Calls Tryd.prog 12 #[strv s] w (fun e w' => e = .returned (.tuple #[jbV zJ, .int .i64 130, .int .i64 0]) ∧ Below w.heap.size w w') from HP.out)
    have hsame := fun w => run_sameZ w
    clear hp hw hs
    go_enter Tryd.func6, Tryd.ntmps6
    go_wp2_with fail
    refine HP.out.mono ?_
    rintro e w1 ⟨rfl, hb1⟩
    have J1 := Lib.hid (Lies.new w1 (jbC zJ) 23)
    have B1 := Lib.hid (below_al (o := .cells (jbC zJ) 23) hb1)
    clear hb1
    go_wp2_with fail
    refine (HA.out _).mono ?_
    rintro e w2 ⟨rfl, hb2⟩
    have J2 := Lib.hid (show Lies w1.heap.size (jbC zJ) 23 w2 from (hb2.block _ (lt_of_block J1.out)).trans J1.out)
    have B2 := Lib.hid (below_next B1.out hb2)
    have x0 := J2.out.cell (j := 0) rfl
    have x1 := J2.out.cell (j := 1) rfl
    have x2 := J2.out.cell (j := 2) rfl
    have x3 := J2.out.cell (j := 3) rfl
    have x4 := J2.out.cell (j := 4) rfl
    have x5 := J2.out.cell (j := 5) rfl
    have x6 := J2.out.cell (j := 6) rfl
    have x7 := J2.out.cell (j := 7) rfl
    clear hb2
    go_wp2_with fail
    go_ret
    exact ⟨rfl, B2.out⟩
  | line k =>
    have hk := parse_line hp
    rw [hp] at HP
    have HP := Lib.hid (show Calls Tryd.prog 12 #[strv s] w (fun e w' => e = .returned (.tuple #[jbV zJ, .int .i64 131, .int .i64 (k : Int)]) ∧ Below w.heap.size w w') from HP.out)
    have hsame := fun w => run_sameZ w
    have k0 : (0 : Int) ≤ k := by omega
    have k7 : (k : Int) ≤ 7 := by omega
    clear hp hw hs hk
    go_enter Tryd.func6, Tryd.ntmps6
    go_wp2_with fail
    refine HP.out.mono ?_
    rintro e w1 ⟨rfl, hb1⟩
    have J1 := Lib.hid (Lies.new w1 (jbC zJ) 23)
    have B1 := Lib.hid (below_al (o := .cells (jbC zJ) 23) hb1)
    clear hb1
    go_wp2_with fail
    refine (HA.out _).mono ?_
    rintro e w2 ⟨rfl, hb2⟩
    have J2 := Lib.hid (show Lies w1.heap.size (jbC zJ) 23 w2 from (hb2.block _ (lt_of_block J1.out)).trans J1.out)
    have B2 := Lib.hid (below_next B1.out hb2)
    have x0 := J2.out.cell (j := 0) rfl
    have x1 := J2.out.cell (j := 1) rfl
    have x2 := J2.out.cell (j := 2) rfl
    have x3 := J2.out.cell (j := 3) rfl
    have x4 := J2.out.cell (j := 4) rfl
    have x5 := J2.out.cell (j := 5) rfl
    have x6 := J2.out.cell (j := 6) rfl
    have x7 := J2.out.cell (j := 7) rfl
    clear hb2
    go_wp2_with fail
    go_ret
    exact ⟨by first | rfl | (simp; omega) | simp, B2.out⟩
theorem lawJobBack : Lift.OwesX Vr 5 [23] := by
  intro H enc W base args ds ps hval hA _ hwt hY
  obtain ⟨v0, d0, rfl, rfl, h0⟩ := trodAll_one hA
  obtain ⟨j, rfl, hl⟩ := openJb (hval 0 _ v0 rfl rfl) h0
  exact walkJobBack j hl.2 W hY
theorem lawJobOnce : Lift.OwesX Vr 6 [9] := by
  intro H enc W base args ds ps hval hA _ hwt hY
  obtain ⟨v0, d0, rfl, rfl, h0⟩ := trodAll_one hA
  obtain ⟨s, rfl, rfl, rfl, ws⟩ := ChangeMaps.open_string Tryd.underlying9 (hval 0 _ v0 rfl rfl) h0
  exact walkJobOnce s.data.toList (sized_str hwt (j := 0) rfl rfl) W hY
end Jo
theorem lawJobBack : Lift.OwesX Jo.Vr 5 [23] := Jo.lawJobBack
theorem laidToJobBack (w : World) (h : laidMetH Tryd.prog Rows.jobBackRow.laid w) : Jo.Vr w := Jo.vr_of_laid h
theorem lawJobOnce : Lift.OwesX Jo.Vr 6 [9] := Jo.lawJobOnce
theorem laidToJobOnce (w : World) (h : laidMetH Tryd.prog Rows.jobOnceRow.laid w) : Jo.Vr w := Jo.vr_of_laid h
end Go.Proofs.YtileonenphmkkaaDoor
