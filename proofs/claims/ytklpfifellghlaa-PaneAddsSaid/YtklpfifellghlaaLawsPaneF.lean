/- The walk of the law PaneAdds. -/
import Derived.Test.YtklpfifellghlaaLawsPaneE
import Derived.Test.YtklpfifellghlaaPaneAddR
namespace Go.Proofs.Ytklpfifellghlaa
open Go.ChangeShapes Go.WideShapes Go.ChangeAt Go.RowKit
open Pan
set_option linter.unusedVariables false
set_option maxRecDepth 100000 in
set_option maxHeartbeats 1000000 in
theorem walkPaneAdds (xs : List Pn) (A : Option Addr) (c : Nat) (k lo hi v : Int) (key : List UInt8) (w : World) (hA : Row w A (pc xs)) (hl : xs.length ≤ c) (hc : c ≤ 9223372036854775807) (hv : -9223372036854775808 ≤ v ∧ v ≤ 9223372036854775807) :
    Calls Try.prog 3 #[.slice A xs.length c, .int .i64 k, .string (kS key), .agg #[.int .i64 lo, .int .i64 hi], .int .i64 v] w (TellsB true w) := by
  have HF := Lib.hid (fun w' => lwFewP xs A c w' hl hc)
  have hfl := few_len xs
  have hrow := few_row hA
  obtain ⟨ys, hy⟩ : ∃ ys, ys = few xs := ⟨_, rfl⟩
  rw [← hy] at HF hfl hrow
  have HD := Lib.hid (fun w' (hb : Below w.heap.size w w') => paAdd k ys A c lo hi v key w' (hrow.below hb) (by omega) hc)
  have HE := Lib.hid (fun w' (hb : Below w.heap.size w w') => rfAdd k ys A c lo hi v key w' (hrow.below hb) (by omega) hv)
  have HR := Lib.hid (fun w' (hb : Below w.heap.size w w') => paRight ys A c w' (hrow.below hb) (by omega))
  have HS := Lib.hid (fun w' (hb : Below w.heap.size w w') => rfRightL ys A c w' (hrow.below hb) (by omega))
  have hml : (aOut k ys ⟨lo, hi, key⟩ v).1.length ≤ 2000 := mOut_len _ _ _
  obtain ⟨⟨rl, re⟩, hr⟩ : ∃ r, r = aOut k ys ⟨lo, hi, key⟩ v := ⟨_, rfl⟩
  rw [← hr] at HD HE hml
  obtain ⟨rb, hrb⟩ : ∃ b, b = right ys := ⟨_, rfl⟩
  rw [← hrb] at HR HS
  have HL := Lib.hid (paLike rl (by simp only at hml; omega))
  have hee : (re == re) = true := eq_b rfl
  have hbb : (rb == rb) = true := by cases rb <;> rfl
  have HB0 := Lib.hid (show Below w.heap.size w (w.alloc (.cells #[.int .i64 lo, .int .i64 hi] 24)) from below_al (Below.refl _ _))
  have HW0 := Lib.hid (Lies.new w #[.int .i64 lo, .int .i64 hi] 24)
  clear hr hrb hy hA hrow hml hv
  go_enter Try.func3, Try.ntmps3
  go_wp2_with fail
  refine (HF.out _).mono ?_
  rintro e w9 ⟨rfl, rfl⟩
  go_wp2_with fail
  refine (HD.out _ HB0.out).mono ?_
  rintro e w1 ⟨A1, c1, rfl, _, _, s1, hb1⟩
  have HB1 := Lib.hid (below_next HB0.out hb1)
  have S1 := Lib.hid s1
  have HW1 := Lib.hid (HW0.out.below hb1)
  clear hb1 s1
  have z0 := HW1.out.cell (j := 0) rfl
  have z1 := HW1.out.cell (j := 1) rfl
  go_wp2_with fail
  refine (HE.out _ HB1.out).mono ?_
  rintro e w2 ⟨A3, c3, rfl, _, _, s2, hb2⟩
  have HB2 := Lib.hid (below_next HB1.out hb2)
  have S1 := Lib.hid (S1.out.below hb2)
  have S2 := Lib.hid s2
  clear hb2 s2 z0 z1
  go_wp2_with fail
  refine (lawAlive _).mono ?_
  rintro e w3 ⟨rfl, hb3⟩
  have HB3 := Lib.hid (below_next HB2.out hb3)
  have S1 := Lib.hid (S1.out.below hb3)
  have S2 := Lib.hid (S2.out.below hb3)
  clear hb3
  go_wp2_with fail
  refine (HR.out _ HB3.out).mono ?_
  rintro e w4 ⟨rfl, hb4⟩
  have HB4 := Lib.hid (below_next HB3.out hb4)
  have S1 := Lib.hid (S1.out.below hb4)
  have S2 := Lib.hid (S2.out.below hb4)
  clear hb4
  go_wp2_with fail
  refine (HS.out _ HB4.out).mono ?_
  rintro e w5 ⟨rfl, hb5⟩
  have HB5 := Lib.hid (below_next HB4.out hb5)
  have S1 := Lib.hid (S1.out.below hb5)
  have S2 := Lib.hid (S2.out.below hb5)
  clear hb5
  go_wp2_with fail
  refine (HL.out _ _ _ _ _ S1.out S2.out).mono ?_
  rintro e w6 ⟨rfl, hb6⟩
  have HB6 := Lib.hid (below_next HB5.out hb6)
  clear hb6
  go_wp2_with fail
  go_ret
  exact ⟨rfl, HB6.out⟩
theorem trodAll_five {H : Type} {enc : TypeId × Value → H} {P : Program} {w : World} {base : Nat} {spare : Nat → Bool} {held : Bool} {t0 t1 t2 t3 t4 : TypeId} {args : Array Value} {ds : List (DataW H)} {ps : List MemPlace} (h : DataW.TrodAll enc P w base spare held [t0, t1, t2, t3, t4] args.toList ds ps) :
    ∃ v0 v1 v2 v3 v4 d0 d1 d2 d3 d4 p0 p1 p2 p3 p4, args = #[v0, v1, v2, v3, v4] ∧ ds = [d0, d1, d2, d3, d4] ∧ ps = p0 ++ (p1 ++ p2 ++ p3 ++ p4) ∧ DataW.Trod enc P w base spare held t0 v0 d0 p0 ∧ DataW.Trod enc P w base spare held t1 v1 d1 p1 ∧
      DataW.Trod enc P w base spare held t2 v2 d2 p2 ∧ DataW.Trod enc P w base spare held t3 v3 d3 p3 ∧ DataW.Trod enc P w base spare held t4 v4 d4 p4 := by
  obtain ⟨v, vs, d, ds', p, q, hargs, rfl, rfl, hd, hrest⟩ := trodAll_cons h
  obtain ⟨v1, v2, v3, v4, d1, d2, d3, d4, p1, p2, p3, p4, e, rfl, rfl, h1, h2, h3, h4⟩ := trodAll_four (args := vs.toArray) (by simpa using hrest)
  have e' : vs = [v1, v2, v3, v4] := by simpa using congrArg Array.toList e
  subst e'
  refine ⟨v, v1, v2, v3, v4, d, d1, d2, d3, d4, p, p1, p2, p3, p4, by rw [← Array.toList_inj]; exact hargs, rfl, rfl, hd, h1, h2, h3, h4⟩
theorem lawPaneAdds : Lift.Owes 3 [22, 3, 9, 24, 2] := by
  intro H enc W base args ds ps hval hA _ _
  obtain ⟨v0, v1, v2, v3, v4, d0, d1, d2, d3, d4, p0, p1, p2, p3, p4, rfl, rfl, rfl, h0, h1, h2, h3, h4⟩ := trodAll_five hA
  obtain ⟨A, c, xs, rfl, hl, hc, hrow⟩ := openPanes (hval 0 _ v0 rfl rfl) h0
  obtain ⟨k, rfl, rfl, rfl, _⟩ := open_int Try.underlying3 (hval 1 _ v1 rfl rfl) h1
  obtain ⟨s, rfl, rfl, rfl, _⟩ := ChangeMaps.open_string Try.underlying9 (hval 2 _ v2 rfl rfl) h2
  obtain ⟨lo, hi, rfl⟩ := openWinP (hval 3 _ v3 rfl rfl) h3
  obtain ⟨v, rfl, rfl, rfl, wv⟩ := open_int Try.underlying2 (hval 4 _ v4 rfl rfl) h4
  have hv : -9223372036854775808 ≤ v ∧ v ≤ 9223372036854775807 := by
    simp [Lit.wf, IntKind.min, IntKind.max, IntKind.bits, IntKind.signed] at wv
    omega
  have h := walkPaneAdds xs A c k lo hi v s.toList W hrow hl hc hv
  rw [kS_of] at h
  exact h
end Go.Proofs.Ytklpfifellghlaa
