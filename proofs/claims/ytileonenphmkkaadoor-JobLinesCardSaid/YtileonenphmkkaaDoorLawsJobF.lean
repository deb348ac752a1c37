/- The walk of the law JobLines, all ways. -/
import Derived.Test.YtileonenphmkkaaDoorLawsJobD
import Derived.Test.YtileonenphmkkaaDoorLawsJobE
namespace Go.Proofs.YtileonenphmkkaaDoor
open Go.ChangeShapes Go.WideShapes Go.ChangeAt Go.RowKit
set_option linter.unusedVariables false
set_option maxRecDepth 8000
namespace Jo
open Gen
theorem text_lenL {j : Jb} (h : right j = true) (hl : j.limit ≤ 9223372036854775807) : (text j).length ≤ 1000 := by
  obtain ⟨g, a, b, k, l, f, d, i, N⟩ := right_nats h
  rw [text_nats N]
  obtain ⟨n1, n2, n3, n4, n5, n6, n7, n8⟩ := N
  have z1 := dec_len (n := g) (by omega)
  have z2 := dec_len (n := a) (by omega)
  have z3 := dec_len (n := b) (by omega)
  have z4 := dec_len (n := l) (by omega)
  have z5 := dec_len (n := f) (by omega)
  have z6 := dec_len (n := d) (by omega)
  have z7 := dec_len (n := i) (by omega)
  have z8 := name_len8 k
  simp only [tx1, tx2, txF, List.length_append, List.length_cons, List.length_nil]
  omega
theorem erase_len : ∀ (l : List (List UInt8)) (k : Nat), (l.eraseIdx k).flatten.length ≤ l.flatten.length
  | [], _ => by simp
  | a :: l, 0 => by simp
  | a :: l, k + 1 => by
    have := erase_len l k
    simp only [List.eraseIdx_cons_succ, List.flatten_cons, List.length_append]
    omega
theorem tmod_loK {x d : Int} (h : 0 < d) : -d < x.tmod d := by
  have h3 : (-x).tmod d < d := Int.tmod_lt_of_pos (-x) h
  rw [Int.neg_tmod] at h3
  omega
theorem walkJobLines (j : Jb) (hl : j.limit ≤ 9223372036854775807) (k0 : Int) (more : List UInt8) (w : World) (hw : Vr w) : Calls Tryd.prog 7 #[jbV j, .int .i64 k0, strv more] w (TellsB true w) := by
  cases hr : right j with
  | false => exact walkLinesA j hl k0 more hr w hw
  | true =>
    by_cases hm : 100 < more.length
    · exact walkLinesB j hl k0 more hr hm w hw
    · have hlen := text_lenL hr hl
      have q1 : -6 < k0.tmod 6 := tmod_loK (by omega)
      have q3 : 0 ≤ (k0.tmod 6 + 6).tmod 6 := Int.tmod_nonneg _ (by omega)
      have q4 : (k0.tmod 6 + 6).tmod 6 < 6 := Int.tmod_lt_of_pos _ (by omega)
      obtain ⟨k, hk⟩ : ∃ k : Nat, (k0.tmod 6 + 6).tmod 6 = (k : Int) := ⟨((k0.tmod 6 + 6).tmod 6).toNat, by omega⟩
      have hk5 : k ≤ 5 := by omega
      have hcl : ((lines j).eraseIdx k).flatten.length ≤ 1000 := by
        have h1 := erase_len (lines j) k
        rw [← text_lines] at h1
        omega
      have HP := Lib.hid (show ∀ w, Tb w → Calls Tryd.prog 8 #[jbV j] w (fun e w' => e = .returned (.tuple #[strv (text j), .int .i64 0]) ∧ Below w.heap.size w w') from fun w ht => by
        have h := jPrint j hl w ht
        unfold PrintR at h
        rw [hr] at h
        exact h)
      have HS := Lib.hid (show ∀ w, Calls Tryd.prog 15 #[strv (text j), strv [10]] w (fun e w' => e = .returned (.slice (some ⟨w.heap.size, 0, none⟩) 7 7) ∧ w' = w.alloc (.cells (ss (lines j ++ [[]])).toArray 9)) from fun w => by
        have h := jSplit (lines j) (lines_are j) (by rw [← text_lines]; exact hlen) w
        rw [← text_lines] at h
        exact h)
      have HC := Lib.hid (show ∀ w, Vr w → Calls Tryd.prog 12 #[strv ((lines j).eraseIdx k).flatten] w (fun e w' => e = .returned (.tuple #[jbV zJ, .int .i64 131, .int .i64 ((k : Int) + 1)]) ∧ Below w.heap.size w w') from fun w hw => by
        have h := jParse ((lines j).eraseIdx k).flatten (by omega) w hw
        rw [parse_less hr hl (by omega)] at h
        exact h)
      have hcut : ((lines j).take k ++ (lines j).drop (k + 1)).flatten = ((lines j).eraseIdx k).flatten := by rw [List.eraseIdx_eq_take_drop_succ]
      have hadd := addS (text j) more (by omega)
      by_cases he : more = []
      · have HM := Lib.hid (show ∀ w, Vr w → Calls Tryd.prog 12 #[strv (text j ++ more)] w (fun e w' => e = .returned (.tuple #[jbV j, .int .i64 0, .int .i64 0]) ∧ Below w.heap.size w w') from fun w hw => by
          have h := jParse (text j) (by omega) w hw
          rw [parse_text hr hl] at h
          rw [he, List.append_nil]
          exact h)
        exact walkLinesC j k0 (text j) more _ _ (lines j) k 0 0 j w hw HP HS HC HM hadd rfl hk5 (by omega) hk hcut hcl (.inl ⟨he, rfl⟩)
      · have HM := Lib.hid (show ∀ w, Vr w → Calls Tryd.prog 12 #[strv (text j ++ more)] w (fun e w' => e = .returned (.tuple #[jbV zJ, .int .i64 131, .int .i64 7]) ∧ Below w.heap.size w w') from fun w hw => by
          have h := jParse (text j ++ more) (by rw [List.length_append]; omega) w hw
          rw [parse_more hr hl he] at h
          exact h)
        exact walkLinesC j k0 (text j) more _ _ (lines j) k 131 7 zJ w hw HP HS HC HM hadd rfl hk5 (by omega) hk hcut hcl (.inr ⟨he, rfl, rfl⟩)
theorem lawJobLines : Lift.OwesX Vr 7 [23, 3, 9] := by
  intro H enc W base args ds ps hval hA _ hwt hY
  obtain ⟨v0, v1, v2, d0, d1, d2, p0, p1, p2, rfl, rfl, rfl, h0, h1, h2⟩ := trodAll_three hA
  obtain ⟨j, rfl, hl⟩ := openJb (hval 0 _ v0 rfl rfl) h0
  obtain ⟨n, rfl, rfl, rfl, _⟩ := open_int Tryd.underlying3 (hval 1 _ v1 rfl rfl) h1
  obtain ⟨s, rfl, rfl, rfl, ws⟩ := ChangeMaps.open_string Tryd.underlying9 (hval 2 _ v2 rfl rfl) h2
  exact walkJobLines j hl.2 n s.data.toList W hY
end Jo
theorem lawJobLines : Lift.OwesX Jo.Vr 7 [23, 3, 9] := Jo.lawJobLines
theorem laidToJobLines (w : World) (h : laidMetH Tryd.prog Rows.jobLinesRow.laid w) : Jo.Vr w := Jo.vr_of_laid h
end Go.Proofs.YtileonenphmkkaaDoor
