/- The walks of the vlq laws: each returns true, whatever the input. -/
import Derived.Test.YtopcjkjedlkpcaaVlqGetText
import Derived.Test.YtopcjkjedlkpcaaLift
namespace Go.Proofs.Ytopcjkjedlkpcaa
open Go.ChangeShapes Go.WideShapes Go.ChangeAt Go.RowKit
open Vlq
set_option linter.unusedVariables false
def Yes (w : World) (e : Ending) (w' : World) : Prop := e = .returned (.bool true) ∧ Below w.heap.size w w'
theorem below_next {a b c : World} (h : Below a.heap.size a b) (h2 : Below b.heap.size b c) : Below a.heap.size a c := h.trans (h2.mono h.size)
theorem lawShort (s : ByteArray) (w : World) : ∃ t : ByteArray, t.size ≤ 6000 ∧ Calls Try.prog 15 #[.string s] w fun e w' => e = .returned (.string t) ∧ w = w' := by
  by_cases h : 6000 < s.size
  · refine ⟨s.extract 0 6000, by rw [ByteArray.size_extract]; omega, ?_⟩
    have hsl : ∀ w, (Instr.slice 9 (.string s) none (some (.int .i64 6000)) none).run Try.prog w = .ok (.string (s.extract 0 6000)) w := fun w => by
      rw [run_slice_string_h (P := Try.prog) w 9 s Try.underlying9 .i64 6000 (by omega) (by omega)]; rfl
    go_enter Try.func15, Try.ntmps15
    go_wp2_with fail
    go_ret
    exact ⟨rfl, rfl⟩
  · refine ⟨s, by omega, ?_⟩
    go_enter Try.func15, Try.ntmps15
    go_wp2_with fail
    go_ret
    exact ⟨rfl, rfl⟩

theorem text_any (s : ByteArray) : ∃ (l : List UInt8) (r : Int), (∀ w, Calls Try.prog 11 #[.string s] w (IsStrErr l r w)) ∧ (∀ w, Calls Try.prog 12 #[.string s] w (IsStrErr l r w)) := by
  by_cases h : 4096 < s.size
  · exact ⟨_, _, fun w => vlqText_long s h w, fun w => refText_long s h w⟩
  · exact ⟨_, _, fun w => vlqText_ok s (by omega) w, fun w => refText_ok s (by omega) w⟩
theorem walkVlqWrites (n : Int) (h1 : -9223372036854775808 ≤ n) (h2 : n ≤ 9223372036854775807) (s : ByteArray) (w : World) :
    Calls Try.prog 3 #[.int .i64 n, .string s] w (Yes w) := by
  obtain ⟨l, r, hT, hU⟩ := text_any s
  have HT := Lib.hid hT
  have HU := Lib.hid hU
  clear hT hU
  rcases Int.lt_or_le n 0 with hn | hn
  · go_enter Try.func3, Try.ntmps3
    go_wp2_with fail
    refine (vlqPut_neg n hn _).mono ?_
    rintro e w1 ⟨rfl, hb1⟩
    go_wp2_with fail
    refine (HT.out _).mono ?_
    rintro e w2 ⟨rfl, hb2⟩
    go_wp2_with fail
    refine (HU.out _).mono ?_
    rintro e w3 ⟨rfl, hb3⟩
    go_wp2_with fail
    refine (vlqSigned n h1 h2 _).mono ?_
    rintro e w4 ⟨rfl, hb4⟩
    go_wp2_with fail
    refine (refFolded n h1 h2 _).mono ?_
    rintro e w5 ⟨rfl, rfl⟩
    go_wp2_with fail
    refine (refDigits _ (zz_lt h1 h2) _).mono ?_
    rintro e w5 ⟨rfl, hb5⟩
    go_wp2_with fail
    go_ret
    exact ⟨rfl, below_next (below_next (below_next (below_next hb1 hb2) hb3) hb4) hb5⟩
  · obtain ⟨m, rfl⟩ := Int.eq_ofNat_of_zero_le hn
    go_enter Try.func3, Try.ntmps3
    go_wp2_with fail
    refine (vlqPut_pos m h2 _).mono ?_
    rintro e w1 ⟨rfl, hb1⟩
    go_wp2_with fail
    refine (refDigits m (by omega) _).mono ?_
    rintro e w1' ⟨rfl, hb1'⟩
    go_wp2_with fail
    refine (HT.out _).mono ?_
    rintro e w2 ⟨rfl, hb2⟩
    go_wp2_with fail
    refine (HU.out _).mono ?_
    rintro e w3 ⟨rfl, hb3⟩
    go_wp2_with fail
    refine (vlqSigned m h1 h2 _).mono ?_
    rintro e w4 ⟨rfl, hb4⟩
    go_wp2_with fail
    refine (refFolded m h1 h2 _).mono ?_
    rintro e w5 ⟨rfl, rfl⟩
    go_wp2_with fail
    refine (refDigits _ (zz_lt h1 h2) _).mono ?_
    rintro e w5 ⟨rfl, hb5⟩
    go_wp2_with fail
    go_ret
    exact ⟨rfl, below_next (below_next (below_next (below_next (below_next hb1 hb1') hb2) hb3) hb4) hb5⟩
theorem wf_i64_bd {n : Int} (h : (Lit.int .i64 n).wf = true) : -9223372036854775808 ≤ n ∧ n ≤ 9223372036854775807 := by
  simp [Lit.wf, IntKind.min, IntKind.max, IntKind.bits, IntKind.signed] at h
  omega
theorem lawVlqWrites : Lift.Owes 3 [2, 9] := by
  intro H enc W base args ds ps hval hA _ _
  obtain ⟨v0, v1, d0, d1, p0, p1, rfl, rfl, rfl, h0, h1⟩ := trodAll_two hA
  obtain ⟨n, rfl, rfl, rfl, w0⟩ := open_int Try.underlying2 (hval 0 _ v0 rfl rfl) h0
  obtain ⟨s, rfl, rfl, rfl, w1⟩ := ChangeMaps.open_string Try.underlying9 (hval 1 _ v1 rfl rfl) h1
  obtain ⟨b1, b2⟩ := wf_i64_bd w0
  exact walkVlqWrites n b1 b2 s W
end Go.Proofs.Ytopcjkjedlkpcaa
