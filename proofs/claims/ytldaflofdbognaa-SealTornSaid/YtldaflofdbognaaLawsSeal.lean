/- The walks of the seal laws on sums, reading and rows: each returns true, whatever the input. -/
import Derived.Test.YtldaflofdbognaaSealAll
import Derived.Test.YtldaflofdbognaaLift
namespace Go.Proofs.Ytldaflofdbognaa
open Go.ChangeShapes Go.WideShapes Go.ChangeAt Go.RowKit
open Vlq Seal
set_option linter.unusedVariables false
def SYes (w : World) (e : Ending) (w' : World) : Prop := e = .returned (.bool true) ∧ Below w.heap.size w w'
theorem sealShort (s : ByteArray) (w : World) : ∃ t : ByteArray, t.size ≤ 10000 ∧ Calls Try.prog 9 #[.string s] w fun e w' => e = .returned (.string t) ∧ w = w' := by
  by_cases h : 10000 < s.size
  · refine ⟨s.extract 0 10000, by rw [ByteArray.size_extract]; omega, ?_⟩
    have hsl : ∀ w, (Instr.slice 9 (.string s) none (some (.int .i64 10000)) none).run Try.prog w = .ok (.string (s.extract 0 10000)) w := fun w => by
      rw [run_slice_string_h (P := Try.prog) w 9 s Try.underlying9 .i64 10000 (by omega) (by omega)]; rfl
    go_enter Try.func9, Try.ntmps9
    go_wp2_with fail
    go_ret
    exact ⟨rfl, rfl⟩
  · refine ⟨s, by omega, ?_⟩
    go_enter Try.func9, Try.ntmps9
    go_wp2_with fail
    go_ret
    exact ⟨rfl, rfl⟩
/-- The sum of nothing is the full register. -/
theorem sum_none (w : World) : Calls Try.prog 11 #[.string ⟨#[]⟩] w fun e w' => e = .returned (.int .u32 4294967295) ∧ w = w' := sealSum ⟨#[]⟩ (by decide) w
set_option maxRecDepth 100000 in
theorem walkSealSums (s0 : ByteArray) (w : World) : Calls Try.prog 3 #[.string s0] w (SYes w) := by
  obtain ⟨s, hs, hsh⟩ := sealShort s0 w
  have H0 := Lib.hid hsh
  have H1 := Lib.hid (fun w => sealSum s (by omega) w)
  have H2 := Lib.hid (fun w => refSum s (by omega) w)
  clear hsh
  by_cases h : 8192 < s.size
  · have H3 := Lib.hid (fun w => sealPut_long s h (by omega) w)
    go_enter Try.func3, Try.ntmps3
    go_wp2_with fail
    refine H0.out.mono ?_
    rintro e w' ⟨rfl, rfl⟩
    go_wp2_with fail
    refine (H3.out _).mono ?_
    rintro e w1 ⟨rfl, hb1⟩
    go_wp2_with fail
    refine (H1.out _).mono ?_
    rintro e w' ⟨rfl, rfl⟩
    go_wp2_with fail
    refine (H2.out _).mono ?_
    rintro e w' ⟨rfl, rfl⟩
    go_wp2_with fail
    go_ret
    exact ⟨rfl, hb1⟩
  · have H3 := Lib.hid (fun w => sealPut_ok s (by omega) w)
    have H4 := Lib.hid (fun w => refFrame s (by omega) w)
    go_enter Try.func3, Try.ntmps3
    go_wp2_with fail
    refine H0.out.mono ?_
    rintro e w' ⟨rfl, rfl⟩
    go_wp2_with fail
    refine (H3.out _).mono ?_
    rintro e w1 ⟨rfl, hb1⟩
    go_wp2_with fail
    refine (H1.out _).mono ?_
    rintro e w' ⟨rfl, rfl⟩
    go_wp2_with fail
    refine (H2.out _).mono ?_
    rintro e w' ⟨rfl, rfl⟩
    go_wp2_with fail
    refine (H4.out _).mono ?_
    rintro e w2 ⟨rfl, hb2⟩
    go_wp2_with fail
    go_ret
    exact ⟨rfl, below_next hb1 hb2⟩
theorem seal_any (s : ByteArray) (i : Int) (hs : s.size ≤ 10000) : ∃ R : List UInt8 × Nat × Nat,
    (∀ w, Calls Try.prog 14 #[.string s, .int .i64 i] w (GotT R w)) ∧ (∀ w, Calls Try.prog 15 #[.string s, .int .i64 i] w (GotT R w)) := by
  by_cases h : i < 0 ∨ (s.size : Int) < i
  · exact ⟨([], 0, 1), fun w => sealGet_bad s i w (by omega) h, fun w => refSeal_bad s i w (by omega) h⟩
  · obtain ⟨k, rfl⟩ := Int.eq_ofNat_of_zero_le (a := i) (by omega)
    exact ⟨_, fun w => sealGet s k (by omega) (by omega) w, fun w => refSeal s k (by omega) (by omega) w⟩
theorem walkSealReads (s0 : ByteArray) (i : Int) (w : World) : Calls Try.prog 4 #[.string s0, .int .i64 i] w (SYes w) := by
  obtain ⟨s, hs, hsh⟩ := sealShort s0 w
  obtain ⟨R, h1, h2⟩ := seal_any s i hs
  have H0 := Lib.hid hsh; have H1 := Lib.hid h1; have H2 := Lib.hid h2
  clear hsh h1 h2
  go_enter Try.func4, Try.ntmps4
  go_wp2_with fail
  refine H0.out.mono ?_
  rintro e w' ⟨rfl, rfl⟩
  go_wp2_with fail
  refine (H1.out _).mono ?_
  rintro e w1 ⟨rfl, hb1⟩
  go_wp2_with fail
  refine (H2.out _).mono ?_
  rintro e w2 ⟨rfl, hb2⟩
  go_wp2_with fail
  refine (sum_none _).mono ?_
  rintro e w' ⟨rfl, rfl⟩
  go_wp2_with fail
  go_ret
  exact ⟨rfl, below_next hb1 hb2⟩
theorem allF_bound (l : List UInt8) : (allF l [] 0).1.length ≤ l.length := by
  obtain ⟨h1, h2, h3, h4⟩ := allF_once l (l.length - 0) [] 0 rfl (Nat.zero_le _) rfl (by simp)
  have h5 : (frames (allF l [] 0).1).length ≤ l.length := by rw [← h2, List.length_take]; omega
  have h6 : ∀ (bs : List (List UInt8)), bs.length ≤ (frames bs).length := by
    intro bs
    induction bs with
    | nil => simp
    | cons b bs ih =>
      have := head_len b
      rw [frames_cons, List.length_append, List.length_cons, frame_len]
      omega
  exact Nat.le_trans (h6 _) h5
theorem walkSealRows (s0 : ByteArray) (w : World) : Calls Try.prog 5 #[.string s0] w (SYes w) := by
  obtain ⟨s, hs, hsh⟩ := sealShort s0 w
  have hbd := allF_bound (sl s)
  rw [sl_len] at hbd
  have h1 := fun w => sealAll s (by omega) w
  have h2 := fun w => refAll s (by omega) w
  obtain ⟨⟨bs, to, c0⟩, hR⟩ : ∃ R, R = allF (sl s) [] 0 := ⟨_, rfl⟩
  rw [← hR] at h1 h2 hbd
  have H0 := Lib.hid hsh; have H1 := Lib.hid h1; have H2 := Lib.hid h2
  clear hsh h1 h2 hR
  go_enter Try.func5, Try.ntmps5
  go_wp2_with fail
  refine H0.out.mono ?_
  rintro e w' ⟨rfl, rfl⟩
  go_wp2_with fail
  refine (H1.out _).mono ?_
  rintro e w1 ⟨A, c, rfl, hA, hb1⟩
  go_wp2_with fail
  refine (H2.out _).mono ?_
  rintro e w2 ⟨D, d, rfl, hD, hb2⟩
  go_wp2_with fail
  refine (refLike bs A D c d _ (by omega) (hA.below hb2) hD).mono ?_
  rintro e w3 ⟨rfl, hb3⟩
  go_wp2_with fail
  refine (sum_none _).mono ?_
  rintro e w' ⟨rfl, rfl⟩
  go_wp2_with fail
  go_ret
  exact ⟨rfl, below_next (below_next hb1 hb2) hb3⟩
theorem lawSealSums : Lift.Owes 3 [9] := by
  intro H enc W base args ds ps hval hA _ _
  obtain ⟨v0, d0, rfl, rfl, h0⟩ := trodAll_one hA
  obtain ⟨s, rfl, rfl, rfl, w0⟩ := ChangeMaps.open_string Try.underlying9 (hval 0 _ v0 rfl rfl) h0
  exact walkSealSums s W
theorem lawSealReads : Lift.Owes 4 [9, 3] := by
  intro H enc W base args ds ps hval hA _ _
  obtain ⟨v0, v1, d0, d1, p0, p1, rfl, rfl, rfl, h0, h1⟩ := trodAll_two hA
  obtain ⟨s, rfl, rfl, rfl, w0⟩ := ChangeMaps.open_string Try.underlying9 (hval 0 _ v0 rfl rfl) h0
  obtain ⟨n, rfl, rfl, rfl, w1⟩ := open_int Try.underlying3 (hval 1 _ v1 rfl rfl) h1
  exact walkSealReads s n W
theorem lawSealRows : Lift.Owes 5 [9] := by
  intro H enc W base args ds ps hval hA _ _
  obtain ⟨v0, d0, rfl, rfl, h0⟩ := trodAll_one hA
  obtain ⟨s, rfl, rfl, rfl, w0⟩ := ChangeMaps.open_string Try.underlying9 (hval 0 _ v0 rfl rfl) h0
  exact walkSealRows s W
end Go.Proofs.Ytldaflofdbognaa
