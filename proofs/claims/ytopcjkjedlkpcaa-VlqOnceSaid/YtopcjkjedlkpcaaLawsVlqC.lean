/- The walks of the vlq laws on cuts and order: each returns true, whatever the input. -/
import Derived.Test.YtopcjkjedlkpcaaLawsVlqB
import Derived.WalkLawsBesides
namespace Go.Proofs.Ytopcjkjedlkpcaa
open Go.ChangeShapes Go.WideShapes Go.ChangeAt Go.RowKit
open Vlq
set_option linter.unusedVariables false
theorem ne_b {a b : Int} (h : a ≠ b) : (a == b) = false := by simpa using h
theorem eq_b {a b : Int} (h : a = b) : (a == b) = true := by simpa using h
/-- Returns the string S; what was stays. -/
def Gives (S : ByteArray) (w : World) (e : Ending) (w' : World) : Prop := e = .returned (.string S) ∧ Below w.heap.size w w'
theorem signed_str (n : Int) (h1 : -9223372036854775808 ≤ n) (h2 : n ≤ 9223372036854775807) :
    ∃ S : ByteArray, sl S = enc (zz n) ∧ 1 ≤ S.size ∧ S.size ≤ 10 ∧ ∀ w, Calls Try.prog 13 #[.int .i64 n] w (Gives S w) := by
  refine ⟨⟨(enc (zz n)).toArray⟩, rfl, ?_, ?_, fun w => vlqSigned n h1 h2 w⟩
  · have := enc_pos (zz n); rw [← sl_len]; exact this
  · have := enc_len (zz n) (zz_lt h1 h2); rw [← sl_len]; exact this
theorem zero_str : ∃ S : ByteArray, S.size = 1 ∧ ∀ w, Calls Try.prog 13 #[.int .i64 0] w (Gives S w) :=
  ⟨⟨#[0]⟩, rfl, fun w => signed_zero w⟩
theorem put_str (n : Nat) (h2 : (n : Int) ≤ 9223372036854775807) :
    ∃ S : ByteArray, sl S = enc n ∧ 1 ≤ S.size ∧ S.size ≤ 10 ∧ ∀ w, Calls Try.prog 9 #[.int .i64 n] w fun e w' => e = .returned (.tuple #[.string S, .int .i64 0]) ∧ Below w.heap.size w w' := by
  refine ⟨⟨(enc n).toArray⟩, rfl, ?_, ?_, fun w => vlqPut_pos n h2 w⟩
  · have := enc_pos n; rw [← sl_len]; exact this
  · have := enc_len n (by omega); rw [← sl_len]; exact this
theorem zz_M2 {n : Int} (h1 : -9223372036854775808 ≤ n) (h2 : n ≤ 9223372036854775807) : zz n ≤ M2 := by
  have h := zz_lt h1 h2
  have e : M2 = 18446744073709551615 := rfl
  omega
/-- What is cut off. -/
theorem cut_short {S : ByteArray} {n k : Nat} (hS : sl S = enc n) (hn : n ≤ M2) (hk : k < S.size) (hs : S.size ≤ 10) (w : World) :
    Calls Try.prog 18 #[.string (S.extract 0 k), .int .i64 0] w fun e w' => e = .returned (.tuple #[.int .i64 0, .int .i64 0, .int .i64 20]) ∧ w = w' := by
  have hsz : (S.extract 0 k).size ≤ 10 := by rw [ByteArray.size_extract]; omega
  have h := vlqGetSigned_ok (S.extract 0 k) 0 w (by omega) (Nat.zero_le _)
  have e : rd M2 (sl (S.extract 0 k)) 0 = (0, 0, 20) := by
    rw [cut_eq]
    show rd M2 (((sl S).drop 0).take (k - 0)) 0 = _
    rw [hS, List.drop_zero, Nat.sub_zero]
    exact rd_cut hn (by rw [← hS, sl_len]; exact hk)
  rw [e] at h
  exact h
theorem turned (x : Int) (L : Nat) (h : 1 ≤ L) : -(L : Int) < x.tmod L ∧ x.tmod L < L ∧ ∃ k : Nat, k < L ∧ (x.tmod L + L) % L = k := by
  have h1 := Int.tmod_lt_of_pos x (b := (L : Int)) (by omega)
  have h2 : -(L : Int) < x.tmod L := by
    exact Int.lt_tmod_of_pos x (b := (L : Int)) (by omega)
  refine ⟨h2, h1, ((x.tmod L + L) % L).toNat, ?_, ?_⟩
  · have a := Int.emod_lt_of_pos (x.tmod L + L) (b := (L : Int)) (by omega)
    have b := Int.emod_nonneg (x.tmod L + L) (b := (L : Int)) (by omega)
    omega
  · have b := Int.emod_nonneg (x.tmod L + L) (b := (L : Int)) (by omega)
    omega
theorem walkVlqCuts (n i : Int) (h1 : -9223372036854775808 ≤ n) (h2 : n ≤ 9223372036854775807) (w : World) :
    Calls Try.prog 8 #[.int .i64 n, .int .i64 i] w (Yes w) := by
  obtain ⟨S, hS, hl1, hl2, hc⟩ := signed_str n h1 h2
  obtain ⟨b1, b2, k, hk, he⟩ := turned i S.size hl1
  have hz : ((S.size : Int) == 0) = false := ne_b (by omega)
  have hcs := fun w => cut_short hS (zz_M2 h1 h2) hk hl2 w
  have hsl : ∀ w, (Instr.slice 9 (.string S) none (some (.int .i64 (k : Int))) none).run Try.prog w = .ok (.string (S.extract 0 k)) w := fun w => by
    rw [run_slice_string_h (P := Try.prog) w 9 S Try.underlying9 .i64 (k : Int) (by omega) (by omega)]; rfl
  have HC := Lib.hid hc
  have HS := Lib.hid hcs
  clear hc hcs hS h1 h2
  go_enter Try.func8, Try.ntmps8
  go_wp2_with fail
  refine (HC.out _).mono ?_
  rintro e w1 ⟨rfl, hb1⟩
  go_wp2_with fail
  refine (HS.out _).mono ?_
  rintro e w' ⟨rfl, rfl⟩
  go_wp2_with fail
  go_ret
  exact ⟨rfl, hb1⟩
theorem lawVlqCuts : Lift.Owes 8 [2, 3] := by
  intro H enc W base args ds ps hval hA _ _
  obtain ⟨v0, v1, d0, d1, p0, p1, rfl, rfl, rfl, h0, h1⟩ := trodAll_two hA
  obtain ⟨n, rfl, rfl, rfl, w0⟩ := open_int Try.underlying2 (hval 0 _ v0 rfl rfl) h0
  obtain ⟨i, rfl, rfl, rfl, w1⟩ := open_int Try.underlying3 (hval 1 _ v1 rfl rfl) h1
  obtain ⟨b1, b2⟩ := wf_i64_bd w0
  exact walkVlqCuts n i b1 b2 W

theorem less_of : ∀ (x y : List UInt8), x < y → Op.bytesLess x y = true := by
  intro x
  induction x with
  | nil => intro y h; cases y with
    | nil => exact absurd h (List.lt_irrefl _)
    | cons _ _ => rfl
  | cons a x ih =>
    intro y h
    cases y with
    | nil => exact absurd h (List.not_lt_nil _)
    | cons b y =>
      rw [List.cons_lt_cons_iff] at h
      rw [Op.bytesLess]
      rcases h with h | ⟨h1, h2⟩
      · simp [h]
      · simp [h1, ih y h2]
theorem str_less {S T : ByteArray} (h : sl S < sl T) : Op.bytesLess S.toList T.toList = true := by
  rw [ByteArray.toList_eq, ByteArray.toList_eq]; exact less_of _ _ h
theorem bool_or {a b : Bool} (h : b = true) : Ending.returned (.bool (a || b)) = .returned (.bool true) := by rw [h, Bool.or_true]
theorem orderOne (a b : Int) (x y : Nat) (hx : min a b = x) (hy : max a b = y) (hxy : x < y) (ha : a ≤ 9223372036854775807) (hb : b ≤ 9223372036854775807) (w : World) :
    Calls Try.prog 7 #[.int .i64 a, .int .i64 b] w (Yes w) := by
  have n1 : ¬ a < 0 := by omega
  have n2 : ¬ b < 0 := by omega
  have n3 : (a == b) = false := by simp; omega
  obtain ⟨S, hS, s1, s2, hcS⟩ := put_str x (by omega)
  obtain ⟨T, hT, t1, t2, hcT⟩ := put_str y (by omega)
  have hlex := enc_lex hxy
  rw [← hS, ← hT, sl_len, sl_len] at hlex
  have HL := Lib.hid hlex
  have HS := Lib.hid hcS
  have HT := Lib.hid hcT
  clear hcS hcT hS hT hlex
  go_enter Try.func7, Try.ntmps7
  go_wp2_with fail
  refine (HS.out _).mono ?_
  rintro e w1 ⟨rfl, hb1⟩
  go_wp2_with fail
  refine (HT.out _).mono ?_
  rintro e w2 ⟨rfl, hb2⟩
  go_wp2_with fail
  all_goals first
    | (exfalso; rcases HL.out with h | ⟨h, _⟩ <;> omega)
    | (go_ret; exact ⟨rfl, below_next hb1 hb2⟩)
    | (have hl : Op.bytesLess S.toList T.toList = true := by
         rcases HL.out with h | ⟨_, h⟩
         · omega
         · exact str_less h
       go_ret
       exact ⟨bool_or hl, below_next hb1 hb2⟩)
theorem walkVlqOrder (a b : Int) (ha : a ≤ 9223372036854775807) (hb : b ≤ 9223372036854775807) (w : World) :
    Calls Try.prog 7 #[.int .i64 a, .int .i64 b] w (Yes w) := by
  by_cases hn : a < 0 ∨ b < 0 ∨ a = b
  · obtain ⟨S, hS, hc⟩ := zero_str
    have hz : ((S.size : Int) == 1) = true := eq_b (by omega)
    have HC := Lib.hid hc
    clear hc hS
    by_cases h1 : a < 0
    · clear hn
      go_enter Try.func7, Try.ntmps7
      go_wp2_with fail
      refine (HC.out _).mono ?_
      rintro e w1 ⟨rfl, hb1⟩
      go_wp2_with fail
      go_ret
      exact ⟨rfl, hb1⟩
    · by_cases h2 : b < 0
      · clear hn
        go_enter Try.func7, Try.ntmps7
        go_wp2_with fail
        refine (HC.out _).mono ?_
        rintro e w1 ⟨rfl, hb1⟩
        go_wp2_with fail
        go_ret
        exact ⟨rfl, hb1⟩
      · obtain rfl : a = b := by omega
        clear hn
        go_enter Try.func7, Try.ntmps7
        go_wp2_with fail
        refine (HC.out _).mono ?_
        rintro e w1 ⟨rfl, hb1⟩
        go_wp2_with fail
        go_ret
        exact ⟨rfl, hb1⟩
  · obtain ⟨x, rfl⟩ := Int.eq_ofNat_of_zero_le (a := a) (by omega)
    obtain ⟨y, rfl⟩ := Int.eq_ofNat_of_zero_le (a := b) (by omega)
    rcases Nat.lt_or_ge x y with h | h
    · exact orderOne x y x y (by omega) (by omega) h ha hb w
    · exact orderOne x y y x (by omega) (by omega) (by omega) ha hb w
theorem lawVlqOrder : Lift.Owes 7 [2, 2] := by
  intro H enc W base args ds ps hval hA _ _
  obtain ⟨v0, v1, d0, d1, p0, p1, rfl, rfl, rfl, h0, h1⟩ := trodAll_two hA
  obtain ⟨n, rfl, rfl, rfl, w0⟩ := open_int Try.underlying2 (hval 0 _ v0 rfl rfl) h0
  obtain ⟨i, rfl, rfl, rfl, w1⟩ := open_int Try.underlying2 (hval 1 _ v1 rfl rfl) h1
  exact walkVlqOrder n i (wf_i64_bd w0).2 (wf_i64_bd w1).2 W
end Go.Proofs.Ytopcjkjedlkpcaa
