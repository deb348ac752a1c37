/- The walks of the vlq laws on what is written and read again: each returns true, whatever the input. -/
import Derived.Test.YtopcjkjedlkpcaaLawsVlqC
namespace Go.Proofs.Ytopcjkjedlkpcaa
open Go.ChangeShapes Go.WideShapes Go.ChangeAt Go.RowKit
open Vlq
set_option linter.unusedVariables false
theorem ba_append (A B : ByteArray) : sl (A ++ B) = sl A ++ sl B := by
  show (A ++ B).data.toList = _
  rw [ByteArray.data_append, Array.toList_append]
theorem three (A S B : ByteArray) : sl (A ++ S ++ B) = sl A ++ (sl S ++ sl B) := by rw [ba_append, ba_append, List.append_assoc]
theorem three_size (A S B : ByteArray) : (A ++ S ++ B).size = A.size + S.size + B.size := by rw [ByteArray.size_append, ByteArray.size_append]
theorem back_signed {A B S : ByteArray} {n : Int} (hS : sl S = enc (zz n)) (hn : zz n ≤ M2) (ha : A.size ≤ 6000) (hb : B.size ≤ 6000) (hs : S.size ≤ 10) (w : World) :
    Calls Try.prog 18 #[.string (A ++ S ++ B), .int .i64 A.size] w fun e w' => e = .returned (.tuple #[.int .i64 n, .int .i64 ((A.size : Int) + (S.size : Int)), .int .i64 0]) ∧ w = w' := by
  have h := vlqGetSigned_ok (A ++ S ++ B) A.size w (by rw [three_size]; omega) (by rw [three_size]; omega)
  have e : rd M2 (sl (A ++ S ++ B)) A.size = (zz n, A.size + S.size, 0) := by
    rw [three, hS, ← sl_len A, rd_enc hn, ← hS, sl_len S]
  rw [e] at h
  refine h.mono ?_
  rintro e w' ⟨rfl, rfl⟩
  exact ⟨by show Ending.returned (.tuple #[.int .i64 (un (zz n)), .int .i64 ((A.size + S.size : Nat) : Int), .int .i64 0]) = _; rw [un_zz]; simp, rfl⟩
theorem back_put {A B S : ByteArray} {n : Nat} (hS : sl S = enc n) (hn : n ≤ M1) (ha : A.size ≤ 6000) (hb : B.size ≤ 6000) (hs : S.size ≤ 10) (w : World) :
    Calls Try.prog 16 #[.string (A ++ S ++ B), .int .i64 A.size] w fun e w' => e = .returned (.tuple #[.int .i64 n, .int .i64 ((A.size : Int) + (S.size : Int)), .int .i64 0]) ∧ w = w' := by
  have h := vlqGet_ok (A ++ S ++ B) A.size w (by rw [three_size]; omega) (by rw [three_size]; omega)
  have e : rd M1 (sl (A ++ S ++ B)) A.size = (n, A.size + S.size, 0) := by
    rw [three, hS, ← sl_len A, rd_enc hn, ← hS, sl_len S]
  rw [e] at h
  refine h.mono ?_
  rintro e w' ⟨rfl, rfl⟩
  exact ⟨by show Ending.returned (.tuple #[.int .i64 n, .int .i64 ((A.size + S.size : Nat) : Int), .int .i64 0]) = _; simp, rfl⟩
theorem rt_back (a tx b : List UInt8) (h : tx.length ≤ 4096) : rt (a ++ ((enc tx.length ++ tx) ++ b)) a.length = (tx, a.length + (enc tx.length ++ tx).length, 0) := by
  have hM : tx.length ≤ M1 := by have : M1 = 9223372036854775807 := rfl; omega
  have e : rd M1 (a ++ ((enc tx.length ++ tx) ++ b)) a.length = (tx.length, a.length + (enc tx.length).length, 0) := by
    rw [List.append_assoc, rd_enc hM]
  have hl : (a ++ ((enc tx.length ++ tx) ++ b)).length = a.length + (enc tx.length).length + tx.length + b.length := by simp; omega
  unfold rt
  rw [e]
  simp only [ne_eq, not_true_eq_false, if_false]
  rw [if_neg (by omega), if_neg (by omega)]
  have hd : (a ++ ((enc tx.length ++ tx) ++ b)).drop (a.length + (enc tx.length).length) = tx ++ b := by
    rw [← List.append_assoc, ← List.append_assoc, List.append_assoc (a ++ enc tx.length)]
    exact List.drop_left' (by simp)
  rw [hd, List.take_left]
  simp; omega
theorem text_str (s : ByteArray) (h : s.size ≤ 4096) : ∃ T : ByteArray, sl T = enc s.size ++ sl s ∧ T.size ≤ 4106 ∧
    ∀ w, Calls Try.prog 11 #[.string s] w fun e w' => e = .returned (.tuple #[.string T, .int .i64 0]) ∧ Below w.heap.size w w' := by
  refine ⟨⟨(enc s.size ++ sl s).toArray⟩, rfl, ?_, fun w => vlqText_ok s h w⟩
  have h1 := enc_len s.size (by omega)
  have h2 : (⟨(enc s.size ++ sl s).toArray⟩ : ByteArray).size = (enc s.size ++ sl s).length := by rw [← sl_len]
  rw [h2, List.length_append, sl_len]
  omega
theorem sl_back (s : ByteArray) : (⟨(sl s).toArray⟩ : ByteArray) = s := by
  apply ByteArray.ext
  simp [sl]
theorem back_text {A B T s : ByteArray} (hT : sl T = enc s.size ++ sl s) (h : s.size ≤ 4096) (ha : A.size ≤ 6000) (hb : B.size ≤ 6000) (hs : T.size ≤ 4106) (w : World) :
    Calls Try.prog 20 #[.string (A ++ T ++ B), .int .i64 A.size] w fun e w' => e = .returned (.tuple #[.string s, .int .i64 ((A.size : Int) + (T.size : Int)), .int .i64 0]) ∧ Below w.heap.size w w' := by
  have hh := vlqGetText_ok (A ++ T ++ B) A.size w (by rw [three_size]; omega) (by rw [three_size]; omega)
  have e : rt (sl (A ++ T ++ B)) A.size = (sl s, A.size + T.size, 0) := by
    have hr := rt_back (sl A) (sl s) (sl B) (by rw [sl_len]; exact h)
    rw [sl_len, sl_len, ← hT] at hr
    rw [three, hr, sl_len]
  rw [e] at hh
  refine hh.mono ?_
  rintro e w' ⟨rfl, hb⟩
  refine ⟨?_, hb⟩
  show Ending.returned (.tuple #[.string ⟨(sl s).toArray⟩, .int .i64 ((A.size + T.size : Nat) : Int), .int .i64 0]) = _
  rw [sl_back]; simp
/-- The part of the law behind the number's: the text. -/
theorem walkVlqBack (n : Int) (h1 : -9223372036854775808 ≤ n) (h2 : n ≤ 9223372036854775807) (text a0 b0 : ByteArray) (w : World) :
    Calls Try.prog 5 #[.int .i64 n, .string text, .string a0, .string b0] w (Yes w) := by
  obtain ⟨A, hA, hA'⟩ := lawShort a0 w
  obtain ⟨B, hB, hB'⟩ := lawShort b0 w
  obtain ⟨S, hS, s1, s2, hS'⟩ := signed_str n h1 h2
  have hG := fun w => back_signed (A := A) (B := B) hS (zz_M2 h1 h2) hA hB s2 w
  have hz : ((S.size : Int) == 0) = false := ne_b (by omega)
  have HA := Lib.hid hA'; have HB := Lib.hid hB'; have HS := Lib.hid hS'; have HG := Lib.hid hG
  clear hA' hB' hS' hG hS
  rcases Nat.lt_or_ge 4096 text.size with ht | ht
  · rcases Int.lt_or_le n 0 with hn | hn
    · go_enter Try.func5, Try.ntmps5
      go_wp2_with fail
      refine HA.out.mono ?_
      rintro e w' ⟨rfl, rfl⟩
      go_wp2_with fail
      refine HB.out.mono ?_
      rintro e w' ⟨rfl, rfl⟩
      go_wp2_with fail
      refine (HS.out _).mono ?_
      rintro e w1 ⟨rfl, hb1⟩
      go_wp2_with fail
      refine (HG.out _).mono ?_
      rintro e w' ⟨rfl, rfl⟩
      go_wp2_with fail
      refine (vlqPut_neg n hn _).mono ?_
      rintro e w2 ⟨rfl, hb2⟩
      go_wp2_with fail
      refine (vlqText_long text ht _).mono ?_
      rintro e w3 ⟨rfl, hb3⟩
      go_wp2_with fail
      go_ret
      exact ⟨rfl, below_next (below_next hb1 hb2) hb3⟩
    · obtain ⟨m, rfl⟩ := Int.eq_ofNat_of_zero_le hn
      obtain ⟨P, hP, p1, p2, hP'⟩ := put_str m h2
      have hQ := fun w => back_put (A := A) (B := B) hP (by have e : M1 = 9223372036854775807 := rfl; omega) hA hB p2 w
      have HP := Lib.hid hP'; have HQ := Lib.hid hQ
      clear hP' hQ hP
      go_enter Try.func5, Try.ntmps5
      go_wp2_with fail
      refine HA.out.mono ?_
      rintro e w' ⟨rfl, rfl⟩
      go_wp2_with fail
      refine HB.out.mono ?_
      rintro e w' ⟨rfl, rfl⟩
      go_wp2_with fail
      refine (HS.out _).mono ?_
      rintro e w1 ⟨rfl, hb1⟩
      go_wp2_with fail
      refine (HG.out _).mono ?_
      rintro e w' ⟨rfl, rfl⟩
      go_wp2_with fail
      refine (HP.out _).mono ?_
      rintro e w2 ⟨rfl, hb2⟩
      go_wp2_with fail
      refine (HQ.out _).mono ?_
      rintro e w' ⟨rfl, rfl⟩
      go_wp2_with fail
      refine (vlqText_long text ht _).mono ?_
      rintro e w3 ⟨rfl, hb3⟩
      go_wp2_with fail
      go_ret
      exact ⟨rfl, below_next (below_next hb1 hb2) hb3⟩
  · obtain ⟨T, hT, t2, hT'⟩ := text_str text ht
    have hU := fun w => back_text (A := A) (B := B) hT ht hA hB t2 w
    have HT := Lib.hid hT'; have HU := Lib.hid hU
    clear hT' hU hT
    rcases Int.lt_or_le n 0 with hn | hn
    · go_enter Try.func5, Try.ntmps5
      go_wp2_with fail
      refine HA.out.mono ?_
      rintro e w' ⟨rfl, rfl⟩
      go_wp2_with fail
      refine HB.out.mono ?_
      rintro e w' ⟨rfl, rfl⟩
      go_wp2_with fail
      refine (HS.out _).mono ?_
      rintro e w1 ⟨rfl, hb1⟩
      go_wp2_with fail
      refine (HG.out _).mono ?_
      rintro e w' ⟨rfl, rfl⟩
      go_wp2_with fail
      refine (vlqPut_neg n hn _).mono ?_
      rintro e w2 ⟨rfl, hb2⟩
      go_wp2_with fail
      refine (HT.out _).mono ?_
      rintro e w3 ⟨rfl, hb3⟩
      go_wp2_with fail
      refine (HU.out _).mono ?_
      rintro e w4 ⟨rfl, hb4⟩
      go_wp2_with fail
      go_ret
      exact ⟨rfl, below_next (below_next (below_next hb1 hb2) hb3) hb4⟩
    · obtain ⟨m, rfl⟩ := Int.eq_ofNat_of_zero_le hn
      obtain ⟨P, hP, p1, p2, hP'⟩ := put_str m h2
      have hQ := fun w => back_put (A := A) (B := B) hP (by have e : M1 = 9223372036854775807 := rfl; omega) hA hB p2 w
      have HP := Lib.hid hP'; have HQ := Lib.hid hQ
      clear hP' hQ hP
      go_enter Try.func5, Try.ntmps5
      go_wp2_with fail
      refine HA.out.mono ?_
      rintro e w' ⟨rfl, rfl⟩
      go_wp2_with fail
      refine HB.out.mono ?_
      rintro e w' ⟨rfl, rfl⟩
      go_wp2_with fail
      refine (HS.out _).mono ?_
      rintro e w1 ⟨rfl, hb1⟩
      go_wp2_with fail
      refine (HG.out _).mono ?_
      rintro e w' ⟨rfl, rfl⟩
      go_wp2_with fail
      refine (HP.out _).mono ?_
      rintro e w2 ⟨rfl, hb2⟩
      go_wp2_with fail
      refine (HQ.out _).mono ?_
      rintro e w' ⟨rfl, rfl⟩
      go_wp2_with fail
      refine (HT.out _).mono ?_
      rintro e w3 ⟨rfl, hb3⟩
      go_wp2_with fail
      refine (HU.out _).mono ?_
      rintro e w4 ⟨rfl, hb4⟩
      go_wp2_with fail
      go_ret
      exact ⟨rfl, below_next (below_next (below_next hb1 hb2) hb3) hb4⟩
theorem trodAll_four {H : Type} {enc : TypeId × Value → H} {P : Program} {w : World} {base : Nat} {sp : Nat → Bool} {held : Bool} {t0 t1 t2 t3 : TypeId} {vs : List Value} {ds : List (DataW H)} {ps : List MemPlace}
    (h : DataW.TrodAll enc P w base sp held [t0, t1, t2, t3] vs ds ps) : ∃ v0 v1 v2 v3 d0 d1 d2 d3 p0 p1 p2 p3, vs = [v0, v1, v2, v3] ∧ ds = [d0, d1, d2, d3] ∧ ps = p0 ++ (p1 ++ (p2 ++ p3)) ∧
      DataW.Trod enc P w base sp held t0 v0 d0 p0 ∧ DataW.Trod enc P w base sp held t1 v1 d1 p1 ∧ DataW.Trod enc P w base sp held t2 v2 d2 p2 ∧ DataW.Trod enc P w base sp held t3 v3 d3 p3 := by
  cases vs with
  | nil => cases ds <;> exact h.elim
  | cons v0 vs =>
    cases ds with
    | nil => exact h.elim
    | cons d0 ds =>
      obtain ⟨p0, q, h0, h', rfl⟩ := h
      cases vs with
      | nil => cases ds <;> exact h'.elim
      | cons v1 vs =>
        cases ds with
        | nil => exact h'.elim
        | cons d1 ds =>
          obtain ⟨p1, q1, h1, h'', rfl⟩ := h'
          obtain ⟨v2, v3, d2, d3, p2, p3, hv, rfl, rfl, h2, h3⟩ := trodAll_two h''
          obtain rfl : vs = [v2, v3] := congrArg Array.toList hv
          exact ⟨v0, v1, v2, v3, d0, d1, d2, d3, p0, p1, p2, p3, rfl, rfl, rfl, h0, h1, h2, h3⟩
theorem lawVlqBack : Lift.Owes 5 [2, 9, 9, 9] := by
  intro H enc W base args ds ps hval hA _ _
  obtain ⟨v0, v1, v2, v3, d0, d1, d2, d3, p0, p1, p2, p3, hv, rfl, rfl, h0, h1, h2, h3⟩ := trodAll_four hA
  obtain ⟨l⟩ := args
  obtain rfl : l = [v0, v1, v2, v3] := hv
  obtain ⟨n, rfl, rfl, rfl, w0⟩ := open_int Try.underlying2 (hval 0 _ v0 rfl rfl) h0
  obtain ⟨s, rfl, rfl, rfl, w1⟩ := ChangeMaps.open_string Try.underlying9 (hval 1 _ v1 rfl rfl) h1
  obtain ⟨a, rfl, rfl, rfl, w2⟩ := ChangeMaps.open_string Try.underlying9 (hval 2 _ v2 rfl rfl) h2
  obtain ⟨b, rfl, rfl, rfl, w3⟩ := ChangeMaps.open_string Try.underlying9 (hval 3 _ v3 rfl rfl) h3
  obtain ⟨b1, b2⟩ := wf_i64_bd w0
  exact walkVlqBack n b1 b2 s a b W
end Go.Proofs.Ytopcjkjedlkpcaa
