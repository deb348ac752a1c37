/- The walk of the vlq law that nothing is written in two ways: it returns true, whatever the input. -/
import Derived.Test.YtopcjkjedlkpcaaLawsVlqD
import Derived.Deep.QuietTactic
import Derived.BigQuiet
import Derived.Deep.RegionHeld3
namespace Go.Proofs.Ytopcjkjedlkpcaa
open Go.ChangeShapes Go.WideShapes Go.ChangeAt Go.RowKit
open Vlq
set_option linter.unusedVariables false
theorem below_draw {a b c : World} {n : Nat} (h : Below a.heap.size a b) (h2 : Below (b.drewN n).heap.size (b.drewN n) c) : Below a.heap.size a c :=
  below_next (b := b.drewN n) ⟨h.os, h.tape, h.output, h.size, h.block⟩ h2
theorem below_drewOf {a b : World} {B : Nat} (h : Below B a b) : Below B a b.drew := ⟨h.os, h.tape, h.output, h.size, h.block⟩
theorem below_drew1 {a b c : World} (h : Below a.heap.size a b) (h2 : Below b.drew.heap.size b.drew c) : Below a.heap.size a c :=
  below_next (b := b.drew) ⟨h.os, h.tape, h.output, h.size, h.block⟩ h2
theorem un_nil : un 0 = 0 := by decide
theorem nb {a b : Int} (h : a ≠ b) : (a != b) = true := by simpa using h
theorem nb0 {a b : Int} (h : a = b) : (a != b) = false := by simpa using h
/-- An error, nothing read. -/
def Err3 (x : Value) (c : Int) (w : World) (e : Ending) (w' : World) : Prop := e = .returned (.tuple #[x, .int .i64 0, .int .i64 c]) ∧ Below w.heap.size w w'
def Ok3 (x : Value) (n : Int) (w : World) (e : Ending) (w' : World) : Prop := e = .returned (.tuple #[x, .int .i64 n, .int .i64 0]) ∧ Below w.heap.size w w'
def Str0 (S : ByteArray) (w : World) (e : Ending) (w' : World) : Prop := e = .returned (.tuple #[.string S, .int .i64 0]) ∧ Below w.heap.size w w'
theorem piece_eq {s : ByteArray} {k to : Nat} {l : List UInt8} (h : (List.drop k (sl s)).take (to - k) = l) : (⟨l.toArray⟩ : ByteArray) = s.extract k to := by rw [cut_eq, h]
theorem once_get (s : ByteArray) (k : Nat) (hs : s.size ≤ 6000) (hk : k ≤ s.size) :
    (∃ c : Int, c ≠ 0 ∧ ∀ w, Calls Try.prog 16 #[.string s, .int .i64 k] w (Err3 (.int .i64 0) c w)) ∨
    (∃ n to : Nat, k < to ∧ to ≤ s.size ∧ (∀ w, Calls Try.prog 16 #[.string s, .int .i64 k] w (Ok3 (.int .i64 n) to w)) ∧ (∀ w, Calls Try.prog 9 #[.int .i64 n] w (Str0 (s.extract k to) w))) := by
  have h := fun w => vlqGet_ok s k w (by omega) hk
  obtain ⟨⟨a, b, c⟩, hR⟩ : ∃ R, R = rd M1 (sl s) k := ⟨_, rfl⟩
  rw [← hR] at h
  by_cases hc : c = 0
  · right
    subst hc
    obtain ⟨h1, h2, h3, h4⟩ := rd_once (most := M1) (by decide) hR.symm
    rw [sl_len] at h2
    have hM : M1 = 9223372036854775807 := rfl
    refine ⟨a, b, h1, h2, fun w => (h w).mono ?_, fun w => ?_⟩
    · rintro e w' ⟨rfl, rfl⟩; exact ⟨rfl, Below.refl _ _⟩
    · have hp := vlqPut_pos a (by omega) w
      refine hp.mono ?_
      rintro e w' ⟨rfl, hb⟩
      exact ⟨by rw [piece_eq h4], hb⟩
  · left
    obtain ⟨h1, h2⟩ := rd_bad (most := M1) (l := sl s) (i := k) (by rw [← hR]; exact hc)
    rw [← hR] at h1 h2
    dsimp only at h1 h2
    subst h1 h2
    refine ⟨c, by omega, fun w => (h w).mono ?_⟩
    rintro e w' ⟨rfl, rfl⟩; exact ⟨rfl, Below.refl _ _⟩
theorem once_signed (s : ByteArray) (k : Nat) (hs : s.size ≤ 6000) (hk : k ≤ s.size) :
    (∃ c : Int, c ≠ 0 ∧ ∀ w, Calls Try.prog 18 #[.string s, .int .i64 k] w (Err3 (.int .i64 0) c w)) ∨
    (∃ (n : Int) (to : Nat), k < to ∧ to ≤ s.size ∧ (∀ w, Calls Try.prog 18 #[.string s, .int .i64 k] w (Ok3 (.int .i64 n) to w)) ∧ (∀ w, Calls Try.prog 13 #[.int .i64 n] w (Gives (s.extract k to) w))) := by
  have h := fun w => vlqGetSigned_ok s k w (by omega) hk
  obtain ⟨⟨a, b, c⟩, hR⟩ : ∃ R, R = rd M2 (sl s) k := ⟨_, rfl⟩
  rw [← hR] at h
  by_cases hc : c = 0
  · right
    subst hc
    obtain ⟨h1, h2, h3, h4⟩ := rd_once (most := M2) (by decide) hR.symm
    rw [sl_len] at h2
    have hM : M2 = 18446744073709551615 := rfl
    refine ⟨un a, b, h1, h2, fun w => (h w).mono ?_, fun w => ?_⟩
    · rintro e w' ⟨rfl, rfl⟩; exact ⟨rfl, Below.refl _ _⟩
    · have hp := vlqSigned (un a) (by unfold un; split <;> omega) (by unfold un; split <;> omega) w
      refine hp.mono ?_
      rintro e w' ⟨rfl, hb⟩
      exact ⟨by rw [zz_un, piece_eq h4], hb⟩
  · left
    obtain ⟨h1, h2⟩ := rd_bad (most := M2) (l := sl s) (i := k) (by rw [← hR]; exact hc)
    rw [← hR] at h1 h2
    dsimp only at h1 h2
    subst h1 h2
    refine ⟨c, by omega, fun w => (h w).mono ?_⟩
    rintro e w' ⟨rfl, rfl⟩; exact ⟨by rw [show un (0, 0, c).fst = 0 from un_nil]; rfl, Below.refl _ _⟩
theorem take_piece {l : List UInt8} {k b n : Nat} (hkb : k ≤ b) (hl : b + n ≤ l.length) : (l.drop k).take (b + n - k) = (l.drop k).take (b - k) ++ (l.drop b).take n := by
  rw [show b + n - k = (b - k) + n by omega, List.take_add, List.drop_drop, show k + (b - k) = b by omega]
theorem once_text (s : ByteArray) (k : Nat) (hs : s.size ≤ 6000) (hk : k ≤ s.size) :
    (∃ c : Int, c ≠ 0 ∧ ∀ w, Calls Try.prog 20 #[.string s, .int .i64 k] w (Err3 (.string ⟨#[]⟩) c w)) ∨
    (∃ (x : ByteArray) (to : Nat), k < to ∧ to ≤ s.size ∧ (∀ w, Calls Try.prog 20 #[.string s, .int .i64 k] w (Ok3 (.string x) to w)) ∧ (∀ w, Calls Try.prog 11 #[.string x] w (Str0 (s.extract k to) w))) := by
  have h := fun w => vlqGetText_ok s k w (by omega) hk
  obtain ⟨⟨a, b, c⟩, hR⟩ : ∃ R, R = rd M1 (sl s) k := ⟨_, rfl⟩
  rcases rt_ways s k _ hR with ⟨hc, he⟩ | ⟨hc, ht, ⟨ha, he⟩ | ⟨ha, ⟨hb, he⟩ | ⟨hb, he, he2⟩⟩⟩
  · left
    rw [he] at h
    dsimp only at hc
    refine ⟨c, by omega, fun w => (h w).mono ?_⟩
    rintro e w' ⟨rfl, hb⟩; exact ⟨rfl, hb⟩
  · left
    rw [he] at h
    refine ⟨2, by omega, fun w => (h w).mono ?_⟩
    rintro e w' ⟨rfl, hb⟩; exact ⟨rfl, hb⟩
  · left
    rw [he] at h
    refine ⟨20, by omega, fun w => (h w).mono ?_⟩
    rintro e w' ⟨rfl, hb⟩; exact ⟨rfl, hb⟩
  · right
    dsimp only at hc ht ha hb he he2
    subst hc
    obtain ⟨h1, h2, h3, h4⟩ := rd_once (most := M1) (by decide) hR.symm
    have hx : (s.extract b (b + a)).size = a := by rw [ByteArray.size_extract]; omega
    refine ⟨s.extract b (b + a), b + a, by omega, hb, fun w => (h w).mono ?_, fun w => ?_⟩
    · rintro e w' ⟨rfl, hb⟩
      exact ⟨by rw [he, he2]; rfl, hb⟩
    · have hp := vlqText_ok (s.extract b (b + a)) (by omega) w
      refine hp.mono ?_
      rintro e w' ⟨rfl, hb'⟩
      refine ⟨?_, hb'⟩
      have e1 : sl (s.extract b (b + a)) = ((sl s).drop b).take a := by
        rw [cut_eq, Nat.add_sub_cancel_left]
      have e2 : (⟨(enc (s.extract b (b + a)).size ++ sl (s.extract b (b + a))).toArray⟩ : ByteArray) = s.extract k (b + a) := by
        refine piece_eq ?_
        rw [take_piece (by omega) (by rw [sl_len]; exact hb), h4, hx, e1]
      rw [e2]
/-- Slices of s from k on. -/
def Cuts (s : ByteArray) (k : Nat) : Prop := ∀ (to : Nat) (h1 : k < to) (h2 : to ≤ s.size) (w : World), (Instr.slice 9 (.string s) (some (.int .i64 (k : Int))) (some (.int .i64 (to : Int))) none).run Try.prog w = .ok (.string (s.extract k to)) w
set_option maxHeartbeats 1000000 in
theorem once000 (s0 s Z : ByteArray) (k : Nat) (w : World) (hs : s.size ≤ 6000) (hk : k ≤ s.size) (HL : Cuts s k) (hz : ((Z.size : Int) != 1) = false)
    (hsh : Calls Try.prog 15 #[.string s0] w fun e w' => e = .returned (.string s) ∧ w = w') (hZ : ∀ w, Calls Try.prog 13 #[.int .i64 0] w (Gives Z w))
    (c1 : Int) (hc1 : c1 ≠ 0) (hG : ∀ w, Calls Try.prog 16 #[.string s, .int .i64 k] w (Err3 (.int .i64 0) c1 w))
    (c2 : Int) (hc2 : c2 ≠ 0) (hS : ∀ w, Calls Try.prog 18 #[.string s, .int .i64 k] w (Err3 (.int .i64 0) c2 w))
    (c3 : Int) (hc3 : c3 ≠ 0) (hT : ∀ w, Calls Try.prog 20 #[.string s, .int .i64 k] w (Err3 (.string ⟨#[]⟩) c3 w)) :
    Calls Try.prog 6 #[.string s0, .int .i64 k] w (Yes w) := by
  have H0 := Lib.hid hsh; have HZ := Lib.hid hZ
  clear hsh hZ
  have d1 : (c1 == 0) = false := ne_b hc1
  have d1' : (c1 != 0) = true := nb hc1
  have HG := Lib.hid hG
  clear hG hc1
  have d2 : (c2 == 0) = false := ne_b hc2
  have d2' : (c2 != 0) = true := nb hc2
  have HS := Lib.hid hS
  clear hS hc2
  have d3 : (c3 == 0) = false := ne_b hc3
  have d3' : (c3 != 0) = true := nb hc3
  have HT := Lib.hid hT
  clear hT hc3
  clear HL
  go_enter Try.func6, Try.ntmps6
  go_wp2_with fail
  refine H0.out.mono ?_
  rintro e w' ⟨rfl, rfl⟩
  go_wp2_with fail
  refine (HZ.out _).mono ?_
  rintro e w1 ⟨rfl, hb1⟩
  go_wp2_with fail
  refine (HG.out _).mono ?_
  rintro e w2 ⟨rfl, hb2⟩
  have hb2' := below_next hb1 hb2
  clear hb1 hb2
  go_wp2_with fail
  refine (HS.out _).mono ?_
  rintro e w4 ⟨rfl, hb4⟩
  have hb4' := below_next hb2' hb4
  clear hb2' hb4
  go_wp2_with fail
  go_quiet (fail)
  go_wp2_with fail
  refine (HT.out _).mono ?_
  rintro e w6 ⟨rfl, hb6⟩
  go_wp2_with fail
  go_ret
  exact ⟨rfl, below_draw hb4' hb6⟩
set_option maxHeartbeats 1000000 in
theorem once001 (s0 s Z : ByteArray) (k : Nat) (w : World) (hs : s.size ≤ 6000) (hk : k ≤ s.size) (HL : Cuts s k) (hz : ((Z.size : Int) != 1) = false)
    (hsh : Calls Try.prog 15 #[.string s0] w fun e w' => e = .returned (.string s) ∧ w = w') (hZ : ∀ w, Calls Try.prog 13 #[.int .i64 0] w (Gives Z w))
    (c1 : Int) (hc1 : c1 ≠ 0) (hG : ∀ w, Calls Try.prog 16 #[.string s, .int .i64 k] w (Err3 (.int .i64 0) c1 w))
    (c2 : Int) (hc2 : c2 ≠ 0) (hS : ∀ w, Calls Try.prog 18 #[.string s, .int .i64 k] w (Err3 (.int .i64 0) c2 w))
    (x3 : ByteArray) (t3 : Nat) (a3 : k < t3) (b3 : t3 ≤ s.size) (hT : ∀ w, Calls Try.prog 20 #[.string s, .int .i64 k] w (Ok3 (.string x3) t3 w)) (hU : ∀ w, Calls Try.prog 11 #[.string x3] w (Str0 (s.extract k t3) w)) :
    Calls Try.prog 6 #[.string s0, .int .i64 k] w (Yes w) := by
  have H0 := Lib.hid hsh; have HZ := Lib.hid hZ
  clear hsh hZ
  have d1 : (c1 == 0) = false := ne_b hc1
  have d1' : (c1 != 0) = true := nb hc1
  have HG := Lib.hid hG
  clear hG hc1
  have d2 : (c2 == 0) = false := ne_b hc2
  have d2' : (c2 != 0) = true := nb hc2
  have HS := Lib.hid hS
  clear hS hc2
  have l3 := HL t3 a3 b3
  have e3a : decide (t3 ≤ k) = false := decide_eq_false (by omega)
  have e3b : decide (s.size < t3) = false := decide_eq_false (by omega)
  have e3c : decide ((t3 : Int) ≤ (k : Int)) = false := decide_eq_false (by omega)
  have e3d : decide ((s.size : Int) < (t3 : Int)) = false := decide_eq_false (by omega)
  have HT := Lib.hid hT; have HU := Lib.hid hU
  clear hT hU
  clear HL
  go_enter Try.func6, Try.ntmps6
  go_wp2_with fail
  refine H0.out.mono ?_
  rintro e w' ⟨rfl, rfl⟩
  go_wp2_with fail
  refine (HZ.out _).mono ?_
  rintro e w1 ⟨rfl, hb1⟩
  go_wp2_with fail
  refine (HG.out _).mono ?_
  rintro e w2 ⟨rfl, hb2⟩
  have hb2' := below_next hb1 hb2
  clear hb1 hb2
  go_wp2_with fail
  refine (HS.out _).mono ?_
  rintro e w4 ⟨rfl, hb4⟩
  have hb4' := below_next hb2' hb4
  clear hb2' hb4
  go_wp2_with fail
  go_quiet (fail)
  go_wp2_with fail
  refine (HT.out _).mono ?_
  rintro e w6 ⟨rfl, hb6⟩
  go_wp2_with fail
  refine (HU.out _).mono ?_
  rintro e w7 ⟨rfl, hb7⟩
  go_wp2_with fail
  go_ret
  exact ⟨rfl, below_next (below_draw hb4' hb6) hb7⟩
set_option maxHeartbeats 1000000 in
theorem once010 (s0 s Z : ByteArray) (k : Nat) (w : World) (hs : s.size ≤ 6000) (hk : k ≤ s.size) (HL : Cuts s k) (hz : ((Z.size : Int) != 1) = false)
    (hsh : Calls Try.prog 15 #[.string s0] w fun e w' => e = .returned (.string s) ∧ w = w') (hZ : ∀ w, Calls Try.prog 13 #[.int .i64 0] w (Gives Z w))
    (c1 : Int) (hc1 : c1 ≠ 0) (hG : ∀ w, Calls Try.prog 16 #[.string s, .int .i64 k] w (Err3 (.int .i64 0) c1 w))
    (n2 : Int) (t2 : Nat) (a2 : k < t2) (b2 : t2 ≤ s.size) (hS : ∀ w, Calls Try.prog 18 #[.string s, .int .i64 k] w (Ok3 (.int .i64 n2) t2 w)) (hQ : ∀ w, Calls Try.prog 13 #[.int .i64 n2] w (Gives (s.extract k t2) w))
    (c3 : Int) (hc3 : c3 ≠ 0) (hT : ∀ w, Calls Try.prog 20 #[.string s, .int .i64 k] w (Err3 (.string ⟨#[]⟩) c3 w)) :
    Calls Try.prog 6 #[.string s0, .int .i64 k] w (Yes w) := by
  have H0 := Lib.hid hsh; have HZ := Lib.hid hZ
  clear hsh hZ
  have d1 : (c1 == 0) = false := ne_b hc1
  have d1' : (c1 != 0) = true := nb hc1
  have HG := Lib.hid hG
  clear hG hc1
  have l2 := HL t2 a2 b2
  have e2a : decide (t2 ≤ k) = false := decide_eq_false (by omega)
  have e2b : decide (s.size < t2) = false := decide_eq_false (by omega)
  have e2c : decide ((t2 : Int) ≤ (k : Int)) = false := decide_eq_false (by omega)
  have e2d : decide ((s.size : Int) < (t2 : Int)) = false := decide_eq_false (by omega)
  have HS := Lib.hid hS; have HQ := Lib.hid hQ
  clear hS hQ
  have d3 : (c3 == 0) = false := ne_b hc3
  have d3' : (c3 != 0) = true := nb hc3
  have HT := Lib.hid hT
  clear hT hc3
  clear HL
  go_enter Try.func6, Try.ntmps6
  go_wp2_with fail
  refine H0.out.mono ?_
  rintro e w' ⟨rfl, rfl⟩
  go_wp2_with fail
  refine (HZ.out _).mono ?_
  rintro e w1 ⟨rfl, hb1⟩
  go_wp2_with fail
  refine (HG.out _).mono ?_
  rintro e w2 ⟨rfl, hb2⟩
  have hb2' := below_next hb1 hb2
  clear hb1 hb2
  go_wp2_with fail
  refine (HS.out _).mono ?_
  rintro e w4 ⟨rfl, hb4⟩
  have hb4' := below_next hb2' hb4
  clear hb2' hb4
  go_wp2_with fail
  go_region_held3 (fun w' => Below w.heap.size w w') (first | exact below_drewOf hb4' | exact below_next (by assumption) hb5)
    ((go_at_call 13; refine (HQ.out _).mono ?_; rintro e w5 ⟨rfl, hb5⟩))
  have hb5' : Below w.heap.size w w5 := by assumption
  go_wp2_with fail
  refine (HT.out _).mono ?_
  rintro e w6 ⟨rfl, hb6⟩
  go_wp2_with fail
  go_ret
  exact ⟨rfl, below_next hb5' hb6⟩
set_option maxHeartbeats 1000000 in
theorem once011 (s0 s Z : ByteArray) (k : Nat) (w : World) (hs : s.size ≤ 6000) (hk : k ≤ s.size) (HL : Cuts s k) (hz : ((Z.size : Int) != 1) = false)
    (hsh : Calls Try.prog 15 #[.string s0] w fun e w' => e = .returned (.string s) ∧ w = w') (hZ : ∀ w, Calls Try.prog 13 #[.int .i64 0] w (Gives Z w))
    (c1 : Int) (hc1 : c1 ≠ 0) (hG : ∀ w, Calls Try.prog 16 #[.string s, .int .i64 k] w (Err3 (.int .i64 0) c1 w))
    (n2 : Int) (t2 : Nat) (a2 : k < t2) (b2 : t2 ≤ s.size) (hS : ∀ w, Calls Try.prog 18 #[.string s, .int .i64 k] w (Ok3 (.int .i64 n2) t2 w)) (hQ : ∀ w, Calls Try.prog 13 #[.int .i64 n2] w (Gives (s.extract k t2) w))
    (x3 : ByteArray) (t3 : Nat) (a3 : k < t3) (b3 : t3 ≤ s.size) (hT : ∀ w, Calls Try.prog 20 #[.string s, .int .i64 k] w (Ok3 (.string x3) t3 w)) (hU : ∀ w, Calls Try.prog 11 #[.string x3] w (Str0 (s.extract k t3) w)) :
    Calls Try.prog 6 #[.string s0, .int .i64 k] w (Yes w) := by
  have H0 := Lib.hid hsh; have HZ := Lib.hid hZ
  clear hsh hZ
  have d1 : (c1 == 0) = false := ne_b hc1
  have d1' : (c1 != 0) = true := nb hc1
  have HG := Lib.hid hG
  clear hG hc1
  have l2 := HL t2 a2 b2
  have e2a : decide (t2 ≤ k) = false := decide_eq_false (by omega)
  have e2b : decide (s.size < t2) = false := decide_eq_false (by omega)
  have e2c : decide ((t2 : Int) ≤ (k : Int)) = false := decide_eq_false (by omega)
  have e2d : decide ((s.size : Int) < (t2 : Int)) = false := decide_eq_false (by omega)
  have HS := Lib.hid hS; have HQ := Lib.hid hQ
  clear hS hQ
  have l3 := HL t3 a3 b3
  have e3a : decide (t3 ≤ k) = false := decide_eq_false (by omega)
  have e3b : decide (s.size < t3) = false := decide_eq_false (by omega)
  have e3c : decide ((t3 : Int) ≤ (k : Int)) = false := decide_eq_false (by omega)
  have e3d : decide ((s.size : Int) < (t3 : Int)) = false := decide_eq_false (by omega)
  have HT := Lib.hid hT; have HU := Lib.hid hU
  clear hT hU
  clear HL
  go_enter Try.func6, Try.ntmps6
  go_wp2_with fail
  refine H0.out.mono ?_
  rintro e w' ⟨rfl, rfl⟩
  go_wp2_with fail
  refine (HZ.out _).mono ?_
  rintro e w1 ⟨rfl, hb1⟩
  go_wp2_with fail
  refine (HG.out _).mono ?_
  rintro e w2 ⟨rfl, hb2⟩
  have hb2' := below_next hb1 hb2
  clear hb1 hb2
  go_wp2_with fail
  refine (HS.out _).mono ?_
  rintro e w4 ⟨rfl, hb4⟩
  have hb4' := below_next hb2' hb4
  clear hb2' hb4
  go_wp2_with fail
  go_region_held3 (fun w' => Below w.heap.size w w') (first | exact below_drewOf hb4' | exact below_next (by assumption) hb5)
    ((go_at_call 13; refine (HQ.out _).mono ?_; rintro e w5 ⟨rfl, hb5⟩))
  have hb5' : Below w.heap.size w w5 := by assumption
  go_wp2_with fail
  refine (HT.out _).mono ?_
  rintro e w6 ⟨rfl, hb6⟩
  go_wp2_with fail
  refine (HU.out _).mono ?_
  rintro e w7 ⟨rfl, hb7⟩
  go_wp2_with fail
  go_ret
  exact ⟨rfl, below_next (below_next hb5' hb6) hb7⟩
set_option maxHeartbeats 1000000 in
theorem once100 (s0 s Z : ByteArray) (k : Nat) (w : World) (hs : s.size ≤ 6000) (hk : k ≤ s.size) (HL : Cuts s k) (hz : ((Z.size : Int) != 1) = false)
    (hsh : Calls Try.prog 15 #[.string s0] w fun e w' => e = .returned (.string s) ∧ w = w') (hZ : ∀ w, Calls Try.prog 13 #[.int .i64 0] w (Gives Z w))
    (n1 t1 : Nat) (a1 : k < t1) (b1 : t1 ≤ s.size) (hG : ∀ w, Calls Try.prog 16 #[.string s, .int .i64 k] w (Ok3 (.int .i64 n1) t1 w)) (hP : ∀ w, Calls Try.prog 9 #[.int .i64 n1] w (Str0 (s.extract k t1) w))
    (c2 : Int) (hc2 : c2 ≠ 0) (hS : ∀ w, Calls Try.prog 18 #[.string s, .int .i64 k] w (Err3 (.int .i64 0) c2 w))
    (c3 : Int) (hc3 : c3 ≠ 0) (hT : ∀ w, Calls Try.prog 20 #[.string s, .int .i64 k] w (Err3 (.string ⟨#[]⟩) c3 w)) :
    Calls Try.prog 6 #[.string s0, .int .i64 k] w (Yes w) := by
  have H0 := Lib.hid hsh; have HZ := Lib.hid hZ
  clear hsh hZ
  have l1 := HL t1 a1 b1
  have e1a : decide (t1 ≤ k) = false := decide_eq_false (by omega)
  have e1b : decide (s.size < t1) = false := decide_eq_false (by omega)
  have e1c : decide ((t1 : Int) ≤ (k : Int)) = false := decide_eq_false (by omega)
  have e1d : decide ((s.size : Int) < (t1 : Int)) = false := decide_eq_false (by omega)
  have HG := Lib.hid hG; have HP := Lib.hid hP
  clear hG hP
  have d2 : (c2 == 0) = false := ne_b hc2
  have d2' : (c2 != 0) = true := nb hc2
  have HS := Lib.hid hS
  clear hS hc2
  have d3 : (c3 == 0) = false := ne_b hc3
  have d3' : (c3 != 0) = true := nb hc3
  have HT := Lib.hid hT
  clear hT hc3
  clear HL
  go_enter Try.func6, Try.ntmps6
  go_wp2_with fail
  refine H0.out.mono ?_
  rintro e w' ⟨rfl, rfl⟩
  go_wp2_with fail
  refine (HZ.out _).mono ?_
  rintro e w1 ⟨rfl, hb1⟩
  go_wp2_with fail
  refine (HG.out _).mono ?_
  rintro e w2 ⟨rfl, hb2⟩
  have hb2' := below_next hb1 hb2
  clear hb1 hb2
  go_wp2_with fail
  refine (HP.out _).mono ?_
  rintro e w3 ⟨rfl, hb3⟩
  have hb3' := below_next hb2' hb3
  clear hb2' hb3
  go_wp2_with fail
  refine (HS.out _).mono ?_
  rintro e w4 ⟨rfl, hb4⟩
  have hb4' := below_next hb3' hb4
  clear hb3' hb4
  go_wp2_with fail
  go_quiet (fail)
  go_wp2_with fail
  refine (HT.out _).mono ?_
  rintro e w6 ⟨rfl, hb6⟩
  go_wp2_with fail
  go_ret
  exact ⟨rfl, below_draw hb4' hb6⟩
set_option maxHeartbeats 1000000 in
theorem once101 (s0 s Z : ByteArray) (k : Nat) (w : World) (hs : s.size ≤ 6000) (hk : k ≤ s.size) (HL : Cuts s k) (hz : ((Z.size : Int) != 1) = false)
    (hsh : Calls Try.prog 15 #[.string s0] w fun e w' => e = .returned (.string s) ∧ w = w') (hZ : ∀ w, Calls Try.prog 13 #[.int .i64 0] w (Gives Z w))
    (n1 t1 : Nat) (a1 : k < t1) (b1 : t1 ≤ s.size) (hG : ∀ w, Calls Try.prog 16 #[.string s, .int .i64 k] w (Ok3 (.int .i64 n1) t1 w)) (hP : ∀ w, Calls Try.prog 9 #[.int .i64 n1] w (Str0 (s.extract k t1) w))
    (c2 : Int) (hc2 : c2 ≠ 0) (hS : ∀ w, Calls Try.prog 18 #[.string s, .int .i64 k] w (Err3 (.int .i64 0) c2 w))
    (x3 : ByteArray) (t3 : Nat) (a3 : k < t3) (b3 : t3 ≤ s.size) (hT : ∀ w, Calls Try.prog 20 #[.string s, .int .i64 k] w (Ok3 (.string x3) t3 w)) (hU : ∀ w, Calls Try.prog 11 #[.string x3] w (Str0 (s.extract k t3) w)) :
    Calls Try.prog 6 #[.string s0, .int .i64 k] w (Yes w) := by
  have H0 := Lib.hid hsh; have HZ := Lib.hid hZ
  clear hsh hZ
  have l1 := HL t1 a1 b1
  have e1a : decide (t1 ≤ k) = false := decide_eq_false (by omega)
  have e1b : decide (s.size < t1) = false := decide_eq_false (by omega)
  have e1c : decide ((t1 : Int) ≤ (k : Int)) = false := decide_eq_false (by omega)
  have e1d : decide ((s.size : Int) < (t1 : Int)) = false := decide_eq_false (by omega)
  have HG := Lib.hid hG; have HP := Lib.hid hP
  clear hG hP
  have d2 : (c2 == 0) = false := ne_b hc2
  have d2' : (c2 != 0) = true := nb hc2
  have HS := Lib.hid hS
  clear hS hc2
  have l3 := HL t3 a3 b3
  have e3a : decide (t3 ≤ k) = false := decide_eq_false (by omega)
  have e3b : decide (s.size < t3) = false := decide_eq_false (by omega)
  have e3c : decide ((t3 : Int) ≤ (k : Int)) = false := decide_eq_false (by omega)
  have e3d : decide ((s.size : Int) < (t3 : Int)) = false := decide_eq_false (by omega)
  have HT := Lib.hid hT; have HU := Lib.hid hU
  clear hT hU
  clear HL
  go_enter Try.func6, Try.ntmps6
  go_wp2_with fail
  refine H0.out.mono ?_
  rintro e w' ⟨rfl, rfl⟩
  go_wp2_with fail
  refine (HZ.out _).mono ?_
  rintro e w1 ⟨rfl, hb1⟩
  go_wp2_with fail
  refine (HG.out _).mono ?_
  rintro e w2 ⟨rfl, hb2⟩
  have hb2' := below_next hb1 hb2
  clear hb1 hb2
  go_wp2_with fail
  refine (HP.out _).mono ?_
  rintro e w3 ⟨rfl, hb3⟩
  have hb3' := below_next hb2' hb3
  clear hb2' hb3
  go_wp2_with fail
  refine (HS.out _).mono ?_
  rintro e w4 ⟨rfl, hb4⟩
  have hb4' := below_next hb3' hb4
  clear hb3' hb4
  go_wp2_with fail
  go_quiet (fail)
  go_wp2_with fail
  refine (HT.out _).mono ?_
  rintro e w6 ⟨rfl, hb6⟩
  go_wp2_with fail
  refine (HU.out _).mono ?_
  rintro e w7 ⟨rfl, hb7⟩
  go_wp2_with fail
  go_ret
  exact ⟨rfl, below_next (below_draw hb4' hb6) hb7⟩
set_option maxHeartbeats 1000000 in
theorem once110 (s0 s Z : ByteArray) (k : Nat) (w : World) (hs : s.size ≤ 6000) (hk : k ≤ s.size) (HL : Cuts s k) (hz : ((Z.size : Int) != 1) = false)
    (hsh : Calls Try.prog 15 #[.string s0] w fun e w' => e = .returned (.string s) ∧ w = w') (hZ : ∀ w, Calls Try.prog 13 #[.int .i64 0] w (Gives Z w))
    (n1 t1 : Nat) (a1 : k < t1) (b1 : t1 ≤ s.size) (hG : ∀ w, Calls Try.prog 16 #[.string s, .int .i64 k] w (Ok3 (.int .i64 n1) t1 w)) (hP : ∀ w, Calls Try.prog 9 #[.int .i64 n1] w (Str0 (s.extract k t1) w))
    (n2 : Int) (t2 : Nat) (a2 : k < t2) (b2 : t2 ≤ s.size) (hS : ∀ w, Calls Try.prog 18 #[.string s, .int .i64 k] w (Ok3 (.int .i64 n2) t2 w)) (hQ : ∀ w, Calls Try.prog 13 #[.int .i64 n2] w (Gives (s.extract k t2) w))
    (c3 : Int) (hc3 : c3 ≠ 0) (hT : ∀ w, Calls Try.prog 20 #[.string s, .int .i64 k] w (Err3 (.string ⟨#[]⟩) c3 w)) :
    Calls Try.prog 6 #[.string s0, .int .i64 k] w (Yes w) := by
  have H0 := Lib.hid hsh; have HZ := Lib.hid hZ
  clear hsh hZ
  have l1 := HL t1 a1 b1
  have e1a : decide (t1 ≤ k) = false := decide_eq_false (by omega)
  have e1b : decide (s.size < t1) = false := decide_eq_false (by omega)
  have e1c : decide ((t1 : Int) ≤ (k : Int)) = false := decide_eq_false (by omega)
  have e1d : decide ((s.size : Int) < (t1 : Int)) = false := decide_eq_false (by omega)
  have HG := Lib.hid hG; have HP := Lib.hid hP
  clear hG hP
  have l2 := HL t2 a2 b2
  have e2a : decide (t2 ≤ k) = false := decide_eq_false (by omega)
  have e2b : decide (s.size < t2) = false := decide_eq_false (by omega)
  have e2c : decide ((t2 : Int) ≤ (k : Int)) = false := decide_eq_false (by omega)
  have e2d : decide ((s.size : Int) < (t2 : Int)) = false := decide_eq_false (by omega)
  have HS := Lib.hid hS; have HQ := Lib.hid hQ
  clear hS hQ
  have d3 : (c3 == 0) = false := ne_b hc3
  have d3' : (c3 != 0) = true := nb hc3
  have HT := Lib.hid hT
  clear hT hc3
  clear HL
  go_enter Try.func6, Try.ntmps6
  go_wp2_with fail
  refine H0.out.mono ?_
  rintro e w' ⟨rfl, rfl⟩
  go_wp2_with fail
  refine (HZ.out _).mono ?_
  rintro e w1 ⟨rfl, hb1⟩
  go_wp2_with fail
  refine (HG.out _).mono ?_
  rintro e w2 ⟨rfl, hb2⟩
  have hb2' := below_next hb1 hb2
  clear hb1 hb2
  go_wp2_with fail
  refine (HP.out _).mono ?_
  rintro e w3 ⟨rfl, hb3⟩
  have hb3' := below_next hb2' hb3
  clear hb2' hb3
  go_wp2_with fail
  refine (HS.out _).mono ?_
  rintro e w4 ⟨rfl, hb4⟩
  have hb4' := below_next hb3' hb4
  clear hb3' hb4
  go_wp2_with fail
  go_region_held3 (fun w' => Below w.heap.size w w') (first | exact below_drewOf hb4' | exact below_next (by assumption) hb5)
    ((go_at_call 13; refine (HQ.out _).mono ?_; rintro e w5 ⟨rfl, hb5⟩))
  have hb5' : Below w.heap.size w w5 := by assumption
  go_wp2_with fail
  refine (HT.out _).mono ?_
  rintro e w6 ⟨rfl, hb6⟩
  go_wp2_with fail
  go_ret
  exact ⟨rfl, below_next hb5' hb6⟩
set_option maxHeartbeats 1000000 in
theorem once111 (s0 s Z : ByteArray) (k : Nat) (w : World) (hs : s.size ≤ 6000) (hk : k ≤ s.size) (HL : Cuts s k) (hz : ((Z.size : Int) != 1) = false)
    (hsh : Calls Try.prog 15 #[.string s0] w fun e w' => e = .returned (.string s) ∧ w = w') (hZ : ∀ w, Calls Try.prog 13 #[.int .i64 0] w (Gives Z w))
    (n1 t1 : Nat) (a1 : k < t1) (b1 : t1 ≤ s.size) (hG : ∀ w, Calls Try.prog 16 #[.string s, .int .i64 k] w (Ok3 (.int .i64 n1) t1 w)) (hP : ∀ w, Calls Try.prog 9 #[.int .i64 n1] w (Str0 (s.extract k t1) w))
    (n2 : Int) (t2 : Nat) (a2 : k < t2) (b2 : t2 ≤ s.size) (hS : ∀ w, Calls Try.prog 18 #[.string s, .int .i64 k] w (Ok3 (.int .i64 n2) t2 w)) (hQ : ∀ w, Calls Try.prog 13 #[.int .i64 n2] w (Gives (s.extract k t2) w))
    (x3 : ByteArray) (t3 : Nat) (a3 : k < t3) (b3 : t3 ≤ s.size) (hT : ∀ w, Calls Try.prog 20 #[.string s, .int .i64 k] w (Ok3 (.string x3) t3 w)) (hU : ∀ w, Calls Try.prog 11 #[.string x3] w (Str0 (s.extract k t3) w)) :
    Calls Try.prog 6 #[.string s0, .int .i64 k] w (Yes w) := by
  have H0 := Lib.hid hsh; have HZ := Lib.hid hZ
  clear hsh hZ
  have l1 := HL t1 a1 b1
  have e1a : decide (t1 ≤ k) = false := decide_eq_false (by omega)
  have e1b : decide (s.size < t1) = false := decide_eq_false (by omega)
  have e1c : decide ((t1 : Int) ≤ (k : Int)) = false := decide_eq_false (by omega)
  have e1d : decide ((s.size : Int) < (t1 : Int)) = false := decide_eq_false (by omega)
  have HG := Lib.hid hG; have HP := Lib.hid hP
  clear hG hP
  have l2 := HL t2 a2 b2
  have e2a : decide (t2 ≤ k) = false := decide_eq_false (by omega)
  have e2b : decide (s.size < t2) = false := decide_eq_false (by omega)
  have e2c : decide ((t2 : Int) ≤ (k : Int)) = false := decide_eq_false (by omega)
  have e2d : decide ((s.size : Int) < (t2 : Int)) = false := decide_eq_false (by omega)
  have HS := Lib.hid hS; have HQ := Lib.hid hQ
  clear hS hQ
  have l3 := HL t3 a3 b3
  have e3a : decide (t3 ≤ k) = false := decide_eq_false (by omega)
  have e3b : decide (s.size < t3) = false := decide_eq_false (by omega)
  have e3c : decide ((t3 : Int) ≤ (k : Int)) = false := decide_eq_false (by omega)
  have e3d : decide ((s.size : Int) < (t3 : Int)) = false := decide_eq_false (by omega)
  have HT := Lib.hid hT; have HU := Lib.hid hU
  clear hT hU
  clear HL
  go_enter Try.func6, Try.ntmps6
  go_wp2_with fail
  refine H0.out.mono ?_
  rintro e w' ⟨rfl, rfl⟩
  go_wp2_with fail
  refine (HZ.out _).mono ?_
  rintro e w1 ⟨rfl, hb1⟩
  go_wp2_with fail
  refine (HG.out _).mono ?_
  rintro e w2 ⟨rfl, hb2⟩
  have hb2' := below_next hb1 hb2
  clear hb1 hb2
  go_wp2_with fail
  refine (HP.out _).mono ?_
  rintro e w3 ⟨rfl, hb3⟩
  have hb3' := below_next hb2' hb3
  clear hb2' hb3
  go_wp2_with fail
  refine (HS.out _).mono ?_
  rintro e w4 ⟨rfl, hb4⟩
  have hb4' := below_next hb3' hb4
  clear hb3' hb4
  go_wp2_with fail
  go_region_held3 (fun w' => Below w.heap.size w w') (first | exact below_drewOf hb4' | exact below_next (by assumption) hb5)
    ((go_at_call 13; refine (HQ.out _).mono ?_; rintro e w5 ⟨rfl, hb5⟩))
  have hb5' : Below w.heap.size w w5 := by assumption
  go_wp2_with fail
  refine (HT.out _).mono ?_
  rintro e w6 ⟨rfl, hb6⟩
  go_wp2_with fail
  refine (HU.out _).mono ?_
  rintro e w7 ⟨rfl, hb7⟩
  go_wp2_with fail
  go_ret
  exact ⟨rfl, below_next (below_next hb5' hb6) hb7⟩
theorem onceBad (s0 s Z : ByteArray) (i : Int) (w : World) (hs : s.size ≤ 6000) (hi : i < 0 ∨ (s.size : Int) < i) (hz : ((Z.size : Int) != 1) = false)
    (hsh : Calls Try.prog 15 #[.string s0] w fun e w' => e = .returned (.string s) ∧ w = w') (hZ : ∀ w, Calls Try.prog 13 #[.int .i64 0] w (Gives Z w)) :
    Calls Try.prog 6 #[.string s0, .int .i64 i] w (Yes w) := by
  have H0 := Lib.hid hsh; have HZ := Lib.hid hZ
  clear hsh hZ
  have hG := fun w => vlqGet_bad s i w (by omega) hi
  have hS := fun w => vlqGetSigned_bad s i w (by omega) hi
  have hT := fun w => vlqGetText_bad s i w (by omega) hi
  have HG := Lib.hid hG; have HS := Lib.hid hS; have HT := Lib.hid hT
  clear hG hS hT hi
  go_enter Try.func6, Try.ntmps6
  go_wp2_with fail
  refine H0.out.mono ?_
  rintro e w' ⟨rfl, rfl⟩
  go_wp2_with fail
  refine (HZ.out _).mono ?_
  rintro e w1 ⟨rfl, hb1⟩
  go_wp2_with fail
  refine (HG.out _).mono ?_
  rintro e w' ⟨rfl, rfl⟩
  go_wp2_with fail
  refine (HS.out _).mono ?_
  rintro e w' ⟨rfl, rfl⟩
  go_wp2_with fail
  go_quiet (fail)
  go_wp2_with fail
  refine (HT.out _).mono ?_
  rintro e w6 ⟨rfl, hb6⟩
  go_wp2_with fail
  go_ret
  exact ⟨rfl, below_draw hb1 hb6⟩
theorem walkVlqOnce (s0 : ByteArray) (i : Int) (w : World) :
    Calls Try.prog 6 #[.string s0, .int .i64 i] w (Yes w) := by
  obtain ⟨s, hs, hsh⟩ := lawShort s0 w
  obtain ⟨Z, hZ, hZ'⟩ := zero_str
  have hz : ((Z.size : Int) != 1) = false := nb0 (by omega)
  by_cases hi : i < 0 ∨ (s.size : Int) < i
  · exact onceBad s0 s Z i w hs hi hz hsh hZ'
  · obtain ⟨k, rfl⟩ := Int.eq_ofNat_of_zero_le (a := i) (by omega)
    have hk : k ≤ s.size := by omega
    have hsl : Cuts s k := fun to h1 h2 w => by
      rw [run_slice_string (P := Try.prog) w 9 s .i64 .i64 (k : Int) (to : Int) Try.underlying9 (by omega) (by omega) (by omega)]; rfl
    rcases once_get s k hs hk with ⟨c1, hc1, hG⟩ | ⟨n1, t1, a1, b1, hG, hP⟩
    · rcases once_signed s k hs hk with ⟨c2, hc2, hS⟩ | ⟨n2, t2, a2, b2, hS, hQ⟩
      · rcases once_text s k hs hk with ⟨c3, hc3, hT⟩ | ⟨x3, t3, a3, b3, hT, hU⟩
        · exact once000 s0 s Z k w hs hk hsl hz hsh hZ' c1 hc1 hG c2 hc2 hS c3 hc3 hT
        · exact once001 s0 s Z k w hs hk hsl hz hsh hZ' c1 hc1 hG c2 hc2 hS x3 t3 a3 b3 hT hU
      · rcases once_text s k hs hk with ⟨c3, hc3, hT⟩ | ⟨x3, t3, a3, b3, hT, hU⟩
        · exact once010 s0 s Z k w hs hk hsl hz hsh hZ' c1 hc1 hG n2 t2 a2 b2 hS hQ c3 hc3 hT
        · exact once011 s0 s Z k w hs hk hsl hz hsh hZ' c1 hc1 hG n2 t2 a2 b2 hS hQ x3 t3 a3 b3 hT hU
    · rcases once_signed s k hs hk with ⟨c2, hc2, hS⟩ | ⟨n2, t2, a2, b2, hS, hQ⟩
      · rcases once_text s k hs hk with ⟨c3, hc3, hT⟩ | ⟨x3, t3, a3, b3, hT, hU⟩
        · exact once100 s0 s Z k w hs hk hsl hz hsh hZ' n1 t1 a1 b1 hG hP c2 hc2 hS c3 hc3 hT
        · exact once101 s0 s Z k w hs hk hsl hz hsh hZ' n1 t1 a1 b1 hG hP c2 hc2 hS x3 t3 a3 b3 hT hU
      · rcases once_text s k hs hk with ⟨c3, hc3, hT⟩ | ⟨x3, t3, a3, b3, hT, hU⟩
        · exact once110 s0 s Z k w hs hk hsl hz hsh hZ' n1 t1 a1 b1 hG hP n2 t2 a2 b2 hS hQ c3 hc3 hT
        · exact once111 s0 s Z k w hs hk hsl hz hsh hZ' n1 t1 a1 b1 hG hP n2 t2 a2 b2 hS hQ x3 t3 a3 b3 hT hU
theorem lawVlqOnce : Lift.Owes 6 [9, 3] := by
  intro H enc W base args ds ps hval hA _ _
  obtain ⟨v0, v1, d0, d1, p0, p1, rfl, rfl, rfl, h0, h1⟩ := trodAll_two hA
  obtain ⟨s, rfl, rfl, rfl, w0⟩ := ChangeMaps.open_string Try.underlying9 (hval 0 _ v0 rfl rfl) h0
  obtain ⟨n, rfl, rfl, rfl, w1⟩ := open_int Try.underlying3 (hval 1 _ v1 rfl rfl) h1
  exact walkVlqOnce s n W
end Go.Proofs.Ytopcjkjedlkpcaa
