/- Contracts of the reference's Get. -/
import Derived.Test.YtldaflofdbognaaSealGet
namespace Go.Proofs.Ytldaflofdbognaa
open Go.RowKit
open Vlq Seal
set_option linter.unusedVariables false
def Ret3 (b : ByteArray) (x c : Int) (w : World) (e : Ending) (w' : World) : Prop := e = .returned (.tuple #[.string b, .int .i64 x, .int .i64 c]) ∧ Below w.heap.size w w'
theorem refSeal_bad (s : ByteArray) (i : Int) (w : World) (hs : s.size ≤ 9223372036854775807) (h : i < 0 ∨ (s.size : Int) < i) :
    Calls Try.prog 15 #[.string s, .int .i64 i] w (Ret3 ⟨#[]⟩ 0 1 w) := by
  rcases Int.lt_or_le i 0 with h' | h'
  · go_enter Try.func15, Try.ntmps15
    go_wp2_with fail
    go_ret3
    exact ⟨rfl, Below.refl _ _⟩
  · have h2 : (s.size : Int) < i := by omega
    clear h
    go_enter Try.func15, Try.ntmps15
    go_wp2_with fail
    go_ret3
    exact ⟨rfl, Below.refl _ _⟩
theorem refSeal_end (s : ByteArray) (w : World) (hs : s.size ≤ 9223372036854775807) :
    Calls Try.prog 15 #[.string s, .int .i64 s.size] w (Ret3 ⟨#[]⟩ 0 20 w) := by
  go_enter Try.func15, Try.ntmps15
  go_wp2_with fail
  go_ret3
  exact ⟨rfl, Below.refl _ _⟩
theorem refSeal_form (s : ByteArray) (i : Nat) (w : World) (hs : s.size ≤ 9223372036854775807) (h : i < s.size) (hc : s[i].toNat ≠ 166) :
    Calls Try.prog 15 #[.string s, .int .i64 i] w (Ret3 ⟨#[]⟩ 0 21 w) := by
  have hi : (i : Int) < s.size := by omega
  have hne : ((i : Int) == (s.size : Int)) = false := ne_b (by omega)
  have hc' : ((s[i].toNat : Int) != 166) = true := nb (by omega)
  clear hc
  go_enter Try.func15, Try.ntmps15
  go_wp2_with fail
  go_ret3
  exact ⟨rfl, Below.refl _ _⟩
theorem refSeal_err (s : ByteArray) (i n f c : Nat) (w : World) (hs : s.size ≤ 9223372036854775806) (h : i < s.size) (hc : s[i].toNat = 166) (hr : Reads 26 s (i + 1) n f c) (he : c ≠ 0) :
    Calls Try.prog 15 #[.string s, .int .i64 i] w (Ret3 ⟨#[]⟩ 0 c w) := by
  have hi : (i : Int) < s.size := by omega
  have hne : ((i : Int) == (s.size : Int)) = false := ne_b (by omega)
  have hc' : ((s[i].toNat : Int) != 166) = false := nb0 (by omega)
  have he' : ((c : Int) != 0) = true := nb (by omega)
  have HR := Lib.hid hr
  clear hc hr he
  go_enter Try.func15, Try.ntmps15
  go_wp2_with fail
  refine (HR.out _).mono ?_
  rintro e w' ⟨rfl, rfl⟩
  go_wp2_with fail
  go_ret3
  exact ⟨rfl, Below.refl _ _⟩
theorem refSeal_long (s : ByteArray) (i n f : Nat) (w : World) (hs : s.size ≤ 9223372036854775806) (h : i < s.size) (hc : s[i].toNat = 166) (hr : Reads 26 s (i + 1) n f 0) (hn : 8192 < n) (hb : (n : Int) ≤ 9223372036854775807) :
    Calls Try.prog 15 #[.string s, .int .i64 i] w (Ret3 ⟨#[]⟩ 0 2 w) := by
  have hi : (i : Int) < s.size := by omega
  have hne : ((i : Int) == (s.size : Int)) = false := ne_b (by omega)
  have hc' : ((s[i].toNat : Int) != 166) = false := nb0 (by omega)
  have HR := Lib.hid hr
  clear hc hr
  go_enter Try.func15, Try.ntmps15
  go_wp2_with fail
  refine (HR.out _).mono ?_
  rintro e w' ⟨rfl, rfl⟩
  go_wp2_with fail
  go_ret3
  exact ⟨rfl, Below.refl _ _⟩
theorem refSeal_short (s : ByteArray) (i n f : Nat) (w : World) (hs : s.size ≤ 9223372036854700000) (h : i < s.size) (hc : s[i].toNat = 166) (hr : Reads 26 s (i + 1) n f 0) (hn : n ≤ 8192) (hf : f ≤ s.size) (hx : s.size < f + n + 4) :
    Calls Try.prog 15 #[.string s, .int .i64 i] w (Ret3 ⟨#[]⟩ 0 20 w) := by
  have hi : (i : Int) < s.size := by omega
  have hne : ((i : Int) == (s.size : Int)) = false := ne_b (by omega)
  have hc' : ((s[i].toNat : Int) != 166) = false := nb0 (by omega)
  have HR := Lib.hid hr
  clear hc hr
  go_enter Try.func15, Try.ntmps15
  go_wp2_with fail
  refine (HR.out _).mono ?_
  rintro e w' ⟨rfl, rfl⟩
  go_wp2_with fail
  go_ret3
  exact ⟨rfl, Below.refl _ _⟩
theorem run_cut3 {P : Program} (t : TypeId) (ht : P.underlying t = some .string) (s : ByteArray) (i f n : Nat) (hab : i ≤ f) (h : f + n + 4 ≤ s.size) (w : World) :
    (Instr.slice t (.string s) (some (.int .i64 (i : Int))) (some (.int .i64 ((f : Int) + (n : Int) + 4))) none).run P w = .ok (.string (s.extract i (f + n + 4))) w := by
  rw [run_slice_string (P := P) w t s .i64 .i64 (i : Int) ((f : Int) + (n : Int) + 4) ht (by omega) (by omega) (by omega)]
  rw [Int.toNat_natCast, show ((f : Int) + (n : Int) + 4).toNat = f + n + 4 by omega]
theorem wrap64 {x : Int} (h1 : -9223372036854775808 ≤ x) (h2 : x ≤ 9223372036854775807) : IntKind.i64.wrap x = x := by
  simp [IntKind.wrap, IntKind.bits, IntKind.signed]; omega
set_option maxHeartbeats 1000000 in
theorem refSeal_sum (s : ByteArray) (i n f : Nat) (w : World) (F : ByteArray) (hs : s.size ≤ 9223372036854700000) (h : i < s.size) (hc : s[i].toNat = 166) (hr : Reads 26 s (i + 1) n f 0) (hn : n ≤ 8192) (hif : i ≤ f)
    (hx : f + n + 4 ≤ s.size) (hF : ∀ w, Calls Try.prog 13 #[.string (s.extract f (f + n))] w fun e w' => e = .returned (.string F) ∧ Below w.heap.size w w') (hE : ((s.extract i (f + n + 4)).toList == F.toList) = false) :
    Calls Try.prog 15 #[.string s, .int .i64 i] w (Ret3 ⟨#[]⟩ 0 30 w) := by
  have hi : (i : Int) < s.size := by omega
  have hne : ((i : Int) == (s.size : Int)) = false := ne_b (by omega)
  have hc' : ((s[i].toNat : Int) != 166) = false := nb0 (by omega)
  have HR := Lib.hid hr; have HF := Lib.hid hF
  have hw1 : IntKind.i64.wrap ((f : Int) + n) = f + n := wrap64 (by omega) (by omega)
  have hw2 : IntKind.i64.wrap ((f : Int) + n + 4) = f + n + 4 := wrap64 (by omega) (by omega)
  have hsl := run_cut3 (P := Try.prog) 9 Try.underlying9 s i f n hif hx
  have hsl2 := run_piece (P := Try.prog) 9 Try.underlying9 s f n (by omega)
  clear hc hr hF
  go_enter Try.func15, Try.ntmps15
  go_wp2_with fail
  refine (HR.out _).mono ?_
  rintro e w' ⟨rfl, rfl⟩
  go_wp2_with fail
  go_region_held3 (fun w' => Below w.heap.size w w') (first | exact below_drewOf (Below.refl _ _) | exact below_next (by assumption) hb5)
    ((go_at_call 13; refine (HF.out _).mono ?_; rintro e w5 ⟨rfl, hb5⟩))
  have hb5' : Below w.heap.size w w5 := by assumption
  go_wp2_with fail
  go_ret3
  exact ⟨rfl, hb5'⟩
set_option maxHeartbeats 1000000 in
theorem refSeal_ok (s : ByteArray) (i n f : Nat) (w : World) (F : ByteArray) (hs : s.size ≤ 9223372036854700000) (h : i < s.size) (hc : s[i].toNat = 166) (hr : Reads 26 s (i + 1) n f 0) (hn : n ≤ 8192) (hif : i ≤ f)
    (hx : f + n + 4 ≤ s.size) (hF : ∀ w, Calls Try.prog 13 #[.string (s.extract f (f + n))] w fun e w' => e = .returned (.string F) ∧ Below w.heap.size w w') (hE : ((s.extract i (f + n + 4)).toList == F.toList) = true) :
    Calls Try.prog 15 #[.string s, .int .i64 i] w (Ret3 (s.extract f (f + n)) ((f : Int) + n + 4) 0 w) := by
  have hi : (i : Int) < s.size := by omega
  have hne : ((i : Int) == (s.size : Int)) = false := ne_b (by omega)
  have hc' : ((s[i].toNat : Int) != 166) = false := nb0 (by omega)
  have HR := Lib.hid hr; have HF := Lib.hid hF
  have hw1 : IntKind.i64.wrap ((f : Int) + n) = f + n := wrap64 (by omega) (by omega)
  have hw2 : IntKind.i64.wrap ((f : Int) + n + 4) = f + n + 4 := wrap64 (by omega) (by omega)
  have hsl := run_cut3 (P := Try.prog) 9 Try.underlying9 s i f n hif hx
  have hsl2 := run_piece (P := Try.prog) 9 Try.underlying9 s f n (by omega)
  clear hc hr hF
  go_enter Try.func15, Try.ntmps15
  go_wp2_with fail
  refine (HR.out _).mono ?_
  rintro e w' ⟨rfl, rfl⟩
  go_wp2_with fail
  go_region_held3 (fun w' => Below w.heap.size w w') (first | exact below_drewOf (Below.refl _ _) | exact below_next (by assumption) hb5)
    ((go_at_call 13; refine (HF.out _).mono ?_; rintro e w5 ⟨rfl, hb5⟩))
  have hb5' : Below w.heap.size w w5 := by assumption
  go_wp2_with fail
  go_ret3
  exact ⟨rfl, hb5'⟩
theorem refSeal (s : ByteArray) (i : Nat) (hs : s.size ≤ 9223372036854700000) (hi : i ≤ s.size) (w : World) :
    Calls Try.prog 15 #[.string s, .int .i64 i] w (GotT (getF (sl s) i) w) := by
  have fr : ∀ (f n : Nat), n ≤ 8192 → f + n + 4 ≤ s.size → ∀ w, Calls Try.prog 13 #[.string (s.extract f (f + n))] w
      fun e w' => e = .returned (.string ⟨(frame (((sl s).drop f).take n)).toArray⟩) ∧ Below w.heap.size w w' := fun f n hn hx w => by
    have := refFrame (s.extract f (f + n)) (by rw [ByteArray.size_extract]; omega) w
    rw [show sl (s.extract f (f + n)) = ((sl s).drop f).take n by rw [cut_eq, Nat.add_sub_cancel_left]] at this
    exact this
  have parts : ∀ (f n : Nat), i + 1 < f → rd M1 (sl s) (i + 1) = (n, f, 0) → n ≤ 8192 → f + n + 4 ≤ s.size → ∀ (h : i < s.size), s[i].toNat = 166 →
      ((s.extract i (f + n + 4)).toList == (⟨(frame (((sl s).drop f).take n)).toArray⟩ : ByteArray).toList) = decide (be4 (crc (((sl s).drop i).take (f + n - i))) = ((sl s).drop (f + n)).take 4) := by
    intro f n hif hr hn hx h h1
    obtain ⟨g1, g2, g3, g4⟩ := rd_once M1_mod hr
    have hl : i < (sl s).length := by rw [sl_len]; exact h
    have hb : (((sl s).drop f).take n).length = n := by rw [List.length_take, List.length_drop, sl_len]; omega
    have hh : ((sl s).drop i).take (f + n - i) = head (((sl s).drop f).take n) := by
      rw [head, hb, ← g4, drop_at hl, sl_at s i h, lit_166.2 h1, show f + n - i = ((f - (i + 1)) + n) + 1 by omega, List.take_succ_cons, List.take_add, List.drop_drop,
        show i + 1 + (f - (i + 1)) = f by omega]
    have e1 : s.extract i (f + n + 4) = ⟨(((sl s).drop i).take (f + n - i) ++ ((sl s).drop (f + n)).take 4).toArray⟩ := by
      rw [cut_eq, show f + n + 4 - i = (f + n - i) + 4 by omega, List.take_add, List.drop_drop, show i + (f + n - i) = f + n by omega]
    rw [e1, frame, ← hh, ByteArray.toList_eq, ByteArray.toList_eq]
    rw [Bool.eq_iff_iff, beq_iff_eq, decide_eq_true_iff]
    constructor
    · intro he
      exact (List.append_cancel_left he).symm
    · intro he; rw [he]
  have key : ∀ (c : Nat), getF (sl s) i = ([], 0, c) → (∀ w, Calls Try.prog 15 #[.string s, .int .i64 i] w (Ret3 ⟨#[]⟩ 0 c w)) →
      Calls Try.prog 15 #[.string s, .int .i64 i] w (GotT (getF (sl s) i) w) := fun c e h => (h w).mono fun _ _ hh => got_err e hh
  rcases ways s i hi with ⟨h, e⟩ | ⟨h, h1, e⟩ | ⟨h, h1, n, f, c, hr, hc, e⟩ | ⟨h, h1, n, f, hr, hn, e⟩ | ⟨h, h1, n, f, hr, hn, hf, hx, e⟩ | ⟨h, h1, n, f, hr, hn, hif, hx, hS, e⟩ | ⟨h, h1, n, f, hr, hn, hif, hx, hS, e⟩
  · exact key 20 e (fun w => by subst h; exact refSeal_end s w (by omega))
  · exact key 21 e (fun w => refSeal_form s i w (by omega) h h1)
  · exact key c e (fun w => refSeal_err s i n f c w (by omega) h h1 (reads_ref s i n f c (by omega) h hr) hc)
  · have hle := rd1_le (sl s) (i + 1)
    rw [hr] at hle
    exact key 2 e (fun w => refSeal_long s i n f w (by omega) h h1 (reads_ref s i n f 0 (by omega) h hr) hn hle)
  · exact key 20 e (fun w => refSeal_short s i n f w (by omega) h h1 (reads_ref s i n f 0 (by omega) h hr) hn hf hx)
  · exact key 30 e (fun w => refSeal_sum s i n f w _ hs h h1 (reads_ref s i n f 0 (by omega) h hr) hn (by omega) hx (fr f n hn hx) (by rw [parts f n hif hr hn hx h h1]; exact decide_eq_false hS))
  · refine (refSeal_ok s i n f w _ hs h h1 (reads_ref s i n f 0 (by omega) h hr) hn (by omega) hx (fr f n hn hx) (by rw [parts f n hif hr hn hx h h1]; exact decide_eq_true hS)).mono ?_
    rintro _ w' ⟨rfl, hb⟩
    rw [e]
    refine ⟨?_, hb⟩
    rw [cut_eq, Nat.add_sub_cancel_left]
    simp
end Go.Proofs.Ytldaflofdbognaa
