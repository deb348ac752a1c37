/- Contracts of Get of package seal, and of the reference's. -/
import Derived.Test.YtldaflofdbognaaSealPut
import Derived.Test.YtldaflofdbognaaVlqGetText
import Derived.Stop.BytesEq
import Derived.Deep.QuietTactic
import Derived.BigQuiet
import Derived.Deep.RegionHeld3
namespace Go.Proofs.Ytldaflofdbognaa
open Go.RowKit
open Vlq Seal
set_option linter.unusedVariables false
def Bnd (x y c : Int) (w : World) (e : Ending) (w' : World) : Prop := e = .returned (.tuple #[.int .i64 x, .int .i64 y, .int .i64 c]) ∧ Below w.heap.size w w'
theorem bounds_bad (s : ByteArray) (i : Int) (w : World) (hs : s.size ≤ 9223372036854775807) (h : i < 0 ∨ (s.size : Int) < i) :
    Calls Try.prog 23 #[.string s, .int .i64 i] w (Bnd 0 0 1 w) := by
  rcases Int.lt_or_le i 0 with h' | h'
  · go_enter Try.func23, Try.ntmps23
    go_wp2_with fail
    go_ret3
    exact ⟨rfl, Below.refl _ _⟩
  · have h2 : (s.size : Int) < i := by omega
    clear h
    go_enter Try.func23, Try.ntmps23
    go_wp2_with fail
    go_ret3
    exact ⟨rfl, Below.refl _ _⟩
theorem bounds_end (s : ByteArray) (w : World) (hs : s.size ≤ 9223372036854775807) :
    Calls Try.prog 23 #[.string s, .int .i64 s.size] w (Bnd 0 0 20 w) := by
  go_enter Try.func23, Try.ntmps23
  go_wp2_with fail
  go_ret3
  exact ⟨rfl, Below.refl _ _⟩
abbrev leadByte : Int := (((⟨#[166]⟩ : ByteArray)[0]'(by decide)).toNat : Int)
theorem lead_eq : (((⟨#[166]⟩ : ByteArray)[0]'(by decide)).toNat : Int) = 166 := rfl
theorem bounds_form (s : ByteArray) (i : Nat) (w : World) (hs : s.size ≤ 9223372036854775807) (h : i < s.size) (hc : s[i].toNat ≠ 166) :
    Calls Try.prog 23 #[.string s, .int .i64 i] w (Bnd 0 0 21 w) := by
  have hi : (i : Int) < s.size := by omega
  have hne : ((i : Int) == (s.size : Int)) = false := ne_b (by omega)
  have hc' : ((s[i].toNat : Int) != (((⟨#[166]⟩ : ByteArray)[0]'(by decide)).toNat : Int)) = true := nb (by rw [lead_eq]; omega)
  clear hc
  go_enter Try.func23, Try.ntmps23
  go_wp2_with fail
  go_quiet (fail)
  go_wp2_with fail
  go_ret3
  exact ⟨rfl, below_drewN (Below.refl _ _)⟩
/-- What a number's reader answers, at each world. -/
def Reads (f : FuncId) (s : ByteArray) (i n to c : Nat) : Prop := ∀ w, Calls Try.prog f #[.string s, .int .i64 (i : Int)] w fun e w' => e = .returned (.tuple #[.int .i64 n, .int .i64 to, .int .i64 c]) ∧ w = w'
/-- The ways behind the number. -/
theorem bounds_err (s : ByteArray) (i n f c : Nat) (w : World) (hs : s.size ≤ 9223372036854775806) (h : i < s.size) (hc : s[i].toNat = 166) (hr : Reads 28 s (i + 1) n f c) (he : c ≠ 0) :
    Calls Try.prog 23 #[.string s, .int .i64 i] w (Bnd 0 0 c w) := by
  have hi : (i : Int) < s.size := by omega
  have hne : ((i : Int) == (s.size : Int)) = false := ne_b (by omega)
  have hc' : ((s[i].toNat : Int) != (((⟨#[166]⟩ : ByteArray)[0]'(by decide)).toNat : Int)) = false := nb0 (by rw [lead_eq]; omega)
  have he' : ((c : Int) != 0) = true := nb (by omega)
  have HR := Lib.hid hr
  clear hc hr he
  go_enter Try.func23, Try.ntmps23
  go_wp2_with fail
  go_quiet (fail)
  go_wp2_with fail
  refine (HR.out _).mono ?_
  rintro e w' ⟨rfl, rfl⟩
  go_wp2_with fail
  go_ret3
  exact ⟨rfl, below_drewN (Below.refl _ _)⟩
theorem bounds_long (s : ByteArray) (i n f : Nat) (w : World) (hs : s.size ≤ 9223372036854775806) (h : i < s.size) (hc : s[i].toNat = 166) (hr : Reads 28 s (i + 1) n f 0) (hn : 8192 < n) (hb : (n : Int) ≤ 9223372036854775807) :
    Calls Try.prog 23 #[.string s, .int .i64 i] w (Bnd 0 0 2 w) := by
  have hi : (i : Int) < s.size := by omega
  have hne : ((i : Int) == (s.size : Int)) = false := ne_b (by omega)
  have hc' : ((s[i].toNat : Int) != (((⟨#[166]⟩ : ByteArray)[0]'(by decide)).toNat : Int)) = false := nb0 (by rw [lead_eq]; omega)
  have HR := Lib.hid hr
  clear hc hr
  go_enter Try.func23, Try.ntmps23
  go_wp2_with fail
  go_quiet (fail)
  go_wp2_with fail
  refine (HR.out _).mono ?_
  rintro e w' ⟨rfl, rfl⟩
  go_wp2_with fail
  go_ret3
  exact ⟨rfl, below_drewN (Below.refl _ _)⟩
theorem bounds_short (s : ByteArray) (i n f : Nat) (w : World) (hs : s.size ≤ 9223372036854775806) (h : i < s.size) (hc : s[i].toNat = 166) (hr : Reads 28 s (i + 1) n f 0) (hn : n ≤ 8192) (hf : f ≤ s.size) (hx : s.size < f + n + 4) :
    Calls Try.prog 23 #[.string s, .int .i64 i] w (Bnd 0 0 20 w) := by
  have hi : (i : Int) < s.size := by omega
  have hne : ((i : Int) == (s.size : Int)) = false := ne_b (by omega)
  have hc' : ((s[i].toNat : Int) != (((⟨#[166]⟩ : ByteArray)[0]'(by decide)).toNat : Int)) = false := nb0 (by rw [lead_eq]; omega)
  have HR := Lib.hid hr
  clear hc hr
  go_enter Try.func23, Try.ntmps23
  go_wp2_with fail
  go_quiet (fail)
  go_wp2_with fail
  refine (HR.out _).mono ?_
  rintro e w' ⟨rfl, rfl⟩
  go_wp2_with fail
  go_ret3
  exact ⟨rfl, below_drewN (Below.refl _ _)⟩
theorem bounds_ok (s : ByteArray) (i n f : Nat) (w : World) (hs : s.size ≤ 9223372036854775806) (h : i < s.size) (hc : s[i].toNat = 166) (hr : Reads 28 s (i + 1) n f 0) (hn : n ≤ 8192) (hx : f + n + 4 ≤ s.size) :
    Calls Try.prog 23 #[.string s, .int .i64 i] w (Bnd f (f + n : Nat) 0 w) := by
  have hi : (i : Int) < s.size := by omega
  have hne : ((i : Int) == (s.size : Int)) = false := ne_b (by omega)
  have hc' : ((s[i].toNat : Int) != (((⟨#[166]⟩ : ByteArray)[0]'(by decide)).toNat : Int)) = false := nb0 (by rw [lead_eq]; omega)
  have HR := Lib.hid hr
  clear hc hr
  go_enter Try.func23, Try.ntmps23
  go_wp2_with fail
  go_quiet (fail)
  go_wp2_with fail
  refine (HR.out _).mono ?_
  rintro e w' ⟨rfl, rfl⟩
  go_wp2_with fail
  go_ret3
  exact ⟨by simp, below_drewN (Below.refl _ _)⟩
theorem equal_four (l m : List UInt8) (hl : l.length = 4) (hm : m.length = 4) (w : World) :
    (Op.equalIn 10000 41 (.agg (l.map u8v).toArray) (.agg (m.map u8v).toArray)).run Try.prog w = .ok (l == m) w := by
  obtain ⟨i0, hi, hz0, hz1, hz2⟩ := info_parts info_u8
  exact run_equalIn_bytes (P := Try.prog) w 9998 41 5 4 Try.underlying41 Try.underlying5 (fun w => by simp [sizeOf, typeInfo, hi, hz1]) l m hl hm
theorem sealGet_err (s : ByteArray) (i c : Int) (hc : c ≠ 0) (hB : ∀ w, Calls Try.prog 23 #[.string s, .int .i64 i] w (Bnd 0 0 c w)) (w : World) :
    Calls Try.prog 14 #[.string s, .int .i64 i] w fun e w' => e = .returned (.tuple #[.string ⟨#[]⟩, .int .i64 0, .int .i64 c]) ∧ Below w.heap.size w w' := by
  have hc' : (c != 0) = true := nb hc
  have HB := Lib.hid hB
  clear hB hc
  go_enter Try.func14, Try.ntmps14
  go_wp2_with fail
  refine (HB.out _).mono ?_
  rintro e w1 ⟨rfl, hb1⟩
  go_wp2_with fail
  go_ret3
  exact ⟨rfl, hb1⟩
/-- A slice of a string at two places. -/
theorem run_cut {P : Program} (t : TypeId) (ht : P.underlying t = some .string) (s : ByteArray) (a b : Nat) (hab : a ≤ b) (h : b ≤ s.size) (w : World) :
    (Instr.slice t (.string s) (some (.int .i64 (a : Int))) (some (.int .i64 (b : Int))) none).run P w = .ok (.string (s.extract a b)) w := by
  rw [run_slice_string (P := P) w t s .i64 .i64 (a : Int) (b : Int) ht (by omega) (by omega) (by omega)]
  rw [Int.toNat_natCast, Int.toNat_natCast]
set_option maxHeartbeats 1000000 in
theorem sealGet_sum (s : ByteArray) (i f t : Nat) (hs : s.size ≤ 9223372036854775806) (hit : i ≤ t) (hts : t + 4 ≤ s.size) (l m : List UInt8)
    (hB : ∀ w, Calls Try.prog 23 #[.string s, .int .i64 i] w (Bnd f t 0 w))
    (hA : ∀ w, Calls Try.prog 24 #[.string s, .int .i64 t] w (Arr l w))
    (hO : ∀ w, Calls Try.prog 20 #[.string (s.extract i t)] w (Arr m w))
    (hE : ∀ w, (Op.equalIn 10000 41 (.agg (l.map u8v).toArray) (.agg (m.map u8v).toArray)).run Try.prog w = .ok false w) (w : World) :
    Calls Try.prog 14 #[.string s, .int .i64 i] w fun e w' => e = .returned (.tuple #[.string ⟨#[]⟩, .int .i64 0, .int .i64 30]) ∧ Below w.heap.size w w' := by
  have HB := Lib.hid hB; have HA := Lib.hid hA; have HO := Lib.hid hO
  have hsl := run_cut (P := Try.prog) 9 Try.underlying9 s i t hit (by omega)
  clear hB hA hO
  go_enter Try.func14, Try.ntmps14
  go_wp2_with fail
  refine (HB.out _).mono ?_
  rintro e w1 ⟨rfl, hb1⟩
  go_wp2_with fail
  go_region_held3 (fun w' => Below w.heap.size w w') (first | exact below_drewOf hb1 | exact below_next (by assumption) hb5)
    ((first
      | (go_at_call 24; refine (HA.out _).mono ?_; rintro e w5 ⟨rfl, hb5⟩)
      | (go_at_call 20; refine (HO.out _).mono ?_; rintro e w5 ⟨rfl, hb5⟩)))
  have hb5' : Below w.heap.size w w5 := by assumption
  go_wp2_with fail
  go_ret3
  exact ⟨rfl, hb5'⟩
set_option maxHeartbeats 1000000 in
theorem sealGet_body (s : ByteArray) (i f t : Nat) (hs : s.size ≤ 9223372036854775806) (hif : i ≤ f) (hft : f ≤ t) (hsz : t ≤ f + 8192) (hts : t + 4 ≤ s.size) (l m : List UInt8)
    (hB : ∀ w, Calls Try.prog 23 #[.string s, .int .i64 i] w (Bnd f t 0 w))
    (hA : ∀ w, Calls Try.prog 24 #[.string s, .int .i64 t] w (Arr l w))
    (hO : ∀ w, Calls Try.prog 20 #[.string (s.extract i t)] w (Arr m w))
    (hE : ∀ w, (Op.equalIn 10000 41 (.agg (l.map u8v).toArray) (.agg (m.map u8v).toArray)).run Try.prog w = .ok true w) (w : World) :
    Calls Try.prog 14 #[.string s, .int .i64 i] w fun e w' => e = .returned (.tuple #[.string (s.extract f t), .int .i64 ((t : Int) + 4), .int .i64 0]) ∧ Below w.heap.size w w' := by
  have HB := Lib.hid hB; have HA := Lib.hid hA; have HO := Lib.hid hO
  have hsl := run_cut (P := Try.prog) 9 Try.underlying9 s i t (by omega) (by omega)
  have hsl2 := run_cut (P := Try.prog) 9 Try.underlying9 s f t (by omega) (by omega)
  have hx : (s.extract f t).size ≤ 281474976710656 := by rw [ByteArray.size_extract]; omega
  clear hB hA hO
  go_enter Try.func14, Try.ntmps14
  go_wp2_with fail
  refine (HB.out _).mono ?_
  rintro e w1 ⟨rfl, hb1⟩
  go_wp2_with fail
  go_region_held3 (fun w' => Below w.heap.size w w') (first | exact below_drewOf hb1 | exact below_next (by assumption) hb5)
    ((first
      | (go_at_call 24; refine (HA.out _).mono ?_; rintro e w5 ⟨rfl, hb5⟩)
      | (go_at_call 20; refine (HO.out _).mono ?_; rintro e w5 ⟨rfl, hb5⟩)))
  have hb5' : Below w.heap.size w w5 := by assumption
  go_wp2_with fail
  refine (strClone _ _ hx).mono ?_
  rintro e w6 ⟨rfl, hb6⟩
  go_wp2_with fail
  go_ret3
  exact ⟨rfl, below_next hb5' hb6⟩
theorem lit_166 {c : UInt8} : c = 166 ↔ c.toNat = 166 := by
  constructor
  · rintro rfl; rfl
  · intro h; exact UInt8.toNat_inj.1 (by simpa using h)
theorem sl_at (s : ByteArray) (i : Nat) (h : i < s.size) : (sl s)[i]'(by rw [sl_len]; exact h) = s[i] := rfl
/-- What a text of three results is where an error is told. -/
theorem got_err {R : List UInt8 × Nat × Nat} {c : Nat} (h : R = ([], 0, c)) {w : World} {e : Ending} {w' : World}
    (hc : e = .returned (.tuple #[.string ⟨#[]⟩, .int .i64 0, .int .i64 (c : Int)]) ∧ Below w.heap.size w w') : GotT R w e w' := by
  rw [h]; exact hc
/-- The ways of a frame that is read, each with what is known there. -/
inductive Way (s : ByteArray) (i : Nat) : Prop
  | ended (h : i = s.size) (e : getF (sl s) i = ([], 0, 20)) : Way s i
  | form (h : i < s.size) (h1 : s[i].toNat ≠ 166) (e : getF (sl s) i = ([], 0, 21)) : Way s i
  | err (h : i < s.size) (h1 : s[i].toNat = 166) (n f c : Nat) (hr : rd M1 (sl s) (i + 1) = (n, f, c)) (hc : c ≠ 0) (e : getF (sl s) i = ([], 0, c)) : Way s i
  | long (h : i < s.size) (h1 : s[i].toNat = 166) (n f : Nat) (hr : rd M1 (sl s) (i + 1) = (n, f, 0)) (hn : 8192 < n) (e : getF (sl s) i = ([], 0, 2)) : Way s i
  | short (h : i < s.size) (h1 : s[i].toNat = 166) (n f : Nat) (hr : rd M1 (sl s) (i + 1) = (n, f, 0)) (hn : n ≤ 8192) (hf : f ≤ s.size) (hx : s.size < f + n + 4) (e : getF (sl s) i = ([], 0, 20)) : Way s i
  | sum (h : i < s.size) (h1 : s[i].toNat = 166) (n f : Nat) (hr : rd M1 (sl s) (i + 1) = (n, f, 0)) (hn : n ≤ 8192) (hif : i + 1 < f) (hx : f + n + 4 ≤ s.size)
      (hs : be4 (crc (((sl s).drop i).take (f + n - i))) ≠ ((sl s).drop (f + n)).take 4) (e : getF (sl s) i = ([], 0, 30)) : Way s i
  | ok (h : i < s.size) (h1 : s[i].toNat = 166) (n f : Nat) (hr : rd M1 (sl s) (i + 1) = (n, f, 0)) (hn : n ≤ 8192) (hif : i + 1 < f) (hx : f + n + 4 ≤ s.size)
      (hs : be4 (crc (((sl s).drop i).take (f + n - i))) = ((sl s).drop (f + n)).take 4) (e : getF (sl s) i = (((sl s).drop f).take n, f + n + 4, 0)) : Way s i
theorem ways (s : ByteArray) (i : Nat) (hi : i ≤ s.size) : Way s i := by
  rcases Nat.lt_or_ge i s.size with h | h
  · have hl : i < (sl s).length := by rw [sl_len]; exact h
    by_cases h1 : s[i].toNat = 166
    · have hg := getF_some hl (by rw [sl_at s i h]; exact lit_166.2 h1)
      obtain ⟨⟨n, f, c⟩, hr⟩ : ∃ R, R = rd M1 (sl s) (i + 1) := ⟨_, rfl⟩
      rw [← hr] at hg
      unfold getBody at hg
      dsimp only at hg
      rw [sl_len] at hg
      by_cases hc : c ≠ 0
      · rw [if_pos hc] at hg; exact .err h h1 n f c hr.symm hc hg
      · rw [if_neg hc] at hg
        have hc : c = 0 := by omega
        subst hc
        obtain ⟨g1, g2, g3, g4⟩ := rd_once M1_mod hr.symm
        rw [sl_len] at g2
        by_cases hn : 8192 < n
        · rw [if_pos hn] at hg; exact .long h h1 n f hr.symm hn hg
        · rw [if_neg hn] at hg
          by_cases hx : s.size < f + n + 4
          · rw [if_pos hx] at hg; exact .short h h1 n f hr.symm (by omega) g2 hx hg
          · rw [if_neg hx] at hg
            by_cases hs : be4 (crc (((sl s).drop i).take (f + n - i))) = ((sl s).drop (f + n)).take 4
            · rw [if_pos hs] at hg; exact .ok h h1 n f hr.symm (by omega) g1 (by omega) hs hg
            · rw [if_neg hs] at hg; exact .sum h h1 n f hr.symm (by omega) g1 (by omega) hs hg
    · exact .form h h1 (getF_form hl (by rw [sl_at s i h]; exact fun e => h1 (lit_166.1 e)))
  · exact .ended (by omega) (getF_none (by rw [sl_len]; omega))
theorem reads_of (s : ByteArray) (i n f c : Nat) (hs : s.size ≤ 9223372036854775807) (h : i < s.size) (hr : rd M1 (sl s) (i + 1) = (n, f, c)) : Reads 28 s (i + 1) n f c := by
  intro w
  have := vlqGet_ok s (i + 1) w hs (by omega)
  rw [hr] at this
  exact this
theorem reads_ref (s : ByteArray) (i n f c : Nat) (hs : s.size ≤ 9223372036854775807) (h : i < s.size) (hr : rd M1 (sl s) (i + 1) = (n, f, c)) : Reads 26 s (i + 1) n f c := by
  intro w
  have := refGet_ok s (i + 1) w hs (by omega)
  rw [hr] at this
  exact this
theorem cut_four (s : ByteArray) (i : Nat) (h : i + 4 ≤ s.size) : (((sl s).drop i).take 4).length = 4 := by
  rw [List.length_take, List.length_drop, sl_len]; omega
/-- Package seal's Get, at each place within. -/
theorem sealGet (s : ByteArray) (i : Nat) (hs : s.size ≤ 9223372036854775806) (hi : i ≤ s.size) (w : World) :
    Calls Try.prog 14 #[.string s, .int .i64 i] w (GotT (getF (sl s) i) w) := by
  rcases ways s i hi with ⟨h, e⟩ | ⟨h, h1, e⟩ | ⟨h, h1, n, f, c, hr, hc, e⟩ | ⟨h, h1, n, f, hr, hn, e⟩ | ⟨h, h1, n, f, hr, hn, hf, hx, e⟩ | ⟨h, h1, n, f, hr, hn, hif, hx, hS, e⟩ | ⟨h, h1, n, f, hr, hn, hif, hx, hS, e⟩
  · subst h
    exact (sealGet_err s s.size 20 (by omega) (fun w => bounds_end s w (by omega)) w).mono fun _ _ => got_err e
  · exact (sealGet_err s i 21 (by omega) (fun w => bounds_form s i w (by omega) h h1) w).mono fun _ _ => got_err e
  · exact (sealGet_err s i c (by omega) (fun w => bounds_err s i n f c w hs h h1 (reads_of s i n f c (by omega) h hr) hc) w).mono fun _ _ => got_err e
  · have hle := rd1_le (sl s) (i + 1)
    rw [hr] at hle
    exact (sealGet_err s i 2 (by omega) (fun w => bounds_long s i n f w hs h h1 (reads_of s i n f 0 (by omega) h hr) hn hle) w).mono fun _ _ => got_err e
  · exact (sealGet_err s i 20 (by omega) (fun w => bounds_short s i n f w hs h h1 (reads_of s i n f 0 (by omega) h hr) hn hf hx) w).mono fun _ _ => got_err e
  · have hex : sl (s.extract i (f + n)) = ((sl s).drop i).take (f + n - i) := by rw [cut_eq]
    exact (sealGet_sum s i f (f + n) hs (by omega) (by omega) _ _ (fun w => bounds_ok s i n f w hs h h1 (reads_of s i n f 0 (by omega) h hr) hn hx) (fun w => sealChecksumAt s (f + n) (by omega) (by omega) w)
      (fun w => by have := sealChecksumOf (s.extract i (f + n)) (by rw [ByteArray.size_extract]; omega) w; rw [hex] at this; exact this)
      (fun w => by rw [equal_four _ _ (cut_four s _ (by omega)) (be4_len _)]; congr 1; simpa using fun h => hS h.symm) w).mono fun _ _ => got_err e
  · have hex : sl (s.extract i (f + n)) = ((sl s).drop i).take (f + n - i) := by rw [cut_eq]
    refine (sealGet_body s i f (f + n) hs (by omega) (by omega) (by omega) (by omega) _ _ (fun w => bounds_ok s i n f w hs h h1 (reads_of s i n f 0 (by omega) h hr) hn hx) (fun w => sealChecksumAt s (f + n) (by omega) (by omega) w)
      (fun w => by have := sealChecksumOf (s.extract i (f + n)) (by rw [ByteArray.size_extract]; omega) w; rw [hex] at this; exact this)
      (fun w => by rw [equal_four _ _ (cut_four s _ (by omega)) (be4_len _)]; congr 1; simpa using hS.symm) w).mono ?_
    rintro _ w' ⟨rfl, hb⟩
    rw [e]
    refine ⟨?_, hb⟩
    rw [cut_eq, Nat.add_sub_cancel_left]
    simp
theorem sealGet_bad (s : ByteArray) (i : Int) (w : World) (hs : s.size ≤ 9223372036854775807) (h : i < 0 ∨ (s.size : Int) < i) :
    Calls Try.prog 14 #[.string s, .int .i64 i] w (GotT ([], 0, 1) w) :=
  (sealGet_err s i 1 (by omega) (fun w => bounds_bad s i w hs h) w).mono fun _ _ => got_err rfl
end Go.Proofs.Ytldaflofdbognaa
