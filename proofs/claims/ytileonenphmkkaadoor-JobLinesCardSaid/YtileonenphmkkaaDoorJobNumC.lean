/- The reader's number. -/
import Derived.Test.YtileonenphmkkaaDoorJobNum
namespace Go.Proofs.YtileonenphmkkaaDoor
open Go.RowKit
set_option linter.unusedVariables false
set_option maxRecDepth 8000
namespace Jo
open Gen
open Go.Lib (decDigits)
theorem bsz (l : List UInt8) : (⟨l.toArray⟩ : ByteArray).size = l.length := by rw [Lib.size_eq]
theorem tw_digits (s : List UInt8) : ∀ b ∈ s.takeWhile isD, isD b = true := fun b hb => mem_tw hb
/-- ParseInt of digits: the number, whether it is told as none. -/
def Parsed (n : Nat) (er : Value) (w : World) (e : Ending) (w' : World) : Prop := e = .returned (.tuple #[.int .i64 (n : Int), er]) ∧ Below w.heap.size w w'
theorem jTrim (s : List UInt8) (w : World) : Calls Tryd.prog 53 #[strv s, strv [48, 49, 50, 51, 52, 53, 54, 55, 56, 57]] w (GivesS (s.dropWhile isD) w) := by
  have h := Any.strings_TrimLeft_laid Tryd.lays161 (by kernel_rfl) ⟨s.toArray⟩ ⟨#[48, 49, 50, 51, 52, 53, 54, 55, 56, 57]⟩ w (by decide) (ascii_of_all (by decide))
  rw [show (⟨s.toArray⟩ : ByteArray).data.toList = s from rfl, show (⟨#[48, 49, 50, 51, 52, 53, 54, 55, 56, 57]⟩ : ByteArray).data.toList = [48, 49, 50, 51, 52, 53, 54, 55, 56, 57] from rfl, trimL_isD] at h
  exact h
theorem jSuffix (s : List UInt8) (hs : s.length ≤ 140737488355328) (w : World) : Calls Tryd.prog 54 #[strv s, strv (s.dropWhile isD)] w fun e w' => e = .returned (strv (s.takeWhile isD)) ∧ w' = w := by
  have h := Tryd.strings_TrimSuffix ⟨s.toArray⟩ ⟨(s.dropWhile isD).toArray⟩ w (by have := bsz s; omega)
  rw [show (⟨s.toArray⟩ : ByteArray).data.toList = s from rfl, show (⟨(s.dropWhile isD).toArray⟩ : ByteArray).data.toList = s.dropWhile isD from rfl, trimS_isD] at h
  exact h
theorem parse_ok {l : List UInt8} (hd : ∀ b ∈ l, isD b = true) (h0 : l ≠ []) (hv : val l ≤ 9223372036854775807) (hl : l.length ≤ 140737488355328) (w : World) :
    Calls Tryd.prog 55 #[strv l, .int .i64 10, .int .i64 64] w (Parsed (val l) .nilIface w) := by
  have hp : Lib.parseIntB 64 l = .ok (val l : Int) := by rw [int_digits hd, if_neg h0, if_pos hv]
  have hsz : (⟨l.toArray⟩ : ByteArray).size ≤ 9223372036854775806 := by have := bsz l; omega
  refine (Tryd.strconv_ParseInt_10_at64_ok ⟨l.toArray⟩ hsz _ hp w).mono fun e w' ⟨h1, h2⟩ => ⟨h1, ?_⟩
  rcases h2 with rfl | ⟨t, rfl⟩
  · exact Below.refl _ _
  · exact Lib.bytesWorld_below _ _ _
theorem parse_bad {l : List UInt8} (hd : ∀ b ∈ l, isD b = true) (hv : l = [] ∨ 9223372036854775807 < val l) (hl : l.length ≤ 140737488355328) (w : World) (hw : Vr w) :
    Calls Tryd.prog 55 #[strv l, .int .i64 10, .int .i64 64] w (fun e w' => ∃ n N, n ≤ 9223372036854775807 ∧ Parsed n (.iface 122 (.pointer (some ⟨N, 0, none⟩))) w e w') := by
  have hsz : (⟨l.toArray⟩ : ByteArray).size ≤ 281474976710656 := by have := bsz l; omega
  by_cases h0 : l = []
  · obtain ⟨tp, p, hv2⟩ := hw.syn
    have hp : Lib.parseIntB 64 l = Lib.parseIntB 64 [] := by rw [int_digits hd, if_pos h0]
    refine (Tryd.strconv_ParseInt_10_at64_syntax ⟨l.toArray⟩ hsz hp _ w hv2 (.inr ⟨_, _, rfl⟩)).mono fun e w' ⟨N, h1, _, _, h2⟩ => ⟨0, N, by omega, h1, h2⟩
  · obtain ⟨tp, p, hv2⟩ := hw.rng
    have hp : Lib.parseIntB 64 l = .range := by rw [int_digits hd, if_neg h0, if_neg (by have := hv.resolve_left h0; omega)]
    refine (Tryd.strconv_ParseInt_10_at64_range ⟨l.toArray⟩ hsz hp _ w hv2 (.inr ⟨_, _, rfl⟩)).mono fun e w' ⟨N, h1, _, _, h2⟩ => ⟨9223372036854775807, N, by omega, ?_, h2⟩
    rw [h1, sat_digits hd]
    rfl
theorem mine_two {b : Nat} {w w1 w2 w3 : World} (h1 : Below w.heap.size w w1) (h2 : Mine (· = b) w1 w2) (h3 : Below w2.heap.size w2 w3) : Mine (· = b) w w3 := ((Mine.up h1).trans h2).trans (Mine.up h3)
/-- Where a reader's block lies: above what the listed variables lie in. -/
structure Wh (w0 : World) (b : Nat) (w : World) : Prop where
  vr : Vr w0
  lo : w0.heap.size ≤ b
  bl : Below w0.heap.size w0 w
theorem Wh.now {w0 w : World} {b : Nat} (h : Wh w0 b w) : Vr w := h.vr.next h.bl
theorem Wh.mine {w0 w w' : World} {b : Nat} (h : Wh w0 b w) (hm : Mine (· = b) w w') : Wh w0 b w' := ⟨h.vr, h.lo, Mine.below h.bl hm (fun k hk => hk ▸ h.lo) h.bl.size⟩
theorem numOk_not {s : List UInt8} (h0 : s.takeWhile isD = [] ∨ 9223372036854775807 < val (s.takeWhile isD) ∨ form (s.takeWhile isD) = false) : numOk s = false := by
  unfold numOk
  rcases h0 with h | h | h
  · rw [h]; simp [form]
  · rw [Bool.and_eq_false_iff]; right; exact decide_eq_false (by omega)
  · rw [h, Bool.false_and]
theorem numOk_yes {s : List UInt8} (h : val (s.takeWhile isD) ≤ 9223372036854775807) (h2 : form (s.takeWhile isD) = true) : numOk s = true := by
  unfold numOk
  rw [h2, Bool.true_and]
  exact decide_eq_true h
theorem str_eq {l m : List UInt8} {q : Bool} (h : decide (l = m) = q) : (l == m) = q := by
  rw [← h]
  by_cases h2 : l = m
  · simp [h2]
  · simp [h2]
set_option maxHeartbeats 4000000 in
theorem jNumber (w0 : World) (b : Nat) (s : List UInt8) (k : Nat) (wr : Bool) (w : World) (h : St b s k wr w) (hs : s.length ≤ 140737488355328) (hw : Wh w0 b w) :
    Calls Tryd.prog 38 #[.pointer (some ⟨b, 0, none⟩)] w (Numbered b s k wr w) := by
  have HT := Lib.hid (fun w => jTrim s w)
  have HX := Lib.hid (fun w => jSuffix s hs w)
  have hl : (s.takeWhile isD).length ≤ 140737488355328 := by
    have := congrArg List.length (List.takeWhile_append_dropWhile (p := isD) (l := s))
    rw [List.length_append] at this
    omega
  have hway : (∃ n N, n ≤ 9223372036854775807 ∧ numOk s = false ∧ N = 0) ∨ True := .inr trivial
  clear hway
  obtain ⟨l, hl0⟩ : ∃ l, l = s.takeWhile isD := ⟨_, rfl⟩
  obtain ⟨r, hr0⟩ : ∃ r, r = s.dropWhile isD := ⟨_, rfl⟩
  have hd : ∀ b ∈ l, isD b = true := hl0 ▸ tw_digits s
  have hno : (l = [] ∨ 9223372036854775807 < val l ∨ form l = false) → numOk s = false := by rw [hl0]; exact numOk_not
  have hyes : val l ≤ 9223372036854775807 → form l = true → numOk s = true := by rw [hl0]; exact numOk_yes
  unfold Numbered
  rw [← hl0, ← hr0] at HX ⊢
  rw [← hr0] at HT
  rw [← hl0] at hl
  clear hl0 hr0
  have HL := Lib.hid hl
  have HD := Lib.hid hd
  have HN := Lib.hid hno
  have HY := Lib.hid hyes
  have H0 := Lib.hid h
  have HW := Lib.hid hw
  have c0 := h.cells.1
  have l0 : b < w.heap.size := lt_of_block h
  obtain ⟨ok, hok⟩ : ∃ ok, ok = numOk s := ⟨_, rfl⟩
  rw [← hok] at HN HY ⊢
  clear hl hd hno hyes h hw hok hs
  go_enter Tryd.func38, Tryd.ntmps38
  go_wp2_with fail
  refine (HT.out _).mono ?_
  rintro e w1 ⟨rfl, hb1⟩
  have S1 := Lib.hid (H0.out.below hb1)
  have HB1 := Lib.hid hb1
  have d0 := S1.out.cells.1
  clear hb1
  go_wp2_with fail
  refine (HX.out _).mono ?_
  rintro e w2 ⟨rfl, rfl⟩
  have f0 := S1.out.free 0
  have S2 := Lib.hid (S1.out.set0 r)
  have M2 := Lib.hid ((Mine.up (M := (· = b)) HB1.out).trans (Mine.set (M := (· = b)) w2 (a := ⟨b, 0, none⟩) (strv r) rfl))
  have HW2 := Lib.hid (HW.out.mine M2.out)
  by_cases hbad : l = [] ∨ 9223372036854775807 < val l
  · have HP := Lib.hid (fun w hw => parse_bad HD.out hbad HL.out w hw)
    have hk : ok = false := HN.out (hbad.elim .inl fun h => .inr (.inl h))
    subst hk
    clear hbad
    go_wp2_with fail
    refine (HP.out _ HW2.out.now).mono ?_
    rintro e w3 ⟨n, N, hn, rfl, hb3⟩
    have S3 := Lib.hid (S2.out.below hb3)
    have M3 := Lib.hid (M2.out.trans (Mine.up hb3))
    have HN3 := Lib.hid hn
    have g2 := S3.out.cells.2.2
    have f2 := S3.out.free 2
    clear hb3 hn
    cases wr
    all_goals (
      go_wp2_with fail
      go_ret
      exact ⟨n, rfl, HN3.out, fun h => by (cases h), S3.out.set2 _, M3.out.trans (Mine.set (M := (· = b)) w3 (a := ⟨b, 2, none⟩) _ rfl)⟩)
  · have h0 : l ≠ [] := fun h => hbad (.inl h)
    have hv : val l ≤ 9223372036854775807 := by
      have := fun h => hbad (.inr h)
      omega
    have HP := Lib.hid (fun w => parse_ok HD.out h0 hv HL.out w)
    have HDg := Lib.hid (fun w ht => jDigits (val l) hv w ht)
    have HV := Lib.hid hv
    have hq : ok = decide (l = decDigits (val l)) := by
      cases hf : form l
      · rw [HN.out (.inr (.inr hf))]
        symm
        rw [decide_eq_false_iff_not]
        intro e
        rw [e, dec_form] at hf
        cases hf
      · rw [HY.out hv hf, dec_val l HD.out hf]
        simp
    obtain ⟨n, hn⟩ : ∃ n, n = val l := ⟨_, rfl⟩
    obtain ⟨dg, hdg⟩ : ∃ dg, dg = decDigits n := ⟨_, rfl⟩
    rw [← hn] at HP HDg HV hq
    rw [← hdg] at HDg hq
    have hq2 : (l == dg) = ok := str_eq hq.symm
    have HNV := Lib.hid hn
    clear hbad h0 hv hq hdg hn HD HN HY
    go_wp2_with fail
    refine (HP.out _).mono ?_
    rintro e w3 ⟨rfl, hb3⟩
    have S3 := Lib.hid (S2.out.below hb3)
    have M3 := Lib.hid (M2.out.trans (Mine.up hb3))
    have W3 := Lib.hid (HW.out.mine M3.out)
    have g2 := S3.out.cells.2.2
    have f2 := S3.out.free 2
    clear hb3
    cases wr
    · go_wp2_with fail
      refine (HDg.out _ W3.out.now.tab).mono ?_
      rintro e w4 ⟨rfl, hb4⟩
      have S4 := Lib.hid (S3.out.below hb4)
      have M4 := Lib.hid (M3.out.trans (Mine.up hb4))
      have k2 := S4.out.cells.2.2
      have k3 := S4.out.free 2
      clear hb4
      cases ok
      all_goals (
        go_wp2_with fail
        go_ret
        exact ⟨n, rfl, HV.out, (by first | exact fun _ => HNV.out | exact HNV.out), S4.out.set2 _, M4.out.trans (Mine.set (M := (· = b)) w4 (a := ⟨b, 2, none⟩) _ rfl)⟩)
    · go_wp2_with fail
      go_ret
      exact ⟨n, rfl, HV.out, (by first | exact fun _ => HNV.out | exact HNV.out), S3.out.set2 _, M3.out.trans (Mine.set (M := (· = b)) w3 (a := ⟨b, 2, none⟩) _ rfl)⟩
end Jo
end Go.Proofs.YtileonenphmkkaaDoor
