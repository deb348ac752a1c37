/- GroupBytR, put together. -/
import Derived.Test.YthfbcfddfbipfaaZ39
import Derived.Test.YthfbcfddfbipfaaZ31
import Derived.Test.YthfbcfddfbipfaaZ35
import Derived.Test.YthfbcfddfbipfaaZ5
/- Bytes of the reference of groups. -/
namespace Go.Proofs.Ythfbcfddfbipfaa
open Go.RowKit
open Itm Vlq
set_option linter.unusedVariables false
set_option maxRecDepth 8000
namespace Grp
open Pan (Pn Pl)
theorem strNum {z : Int} (h0 : 0 ≤ z) (h1 : z ≤ 9223372036854775807) : Str 58 (.int .i64 z) (enc z.toNat) 10 := str_of (enc_len _ (by omega)) (rfNum z h0 h1)
theorem strWhole {v : Int} (h1 : -9223372036854775808 ≤ v) (h2 : v ≤ 9223372036854775807) : Str 59 (.int .i64 v) (enc (zz v)) 10 := str_of (enc_len _ (zz_lt h1 h2)) (rfWhole v h1 h2)
/-- What a round of the loop reads. -/
structure ByAt (w0 : World) (p : Nat) (x : Pn) (v : Value) (l : List UInt8) (w : World) : Prop where
  pn : Lies p (paC x) 59 w
  any : Mark.Any w w0.heap.size v l
  below : Below w0.heap.size w0 w
theorem ByAt.next {w0 : World} {p : Nat} {x : Pn} {v : Value} {l : List UInt8} {w w' : World} (h : ByAt w0 p x v l w) (hb : Below w.heap.size w w') : ByAt w0 p x v l w' := ⟨h.pn.below hb, h.any.up hb, below_next h.below hb⟩
set_option maxRecDepth 100000 in
set_option maxHeartbeats 4000000 in
theorem rfBytesG (g : Gp) (A : Option Addr) (c : Nat) (w : World) (hA : Row w A (pc g.ps)) (hr : right g = true) (hf : ∀ x ∈ g.ps, FitP x) :
    Calls Try.prog 25 #[gpV g.no g.mark (.slice A g.ps.length c)] w (IsStr (gpB g) w) := by
  obtain ⟨⟨r1, r2, r3, r4⟩, r5, r6⟩ := (right_iff g).1 hr
  obtain ⟨p1, p2, _⟩ := (Pan.right_iff _).1 r5
  obtain ⟨no, mark, xs⟩ := g
  simp only at r1 r2 r3 r4 p1 p2 hA hf ⊢
  have HA := Lib.hid hA; have HM := Lib.hid p2; have HFT := Lib.hid hf
  obtain ⟨S1, l1, z1, h1⟩ := strNum (z := no) r1 (by omega)
  obtain ⟨S2, l2, z2, h2⟩ := strNum (z := mark) r3 (by omega)
  obtain ⟨S3, l3, z3, h3⟩ := strNum (z := (xs.length : Int)) (by omega) (by omega)
  rw [Int.toNat_natCast] at l3
  have q1 := add_run (a := S1) (b := S2) (by omega)
  have q2 := add_run (a := S1 ++ S2) (b := S3) (by have := app_le z1 z2; omega)
  obtain ⟨hd, hhd⟩ : ∃ hd, hd = enc no.toNat ++ enc mark.toNat ++ enc xs.length := ⟨_, rfl⟩
  have hsl : sl (S1 ++ S2 ++ S3) = hd := by rw [sl_cat, sl_cat, l1, l2, l3, hhd]
  have HHD := Lib.hid hhd
  have HSL := Lib.hid hsl
  have hhl : (S1 ++ S2 ++ S3).size ≤ 30 := app_le (app_le z1 z2) z3
  have HHL := Lib.hid (show hd.length ≤ 30 from by rw [← hsl, sl_len]; exact hhl)
  have HSS := Lib.hid hhl
  have HP := Lib.hid p1
  have H1 := Lib.hid h1; have H2 := Lib.hid h2; have H3 := Lib.hid h3
  have HL0 := Lib.hid (LsAt.start w (gpC no mark (.slice A xs.length c)) 26)
  clear hr hA r1 r2 r3 r4 r5 r6 p1 p2 hf hhd hsl hhl l1 l2 l3 z1 z2 z3 h1 h2 h3
  go_enter Try.func25, Try.ntmps25
  go_wp2_with fail
  refine wide_tail 12 (LsAt w w.heap.size (gpC no mark (.slice A xs.length c)) 26) (by kernel_rfl) (by kernel_rfl) HL0.out ?_
  simp only [List.take_succ_cons, List.take_zero, List.drop_succ_cons, List.drop_zero]
  repeat (first
  | go_big_quiet_skip
  | (go_big_quiet_want
     apply wide_op
     · (intro w5 h5; have x0 := h5.1.cell (j := 0) rfl; have x1 := h5.1.cell (j := 1) rfl; have x2 := h5.1.cell (j := 2) rfl; go_simp; first | done | with_reducible rfl | (refine (H1.out.run _).mono ?_; rintro e w6 ⟨rfl, hb6⟩; exact ⟨rfl, h5.next hb6⟩) | (refine (H2.out.run _).mono ?_; rintro e w6 ⟨rfl, hb6⟩; exact ⟨rfl, h5.next hb6⟩) | (refine (H3.out.run _).mono ?_; rintro e w6 ⟨rfl, hb6⟩; exact ⟨rfl, h5.next hb6⟩))
     (try simp only [Act.put, List.setIfInBounds_toArray, List.set_cons_zero, List.set_cons_succ])
     go_big_quiet_on))
  refine wpQuiet_nil ?_
  intro w6 h6
  have H6 := Lib.hid h6
  obtain ⟨v, w7, hcv, hown, hb7⟩ := Mark.of_string (S1 ++ S2 ++ S3) (by have := HSS.out; omega) w6
  have M7 := Lib.hid (show Mark.Any w7 w.heap.size v hd from (show Mark.Any w7 w6.heap.size v hd from .inl (HSL.out ▸ hown)).mono H6.out.2.size)
  have G7 := Lib.hid (H6.out.next hb7)
  have y2 : w7.cell? ⟨w.heap.size, 2, none⟩ = some (.slice A xs.length c) := G7.out.1.cell (j := 2) rfl
  have hp20 : xs.length ≤ 2000 := HP.out
  clear h6 hown hb7 q1 q2
  go_wp2_with fail
  clear y2 hcv
  go_loopw [3, 22] (fun bv i wr => ∃ k : Nat, i = .int .i64 k ∧ k ≤ xs.length ∧ Mark.Any wr w.heap.size bv (hd ++ (xs.take k).flatMap pnB) ∧ (hd ++ (xs.take k).flatMap pnB).length ≤ 30 + 76 * k ∧ Below w.heap.size w wr) (fun _ i _ => xs.length - (intOf i).toNat)
  case atStart => exact ⟨0, rfl, Nat.zero_le _, by simpa using M7.out, by simpa using HHL.out, G7.out.2⟩
  case round =>
    obtain ⟨k, rfl, hk, hMk, hLk, hBk⟩ := hrel
    have MK := Lib.hid hMk; have LK := Lib.hid hLk; have BK := Lib.hid hBk
    clear hMk hLk hBk
    by_cases hlt : k < xs.length
    · obtain ⟨x, hx⟩ : ∃ x, xs[k]? = some x := ⟨_, List.getElem?_eq_getElem hlt⟩
      obtain ⟨bA, oA, rfl, c0, c1, c2, c3, c4, c5⟩ := (HA.out.below BK.out).pn hx
      obtain ⟨l, hl⟩ : ∃ l, l = hd ++ (xs.take k).flatMap pnB := ⟨_, rfl⟩
      rw [← hl] at MK LK
      have HL := Lib.hid hl
      clear hl
      have hmx := List.mem_of_getElem? hx
      have HT := Lib.hid (show (xs.take (k + 1)).flatMap pnB = (xs.take k).flatMap pnB ++ pnB x by rw [List.take_add_one, hx, List.flatMap_append]; simp)
      have hfx := HFT.out x hmx
      have hpl := pnB_len (HM.out x hmx) hfx
      obtain ⟨m1, m2, m3, m4, m5, m6⟩ := of_decide_eq_true (HM.out x hmx)
      obtain ⟨n1, n2, n3, n4, n5⟩ := hfx
      obtain ⟨T0, l0, z0, t0⟩ := strNum (z := ((x.p.key.length : Nat) : Int)) (by omega) (by omega)
      obtain ⟨T2, l2, z2, t2⟩ := strNum (z := x.p.lo) (by omega) (by omega)
      obtain ⟨T3, l3, z3, t3⟩ := strNum (z := x.p.hi) (by omega) (by omega)
      obtain ⟨T4, l4, z4, t4⟩ := strNum (z := x.acc.n) (by omega) (by omega)
      obtain ⟨T5, l5, z5, t5⟩ := strWhole (v := x.acc.a) n2 n3
      obtain ⟨T6, l6, z6, t6⟩ := strWhole (v := x.acc.b) n4 n5
      rw [Int.toNat_natCast] at l0
      have hks : (kS x.p.key).size ≤ 16 := by rw [kS_size]; exact m2
      have q1 := add_run (a := T0) (b := kS x.p.key) (by omega)
      have q2 := add_run (a := T0 ++ kS x.p.key) (b := T2) (by have := app_le z0 hks; omega)
      have q3 := add_run (a := T0 ++ kS x.p.key ++ T2) (b := T3) (by have := app_le (app_le z0 hks) z2; omega)
      have q4 := add_run (a := T0 ++ kS x.p.key ++ T2 ++ T3) (b := T4) (by have := app_le (app_le (app_le z0 hks) z2) z3; omega)
      have q5 := add_run (a := T0 ++ kS x.p.key ++ T2 ++ T3 ++ T4) (b := T5) (by have := app_le (app_le (app_le (app_le z0 hks) z2) z3) z4; omega)
      have q6 := add_run (a := T0 ++ kS x.p.key ++ T2 ++ T3 ++ T4 ++ T5) (b := T6) (by have := app_le (app_le (app_le (app_le (app_le z0 hks) z2) z3) z4) z5; omega)
      have HSX := Lib.hid (show sl (T0 ++ kS x.p.key ++ T2 ++ T3 ++ T4 ++ T5 ++ T6) = pnB x from by
        rw [sl_cat, sl_cat, sl_cat, sl_cat, sl_cat, sl_cat, l0, l2, l3, l4, l5, l6, show sl (kS x.p.key) = x.p.key from (key_bytes _).1]; rfl)
      have hkl : ((kS x.p.key).size : Int) = ((x.p.key.length : Nat) : Int) := by rw [kS_size]
      have HPL := Lib.hid hpl
      have J0 := Lib.hid t0; have J2 := Lib.hid t2; have J3 := Lib.hid t3; have J4 := Lib.hid t4; have J5 := Lib.hid t5; have J6 := Lib.hid t6
      clear hx hmx hpl m1 m2 m3 m4 m5 m6 n1 n2 n3 n4 n5 l0 l2 l3 l4 l5 l6 z0 z2 z3 z4 z5 z6 t0 t2 t3 t4 t5 t6 hks
      have C0 := Lib.hid (show ByAt w wr.heap.size x u3 l (wr.alloc (.cells (paC x) 59)).drew from ⟨Lies.new wr _ _, MK.out.up (below_drewOf (below_al (Below.refl _ _))), below_drewOf (below_next BK.out (below_al (Below.refl _ _)))⟩)
      go_wp2_with fail
      refine wide_tail 33 (ByAt w wr.heap.size x u3 l) (by kernel_rfl) (by kernel_rfl) C0.out ?_
      simp only [List.take_succ_cons, List.take_zero, List.drop_succ_cons, List.drop_zero]
      repeat (first
      | go_big_quiet_skip
      | (go_big_quiet_want
         apply wide_op
         · (intro w5 h5; have x0 := h5.pn.cell (j := 0) rfl; have x1 := h5.pn.cell (j := 1) rfl; have x2 := h5.pn.cell (j := 2) rfl; have x3 := h5.pn.cell (j := 3) rfl; have x4 := h5.pn.cell (j := 4) rfl; have x5 := h5.pn.cell (j := 5) rfl; go_simp; first | done | with_reducible rfl | (refine (J0.out.run _).mono ?_; rintro e w6 ⟨rfl, hb6⟩; exact ⟨rfl, h5.next hb6⟩) | (refine (J2.out.run _).mono ?_; rintro e w6 ⟨rfl, hb6⟩; exact ⟨rfl, h5.next hb6⟩) | (refine (J3.out.run _).mono ?_; rintro e w6 ⟨rfl, hb6⟩; exact ⟨rfl, h5.next hb6⟩) | (refine (J4.out.run _).mono ?_; rintro e w6 ⟨rfl, hb6⟩; exact ⟨rfl, h5.next hb6⟩) | (refine (J5.out.run _).mono ?_; rintro e w6 ⟨rfl, hb6⟩; exact ⟨rfl, h5.next hb6⟩) | (refine (J6.out.run _).mono ?_; rintro e w6 ⟨rfl, hb6⟩; exact ⟨rfl, h5.next hb6⟩))
         (try simp only [Act.put, List.setIfInBounds_toArray, List.set_cons_zero, List.set_cons_succ])
         go_big_quiet_on))
      refine wpQuiet_nil ?_
      intro w9 h9
      have H9 := Lib.hid h9
      clear h9 q1 q2 q3 q4 q5 q6
      go_wp2_with (at_builtin; refine hold_mk ?_)
      refine hold_out ?_
      refine Mark.wpApp rfl _ _ rfl w.heap.size u3 l rfl H9.out.any (T0 ++ kS x.p.key ++ T2 ++ T3 ++ T4 ++ T5 ++ T6) rfl ?_ H9.out.below.size ?_
      · rw [← sl_len, HSX.out]; have h1 := LK.out; have h2 := HPL.out; omega
      intro v10 w10 hany hb10
      rw [HSX.out] at hany
      have HE := Lib.hid (show l ++ pnB x = hd ++ (xs.take (k + 1)).flatMap pnB from by rw [HT.out, HL.out, List.append_assoc])
      have HAN := Lib.hid hany
      have B10 := Lib.hid (H9.out.below.trans hb10)
      clear hany hb10 c0 c1 c2 c3 c4 c5
      go_wp2_with fail
      go_roundw
      case rel => exact ⟨k + 1, rfl, by omega, by rw [← HE.out]; exact HAN.out, by rw [← HE.out, List.length_append]; have h1 := LK.out; have h2 := HPL.out; omega, B10.out⟩
      case measure => simp [intOf]; omega
    · have hk2 : k = xs.length := by omega
      subst hk2
      have HE := Lib.hid (show hd ++ (xs.take xs.length).flatMap pnB = gpB ⟨no, mark, xs⟩ from by rw [List.take_length, HHD.out]; rfl)
      obtain ⟨A3, c3, rfl, hrow⟩ := MK.out.row
      have hcv := run_row_str (c := c3) (dst := 9) Try.underlying80 Try.underlying5 Try.underlying9 hrow
      rw [HE.out] at hcv
      clear hrow
      obtain ⟨n9, hn9⟩ : ∃ n9, n9 = (gpB ⟨no, mark, xs⟩).length := ⟨_, rfl⟩
      have HGB := Lib.hid (show (hd ++ (xs.take xs.length).flatMap pnB).length = n9 from by rw [HE.out, hn9])
      rw [← hn9] at hcv
      rw [HGB.out]
      clear hn9
      go_wp2_with fail
      go_ret
      exact ⟨rfl, BK.out⟩
end Grp
end Go.Proofs.Ythfbcfddfbipfaa
