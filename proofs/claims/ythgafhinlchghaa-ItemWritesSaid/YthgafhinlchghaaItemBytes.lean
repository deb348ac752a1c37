/- Contract of the reference's bytes of an item. -/
import Derived.Test.YthgafhinlchghaaItemPutIt
namespace Go.Proofs.Ythgafhinlchghaa
open Go.RowKit
open Itm Vlq
set_option linter.unusedVariables false
theorem rfBytes_1 (ek : ByteArray) (ea ev m n lo hi : Int) (rk : ByteArray) (rn rv : Int) (h : right ⟨1, ek, ea, ev, m, n, lo, hi, rk, rn, rv⟩ = true) (hf : Fits ⟨1, ek, ea, ev, m, n, lo, hi, rk, rn, rv⟩) (w : World) : Calls Try.prog 15 #[itV ⟨1, ek, ea, ev, m, n, lo, hi, rk, rn, rv⟩] w (IsStr (itB ⟨1, ek, ea, ev, m, n, lo, hi, rk, rn, rv⟩) w) := by
  obtain ⟨SN, lN, zN, hN⟩ := str_rfnum (z := 1) (by omega) (by omega)
  obtain ⟨p1, p2, p3⟩ : ek.size ≤ 16 ∧ 0 ≤ ea ∧ ea ≤ 1099511627775 := by
    rcases right_parts h with ⟨h1, h2⟩ | ⟨h1, _⟩ | h1 | ⟨h1, _⟩ | ⟨h1, _⟩ <;> simp only at * <;> try omega
    exact ev_parts h2
  obtain ⟨SK, lK, zK, hK⟩ := str_rftext p1
  obtain ⟨SA, lA, zA, hA⟩ := str_rfnum p2 (by omega)
  obtain ⟨SV, lV, zV, hV⟩ := str_whole hf.ev0 hf.ev1
  have hc := Lib.hid (of_sl (show sl (SN ++ SK ++ SA ++ SV) = itB ⟨1, ek, ea, ev, m, n, lo, hi, rk, rn, rv⟩ by rw [sl_cat, sl_cat, sl_cat, lN, lK, lA, lV]; simp [itB, evB]))
  have HX := Lib.hid (box_new ⟨1, ek, ea, ev, m, n, lo, hi, rk, rn, rv⟩ w 29)
  have q1 := add_run (a := SN) (b := SK) (by omega)
  have q2 := add_run (a := SN ++ SK) (b := SA) (by have := app_le zN zK; omega)
  have q3 := add_run (a := SN ++ SK ++ SA) (b := SV) (by have := app_le (app_le zN zK) zA; omega)
  clear h hf p1 p2 p3 lN lK lA lV
  go_enter Try.func15, Try.ntmps15
  go_wp2_with fail
  refine (hN.run _).mono ?_
  rintro e w2 ⟨rfl, hb2⟩
  have hb1 := Lib.hid (below_next (below_al (Below.refl w.heap.size w)) hb2)
  obtain ⟨c0, c1, c2, c3, c4, c5, c6, c7, c8, c9, c10⟩ := (HX.out.keep hb2).cells
  go_wp2_with fail
  have S0 : w2.drew.cell? ⟨w.heap.size, 1, none⟩ = some (.string ek) ∧ w2.drew.cell? ⟨w.heap.size, 2, none⟩ = some (.int .i64 ea) ∧ w2.drew.cell? ⟨w.heap.size, 3, none⟩ = some (.int .i64 ev) ∧ Below w.heap.size w w2.drew := ⟨c1, c2, c3, below_drewOf hb1.out⟩
  clear c0 c1 c2 c3 c4 c5 c6 c7 c8 c9 c10
  go_region_held3 (fun w' => w'.cell? ⟨w.heap.size, 1, none⟩ = some (.string ek) ∧ w'.cell? ⟨w.heap.size, 2, none⟩ = some (.int .i64 ea) ∧ w'.cell? ⟨w.heap.size, 3, none⟩ = some (.int .i64 ev) ∧ Below w.heap.size w w')
    (first | assumption | exact keepB3 hb5 (by assumption))
    ((first | (go_at_call 27; refine (Gives1.run (f := 27) (by assumption) _).mono ?_; rintro e w5 ⟨rfl, hb5⟩) | (go_at_call 26; refine (Gives1.run (f := 26) (by assumption) _).mono ?_; rintro e w5 ⟨rfl, hb5⟩) | (go_at_call 28; refine (Gives1.run (f := 28) (by assumption) _).mono ?_; rintro e w5 ⟨rfl, hb5⟩)))
  rename_i hs
  have hb6 := hs.2.2.2
  clear hs
  go_wp2_with fail
  go_ret
  exact ⟨by rw [← hc.out]; rfl, hb6⟩
theorem rfBytes_2 (ek : ByteArray) (ea ev m n lo hi : Int) (rk : ByteArray) (rn rv : Int) (h : right ⟨2, ek, ea, ev, m, n, lo, hi, rk, rn, rv⟩ = true) (hf : Fits ⟨2, ek, ea, ev, m, n, lo, hi, rk, rn, rv⟩) (w : World) : Calls Try.prog 15 #[itV ⟨2, ek, ea, ev, m, n, lo, hi, rk, rn, rv⟩] w (IsStr (itB ⟨2, ek, ea, ev, m, n, lo, hi, rk, rn, rv⟩) w) := by
  obtain ⟨SN, lN, zN, hN⟩ := str_rfnum (z := 2) (by omega) (by omega)
  obtain ⟨p0, p1⟩ : 0 ≤ m ∧ m ≤ 9223372036854775807 := by
    rcases right_parts h with ⟨h1, _⟩ | ⟨h1, h2, h3⟩ | h1 | ⟨h1, h2, h3⟩ | ⟨h1, _⟩ <;> simp only at * <;> omega
  obtain ⟨SB, lB, zB, hB⟩ := str_rfnum p0 p1
  have hc := Lib.hid (of_sl (show sl (SN ++ SB) = itB ⟨2, ek, ea, ev, m, n, lo, hi, rk, rn, rv⟩ by rw [sl_cat, lN, lB]; simp [itB]))
  have HX := Lib.hid (box_new ⟨2, ek, ea, ev, m, n, lo, hi, rk, rn, rv⟩ w 29)
  have q1 := add_run (a := SN) (b := SB) (by omega)
  clear h hf p0 p1 lN lB
  go_enter Try.func15, Try.ntmps15
  go_wp2_with fail
  refine (hN.run _).mono ?_
  rintro e w2 ⟨rfl, hb2⟩
  have hb1 := Lib.hid (below_next (below_al (Below.refl w.heap.size w)) hb2)
  obtain ⟨c0, c1, c2, c3, c4, c5, c6, c7, c8, c9, c10⟩ := (HX.out.keep hb2).cells
  go_wp2_with fail
  refine (hB.run _).mono ?_
  rintro e w3 ⟨rfl, hb3⟩
  clear c0 c1 c2 c3 c4 c5 c6 c7 c8 c9 c10
  go_wp2_with fail
  go_ret
  exact ⟨by rw [← hc.out]; rfl, below_next hb1.out hb3⟩
theorem rfBytes_3 (ek : ByteArray) (ea ev m n lo hi : Int) (rk : ByteArray) (rn rv : Int) (h : right ⟨3, ek, ea, ev, m, n, lo, hi, rk, rn, rv⟩ = true) (hf : Fits ⟨3, ek, ea, ev, m, n, lo, hi, rk, rn, rv⟩) (w : World) : Calls Try.prog 15 #[itV ⟨3, ek, ea, ev, m, n, lo, hi, rk, rn, rv⟩] w (IsStr (itB ⟨3, ek, ea, ev, m, n, lo, hi, rk, rn, rv⟩) w) := by
  obtain ⟨SN, lN, zN, hN⟩ := str_rfnum (z := 3) (by omega) (by omega)
  have hc := Lib.hid (of_sl (show sl (SN) = itB ⟨3, ek, ea, ev, m, n, lo, hi, rk, rn, rv⟩ by rw [lN]; simp [itB]))
  have HX := Lib.hid (box_new ⟨3, ek, ea, ev, m, n, lo, hi, rk, rn, rv⟩ w 29)
  clear h hf lN
  go_enter Try.func15, Try.ntmps15
  go_wp2_with fail
  refine (hN.run _).mono ?_
  rintro e w2 ⟨rfl, hb2⟩
  have hb1 := Lib.hid (below_next (below_al (Below.refl w.heap.size w)) hb2)
  obtain ⟨c0, c1, c2, c3, c4, c5, c6, c7, c8, c9, c10⟩ := (HX.out.keep hb2).cells
  go_wp2_with fail
  go_ret
  exact ⟨by rw [← hc.out]; rfl, hb1.out⟩
theorem rfBytes_4 (ek : ByteArray) (ea ev m n lo hi : Int) (rk : ByteArray) (rn rv : Int) (h : right ⟨4, ek, ea, ev, m, n, lo, hi, rk, rn, rv⟩ = true) (hf : Fits ⟨4, ek, ea, ev, m, n, lo, hi, rk, rn, rv⟩) (w : World) : Calls Try.prog 15 #[itV ⟨4, ek, ea, ev, m, n, lo, hi, rk, rn, rv⟩] w (IsStr (itB ⟨4, ek, ea, ev, m, n, lo, hi, rk, rn, rv⟩) w) := by
  obtain ⟨SN, lN, zN, hN⟩ := str_rfnum (z := 4) (by omega) (by omega)
  obtain ⟨p0, p1⟩ : 0 ≤ n ∧ n ≤ 9223372036854775807 := by
    rcases right_parts h with ⟨h1, _⟩ | ⟨h1, h2, h3⟩ | h1 | ⟨h1, h2, h3⟩ | ⟨h1, _⟩ <;> simp only at * <;> omega
  obtain ⟨SB, lB, zB, hB⟩ := str_rfnum p0 p1
  have hc := Lib.hid (of_sl (show sl (SN ++ SB) = itB ⟨4, ek, ea, ev, m, n, lo, hi, rk, rn, rv⟩ by rw [sl_cat, lN, lB]; simp [itB]))
  have HX := Lib.hid (box_new ⟨4, ek, ea, ev, m, n, lo, hi, rk, rn, rv⟩ w 29)
  have q1 := add_run (a := SN) (b := SB) (by omega)
  clear h hf p0 p1 lN lB
  go_enter Try.func15, Try.ntmps15
  go_wp2_with fail
  refine (hN.run _).mono ?_
  rintro e w2 ⟨rfl, hb2⟩
  have hb1 := Lib.hid (below_next (below_al (Below.refl w.heap.size w)) hb2)
  obtain ⟨c0, c1, c2, c3, c4, c5, c6, c7, c8, c9, c10⟩ := (HX.out.keep hb2).cells
  go_wp2_with fail
  refine (hB.run _).mono ?_
  rintro e w3 ⟨rfl, hb3⟩
  clear c0 c1 c2 c3 c4 c5 c6 c7 c8 c9 c10
  go_wp2_with fail
  go_ret
  exact ⟨by rw [← hc.out]; rfl, below_next hb1.out hb3⟩
theorem rfBytes_5 (ek : ByteArray) (ea ev m n lo hi : Int) (rk : ByteArray) (rn rv : Int) (h : right ⟨5, ek, ea, ev, m, n, lo, hi, rk, rn, rv⟩ = true) (hf : Fits ⟨5, ek, ea, ev, m, n, lo, hi, rk, rn, rv⟩) (w : World) : Calls Try.prog 15 #[itV ⟨5, ek, ea, ev, m, n, lo, hi, rk, rn, rv⟩] w (IsStr (itB ⟨5, ek, ea, ev, m, n, lo, hi, rk, rn, rv⟩) w) := by
  obtain ⟨SN, lN, zN, hN⟩ := str_rfnum (z := 5) (by omega) (by omega)
  obtain ⟨p1, p2, p3, p4, p5, p6⟩ : rk.size ≤ 16 ∧ 0 ≤ lo ∧ lo < hi ∧ hi ≤ 1099511627776 ∧ 1 ≤ rn ∧ rn ≤ 1073741824 := by
    rcases right_parts h with ⟨h1, _⟩ | ⟨h1, _⟩ | h1 | ⟨h1, _⟩ | ⟨h1, h2⟩ <;> simp only at * <;> try omega
    exact res_parts h2
  obtain ⟨SK, lK, zK, hK⟩ := str_rftext p1
  obtain ⟨SL, lL, zL, hL⟩ := str_rfnum p2 (by omega)
  obtain ⟨SH, lH, zH, hH⟩ := str_rfnum (z := hi) (by omega) (by omega)
  obtain ⟨SM, lM, zM, hM⟩ := str_rfnum (z := rn) (by omega) (by omega)
  obtain ⟨SV, lV, zV, hV⟩ := str_whole hf.rv0 hf.rv1
  have hc := Lib.hid (of_sl (show sl (SN ++ SK ++ SL ++ SH ++ SM ++ SV) = itB ⟨5, ek, ea, ev, m, n, lo, hi, rk, rn, rv⟩ by rw [sl_cat, sl_cat, sl_cat, sl_cat, sl_cat, lN, lK, lL, lH, lM, lV]; simp [itB, resB]))
  have HX := Lib.hid (box_new ⟨5, ek, ea, ev, m, n, lo, hi, rk, rn, rv⟩ w 29)
  have q1 := add_run (a := SN) (b := SK) (by omega)
  have q2 := add_run (a := SN ++ SK) (b := SL) (by have := app_le zN zK; omega)
  have q3 := add_run (a := SN ++ SK ++ SL) (b := SH) (by have := app_le (app_le zN zK) zL; omega)
  have q4 := add_run (a := SN ++ SK ++ SL ++ SH) (b := SM) (by have := app_le (app_le (app_le zN zK) zL) zH; omega)
  have q5 := add_run (a := SN ++ SK ++ SL ++ SH ++ SM) (b := SV) (by have := app_le (app_le (app_le (app_le zN zK) zL) zH) zM; omega)
  clear h hf p1 p2 p3 p4 p5 p6 lN lK lL lH lM lV
  go_enter Try.func15, Try.ntmps15
  go_wp2_with fail
  refine (hN.run _).mono ?_
  rintro e w2 ⟨rfl, hb2⟩
  have hb1 := Lib.hid (below_next (below_al (Below.refl w.heap.size w)) hb2)
  obtain ⟨c0, c1, c2, c3, c4, c5, c6, c7, c8, c9, c10⟩ := (HX.out.keep hb2).cells
  go_wp2_with fail
  have S0 : w2.drew.cell? ⟨w.heap.size, 6, none⟩ = some (.int .i64 lo) ∧ w2.drew.cell? ⟨w.heap.size, 7, none⟩ = some (.int .i64 hi) ∧ w2.drew.cell? ⟨w.heap.size, 8, none⟩ = some (.string rk) ∧ w2.drew.cell? ⟨w.heap.size, 9, none⟩ = some (.int .i64 rn) ∧ w2.drew.cell? ⟨w.heap.size, 10, none⟩ = some (.int .i64 rv) ∧ Below w.heap.size w w2.drew := ⟨c6, c7, c8, c9, c10, below_drewOf hb1.out⟩
  clear c0 c1 c2 c3 c4 c5 c6 c7 c8 c9 c10
  go_region_held3 (fun w' => w'.cell? ⟨w.heap.size, 6, none⟩ = some (.int .i64 lo) ∧ w'.cell? ⟨w.heap.size, 7, none⟩ = some (.int .i64 hi) ∧ w'.cell? ⟨w.heap.size, 8, none⟩ = some (.string rk) ∧ w'.cell? ⟨w.heap.size, 9, none⟩ = some (.int .i64 rn) ∧ w'.cell? ⟨w.heap.size, 10, none⟩ = some (.int .i64 rv) ∧ Below w.heap.size w w')
    (first | assumption | exact keepB5 hb5 (by assumption))
    ((first | (go_at_call 27; refine (Gives1.run (f := 27) (by assumption) _).mono ?_; rintro e w5 ⟨rfl, hb5⟩) | (go_at_call 26; refine (Gives1.run (f := 26) (by assumption) _).mono ?_; rintro e w5 ⟨rfl, hb5⟩) | (go_at_call 28; refine (Gives1.run (f := 28) (by assumption) _).mono ?_; rintro e w5 ⟨rfl, hb5⟩)))
  rename_i hs
  have hb6 := hs.2.2.2.2.2
  clear hs
  go_wp2_with fail
  go_ret
  exact ⟨by rw [← hc.out]; rfl, hb6⟩
theorem rfBytes (a : It) (h : right a = true) (hf : Fits a) (w : World) : Calls Try.prog 15 #[itV a] w (IsStr (itB a) w) := by
  obtain ⟨k, ek, ea, ev, m, n, lo, hi, rk, rn, rv⟩ := a
  rcases right_parts h with ⟨h1, _⟩ | ⟨h1, _⟩ | h1 | ⟨h1, _⟩ | ⟨h1, _⟩
  · obtain rfl : k = 1 := h1
    exact rfBytes_1 ek ea ev m n lo hi rk rn rv h hf w
  · obtain rfl : k = 2 := h1
    exact rfBytes_2 ek ea ev m n lo hi rk rn rv h hf w
  · obtain rfl : k = 3 := h1
    exact rfBytes_3 ek ea ev m n lo hi rk rn rv h hf w
  · obtain rfl : k = 4 := h1
    exact rfBytes_4 ek ea ev m n lo hi rk rn rv h hf w
  · obtain rfl : k = 5 := h1
    exact rfBytes_5 ek ea ev m n lo hi rk rn rv h hf w
end Go.Proofs.Ythgafhinlchghaa
