/- Contracts of Put and of the reference's bytes. -/
import Derived.Test.YthgafhinlchghaaItemPutRes
namespace Go.Proofs.Ythgafhinlchghaa
open Go.RowKit
open Itm Vlq
set_option linter.unusedVariables false
/-- The item lies in block g. -/
def Box (g : Nat) (a : It) (w : World) : Prop := ∀ (j : Nat) (v : Value), (itC a)[j]? = some v → w.cell? ⟨g, j, none⟩ = some v
theorem Box.keep {g : Nat} {a : It} {u w : World} (h : Box g a u) (hb : Below u.heap.size u w) : Box g a w := fun j v hv => keep1 hb (h j v hv)
theorem Box.cells {g : Nat} {a : It} {w : World} (h : Box g a w) : w.cell? ⟨g, 0, none⟩ = some (.int .i64 a.k) ∧ w.cell? ⟨g, 1, none⟩ = some (.string a.ek) ∧ w.cell? ⟨g, 2, none⟩ = some (.int .i64 a.ea) ∧ w.cell? ⟨g, 3, none⟩ = some (.int .i64 a.ev) ∧ w.cell? ⟨g, 4, none⟩ = some (.int .i64 a.m) ∧ w.cell? ⟨g, 5, none⟩ = some (.int .i64 a.n) ∧ w.cell? ⟨g, 6, none⟩ = some (.int .i64 a.lo) ∧ w.cell? ⟨g, 7, none⟩ = some (.int .i64 a.hi) ∧ w.cell? ⟨g, 8, none⟩ = some (.string a.rk) ∧ w.cell? ⟨g, 9, none⟩ = some (.int .i64 a.rn) ∧ w.cell? ⟨g, 10, none⟩ = some (.int .i64 a.rv) :=
  ⟨h 0 _ rfl, h 1 _ rfl, h 2 _ rfl, h 3 _ rfl, h 4 _ rfl, h 5 _ rfl, h 6 _ rfl, h 7 _ rfl, h 8 _ rfl, h 9 _ rfl, h 10 _ rfl⟩
theorem box_new (a : It) (w : World) (t : TypeId) : Box w.heap.size a (w.alloc (.cells (itC a) t)) := fun j v hv => by
  unfold World.cell?
  rw [show (w.alloc (.cells (itC a) t)).heap[w.heap.size]? = _ from heap_alloc_new w _]
  exact hv
/-- The bytes of an item that may be. -/
def itB (a : It) : List UInt8 := enc a.k.toNat ++ (if a.k = 1 then evB a.ek a.ea a.ev else if a.k = 2 then enc a.m.toNat else if a.k = 4 then enc a.n.toNat else if a.k = 5 then resB a.rk a.lo a.hi a.rn a.rv else [])
/-- Its numbers are such as an int64 has. -/
structure Fits (a : It) : Prop where
  ev0 : -9223372036854775808 ≤ a.ev
  ev1 : a.ev ≤ 9223372036854775807
  rv0 : -9223372036854775808 ≤ a.rv
  rv1 : a.rv ≤ 9223372036854775807
theorem wn_iff {n lo hi : Int} : wn n lo hi = true ↔ lo ≤ n ∧ n ≤ hi := by unfold wn; exact decide_eq_true_iff
theorem key_le {k : ByteArray} (h : okKey k = true) : k.size ≤ 16 := by have := (wn_iff.1 h).2; omega
theorem ev_parts {k : ByteArray} {a : Int} (h : okEv k a = true) : k.size ≤ 16 ∧ 0 ≤ a ∧ a ≤ 1099511627775 := by
  unfold okEv at h
  rw [Bool.and_eq_true] at h
  exact ⟨key_le h.1, wn_iff.1 h.2⟩
theorem res_parts {k : ByteArray} {lo hi n : Int} (h : okRes k lo hi n = true) : k.size ≤ 16 ∧ 0 ≤ lo ∧ lo < hi ∧ hi ≤ 1099511627776 ∧ 1 ≤ n ∧ n ≤ 1073741824 := by
  unfold okRes at h
  simp only [Bool.and_eq_true, decide_eq_true_eq] at h
  obtain ⟨⟨⟨⟨h1, h2⟩, h3⟩, h4⟩, h5⟩ := h
  exact ⟨key_le h1, h2, h3, h4, wn_iff.1 h5⟩
/-- What an item that may be is like. -/
theorem right_parts {a : It} (h : right a = true) : (a.k = 1 ∧ okEv a.ek a.ea = true) ∨ (a.k = 2 ∧ 0 ≤ a.m ∧ a.m ≤ 1099511627776) ∨ a.k = 3 ∨ (a.k = 4 ∧ 1 ≤ a.n ∧ a.n ≤ 1073741824) ∨ (a.k = 5 ∧ okRes a.rk a.lo a.hi a.rn = true) := by
  unfold right at h
  split at h
  · rw [Bool.and_eq_true] at h; exact .inl ⟨by assumption, h.1⟩
  · split at h
    · rw [Bool.and_eq_true] at h; exact .inr (.inl ⟨by assumption, wn_iff.1 h.1⟩)
    · split at h
      · exact .inr (.inr (.inl (by assumption)))
      · split at h
        · rw [Bool.and_eq_true] at h; exact .inr (.inr (.inr (.inl ⟨by assumption, wn_iff.1 h.1⟩)))
        · split at h
          · rw [Bool.and_eq_true] at h; exact .inr (.inr (.inr (.inr ⟨by assumption, h.1⟩)))
          · cases h
theorem itPut_not (a : It) (h : right a = false) (w : World) : Calls Try.prog 14 #[itV a] w (IsStrErr [] 1 w) := by
  have HR := Lib.hid (fun w => itRight a w)
  have hr := h
  go_enter Try.func14, Try.ntmps14
  go_wp2_with fail
  refine (HR.out _).mono ?_
  rintro e w2 ⟨rfl, hb⟩
  go_wp2_with fail
  go_ret2
  exact ⟨rfl, below_next (below_al (Below.refl _ _)) hb⟩
/-- A part of an item, given as a string. -/
theorem part_ev {a : It} (h : right a = true) (hk : a.k = 1) (hf : Fits a) : Str 24 (evV a.ek a.ea a.ev) (evB a.ek a.ea a.ev) 46 := by
  rcases right_parts h with ⟨h1, h2⟩ | ⟨h1, _⟩ | h1 | ⟨h1, _⟩ | ⟨h1, _⟩ <;> try omega
  obtain ⟨p1, p2, p3⟩ := ev_parts h2
  refine str_of ?_ (itPutEvent a.ek a.ea a.ev p1 p2 (by omega) hf.ev0 hf.ev1)
  have e1 := txt_len p1
  have e2 := enc_len a.ea.toNat (by omega)
  have e3 := enc_len (zz a.ev) (zz_lt hf.ev0 hf.ev1)
  unfold evB
  rw [List.length_append, List.length_append]; omega
theorem part_res {a : It} (h : right a = true) (hk : a.k = 5) (hf : Fits a) : Str 25 (resV a.lo a.hi a.rk a.rn a.rv) (resB a.rk a.lo a.hi a.rn a.rv) 66 := by
  rcases right_parts h with ⟨h1, _⟩ | ⟨h1, _⟩ | h1 | ⟨h1, _⟩ | ⟨h1, h2⟩ <;> try omega
  obtain ⟨p1, p2, p3, p4, p5, p6⟩ := res_parts h2
  refine str_of ?_ (itPutResult a.lo a.hi a.rk a.rn a.rv p1 p2 (by omega) (by omega) p4 (by omega) (by omega) hf.rv0 hf.rv1)
  have e1 := txt_len p1
  have e2 := enc_len a.lo.toNat (by omega)
  have e3 := enc_len a.hi.toNat (by omega)
  have e4 := enc_len a.rn.toNat (by omega)
  have e5 := enc_len (zz a.rv) (zz_lt hf.rv0 hf.rv1)
  unfold resB
  rw [List.length_append, List.length_append, List.length_append, List.length_append]; omega
theorem part_m {a : It} (h : right a = true) (hk : a.k = 2) : Str 23 (.int .i64 a.m) (enc a.m.toNat) 10 := by
  rcases right_parts h with ⟨h1, _⟩ | ⟨h1, h2, h3⟩ | h1 | ⟨h1, _⟩ | ⟨h1, _⟩ <;> try omega
  exact str_num h2 (by omega)
theorem part_n {a : It} (h : right a = true) (hk : a.k = 4) : Str 23 (.int .i64 a.n) (enc a.n.toNat) 10 := by
  rcases right_parts h with ⟨h1, _⟩ | ⟨h1, _⟩ | h1 | ⟨h1, h2, h3⟩ | ⟨h1, _⟩ <;> try omega
  exact str_num (by omega) (by omega)
theorem itPut_1 (ek : ByteArray) (ea ev m n lo hi : Int) (rk : ByteArray) (rn rv : Int) (h : right ⟨1, ek, ea, ev, m, n, lo, hi, rk, rn, rv⟩ = true) (hf : Fits ⟨1, ek, ea, ev, m, n, lo, hi, rk, rn, rv⟩) (w : World) : Calls Try.prog 14 #[itV ⟨1, ek, ea, ev, m, n, lo, hi, rk, rn, rv⟩] w (IsStrErr (itB ⟨1, ek, ea, ev, m, n, lo, hi, rk, rn, rv⟩) 0 w) := by
  obtain ⟨SK, lK, zK, hK⟩ := str_num (z := 1) (by omega) (by omega)
  obtain ⟨SB, lB, zB, hB⟩ := part_ev h rfl hf
  have hc := Lib.hid (of_sl (show sl (SK ++ SB) = itB ⟨1, ek, ea, ev, m, n, lo, hi, rk, rn, rv⟩ by rw [sl_cat, lK, lB]; simp [itB]))
  have HR := Lib.hid (fun w => itRight ⟨1, ek, ea, ev, m, n, lo, hi, rk, rn, rv⟩ w)
  have HK := Lib.hid hK.run; have HB := Lib.hid hB.run
  have q1 := add_run (a := SK) (b := SB) (by omega)
  have hn := box_new ⟨1, ek, ea, ev, m, n, lo, hi, rk, rn, rv⟩ w 29
  have hr := h
  clear lK lB hK hB h hf
  have HN := Lib.hid hn
  clear hn
  go_enter Try.func14, Try.ntmps14
  go_wp2_with fail
  refine (HR.out _).mono ?_
  rintro e w2 ⟨rfl, hb2⟩
  obtain ⟨c0, c1, c2, c3, c4, c5, c6, c7, c8, c9, c10⟩ := (HN.out.keep hb2).cells
  have H2 := Lib.hid (HN.out.keep hb2)
  go_wp2_with fail
  refine (HK.out _).mono ?_
  rintro e w3 ⟨rfl, hb3⟩
  clear c0 c1 c2 c3 c4 c5 c6 c7 c8 c9 c10
  obtain ⟨c0, c1, c2, c3, c4, c5, c6, c7, c8, c9, c10⟩ := (H2.out.keep hb3).cells
  go_wp2_with fail
  refine (HB.out _).mono ?_
  rintro e w4 ⟨rfl, hb4⟩
  clear c0 c1 c2 c3 c4 c5 c6 c7 c8 c9 c10
  go_wp2_with fail
  go_ret2
  exact ⟨by rw [← hc.out]; rfl, below_next (below_next (below_next (below_al (Below.refl _ _)) hb2) hb3) hb4⟩
theorem itPut_2 (ek : ByteArray) (ea ev m n lo hi : Int) (rk : ByteArray) (rn rv : Int) (h : right ⟨2, ek, ea, ev, m, n, lo, hi, rk, rn, rv⟩ = true) (hf : Fits ⟨2, ek, ea, ev, m, n, lo, hi, rk, rn, rv⟩) (w : World) : Calls Try.prog 14 #[itV ⟨2, ek, ea, ev, m, n, lo, hi, rk, rn, rv⟩] w (IsStrErr (itB ⟨2, ek, ea, ev, m, n, lo, hi, rk, rn, rv⟩) 0 w) := by
  obtain ⟨SK, lK, zK, hK⟩ := str_num (z := 2) (by omega) (by omega)
  obtain ⟨SB, lB, zB, hB⟩ := part_m h rfl
  have hc := Lib.hid (of_sl (show sl (SK ++ SB) = itB ⟨2, ek, ea, ev, m, n, lo, hi, rk, rn, rv⟩ by rw [sl_cat, lK, lB]; simp [itB]))
  have HR := Lib.hid (fun w => itRight ⟨2, ek, ea, ev, m, n, lo, hi, rk, rn, rv⟩ w)
  have HK := Lib.hid hK.run; have HB := Lib.hid hB.run
  have q1 := add_run (a := SK) (b := SB) (by omega)
  have hn := box_new ⟨2, ek, ea, ev, m, n, lo, hi, rk, rn, rv⟩ w 29
  have hr := h
  clear lK lB hK hB h hf
  have HN := Lib.hid hn
  clear hn
  go_enter Try.func14, Try.ntmps14
  go_wp2_with fail
  refine (HR.out _).mono ?_
  rintro e w2 ⟨rfl, hb2⟩
  obtain ⟨c0, c1, c2, c3, c4, c5, c6, c7, c8, c9, c10⟩ := (HN.out.keep hb2).cells
  have H2 := Lib.hid (HN.out.keep hb2)
  go_wp2_with fail
  refine (HK.out _).mono ?_
  rintro e w3 ⟨rfl, hb3⟩
  clear c0 c1 c2 c3 c4 c5 c6 c7 c8 c9 c10
  obtain ⟨c0, c1, c2, c3, c4, c5, c6, c7, c8, c9, c10⟩ := (H2.out.keep hb3).cells
  go_wp2_with fail
  refine (HB.out _).mono ?_
  rintro e w4 ⟨rfl, hb4⟩
  clear c0 c1 c2 c3 c4 c5 c6 c7 c8 c9 c10
  go_wp2_with fail
  go_ret2
  exact ⟨by rw [← hc.out]; rfl, below_next (below_next (below_next (below_al (Below.refl _ _)) hb2) hb3) hb4⟩
theorem itPut_4 (ek : ByteArray) (ea ev m n lo hi : Int) (rk : ByteArray) (rn rv : Int) (h : right ⟨4, ek, ea, ev, m, n, lo, hi, rk, rn, rv⟩ = true) (hf : Fits ⟨4, ek, ea, ev, m, n, lo, hi, rk, rn, rv⟩) (w : World) : Calls Try.prog 14 #[itV ⟨4, ek, ea, ev, m, n, lo, hi, rk, rn, rv⟩] w (IsStrErr (itB ⟨4, ek, ea, ev, m, n, lo, hi, rk, rn, rv⟩) 0 w) := by
  obtain ⟨SK, lK, zK, hK⟩ := str_num (z := 4) (by omega) (by omega)
  obtain ⟨SB, lB, zB, hB⟩ := part_n h rfl
  have hc := Lib.hid (of_sl (show sl (SK ++ SB) = itB ⟨4, ek, ea, ev, m, n, lo, hi, rk, rn, rv⟩ by rw [sl_cat, lK, lB]; simp [itB]))
  have HR := Lib.hid (fun w => itRight ⟨4, ek, ea, ev, m, n, lo, hi, rk, rn, rv⟩ w)
  have HK := Lib.hid hK.run; have HB := Lib.hid hB.run
  have q1 := add_run (a := SK) (b := SB) (by omega)
  have hn := box_new ⟨4, ek, ea, ev, m, n, lo, hi, rk, rn, rv⟩ w 29
  have hr := h
  clear lK lB hK hB h hf
  have HN := Lib.hid hn
  clear hn
  go_enter Try.func14, Try.ntmps14
  go_wp2_with fail
  refine (HR.out _).mono ?_
  rintro e w2 ⟨rfl, hb2⟩
  obtain ⟨c0, c1, c2, c3, c4, c5, c6, c7, c8, c9, c10⟩ := (HN.out.keep hb2).cells
  have H2 := Lib.hid (HN.out.keep hb2)
  go_wp2_with fail
  refine (HK.out _).mono ?_
  rintro e w3 ⟨rfl, hb3⟩
  clear c0 c1 c2 c3 c4 c5 c6 c7 c8 c9 c10
  obtain ⟨c0, c1, c2, c3, c4, c5, c6, c7, c8, c9, c10⟩ := (H2.out.keep hb3).cells
  go_wp2_with fail
  refine (HB.out _).mono ?_
  rintro e w4 ⟨rfl, hb4⟩
  clear c0 c1 c2 c3 c4 c5 c6 c7 c8 c9 c10
  go_wp2_with fail
  go_ret2
  exact ⟨by rw [← hc.out]; rfl, below_next (below_next (below_next (below_al (Below.refl _ _)) hb2) hb3) hb4⟩
theorem itPut_5 (ek : ByteArray) (ea ev m n lo hi : Int) (rk : ByteArray) (rn rv : Int) (h : right ⟨5, ek, ea, ev, m, n, lo, hi, rk, rn, rv⟩ = true) (hf : Fits ⟨5, ek, ea, ev, m, n, lo, hi, rk, rn, rv⟩) (w : World) : Calls Try.prog 14 #[itV ⟨5, ek, ea, ev, m, n, lo, hi, rk, rn, rv⟩] w (IsStrErr (itB ⟨5, ek, ea, ev, m, n, lo, hi, rk, rn, rv⟩) 0 w) := by
  obtain ⟨SK, lK, zK, hK⟩ := str_num (z := 5) (by omega) (by omega)
  obtain ⟨SB, lB, zB, hB⟩ := part_res h rfl hf
  have hc := Lib.hid (of_sl (show sl (SK ++ SB) = itB ⟨5, ek, ea, ev, m, n, lo, hi, rk, rn, rv⟩ by rw [sl_cat, lK, lB]; simp [itB]))
  have HR := Lib.hid (fun w => itRight ⟨5, ek, ea, ev, m, n, lo, hi, rk, rn, rv⟩ w)
  have HK := Lib.hid hK.run; have HB := Lib.hid hB.run
  have q1 := add_run (a := SK) (b := SB) (by omega)
  have hn := box_new ⟨5, ek, ea, ev, m, n, lo, hi, rk, rn, rv⟩ w 29
  have hr := h
  clear lK lB hK hB h hf
  have HN := Lib.hid hn
  clear hn
  go_enter Try.func14, Try.ntmps14
  go_wp2_with fail
  refine (HR.out _).mono ?_
  rintro e w2 ⟨rfl, hb2⟩
  obtain ⟨c0, c1, c2, c3, c4, c5, c6, c7, c8, c9, c10⟩ := (HN.out.keep hb2).cells
  have H2 := Lib.hid (HN.out.keep hb2)
  go_wp2_with fail
  refine (HK.out _).mono ?_
  rintro e w3 ⟨rfl, hb3⟩
  clear c0 c1 c2 c3 c4 c5 c6 c7 c8 c9 c10
  obtain ⟨c0, c1, c2, c3, c4, c5, c6, c7, c8, c9, c10⟩ := (H2.out.keep hb3).cells
  go_wp2_with fail
  refine (HB.out _).mono ?_
  rintro e w4 ⟨rfl, hb4⟩
  clear c0 c1 c2 c3 c4 c5 c6 c7 c8 c9 c10
  go_wp2_with fail
  go_ret2
  exact ⟨by rw [← hc.out]; rfl, below_next (below_next (below_next (below_al (Below.refl _ _)) hb2) hb3) hb4⟩
theorem itPut_3 (ek : ByteArray) (ea ev m n lo hi : Int) (rk : ByteArray) (rn rv : Int) (h : right ⟨3, ek, ea, ev, m, n, lo, hi, rk, rn, rv⟩ = true) (w : World) : Calls Try.prog 14 #[itV ⟨3, ek, ea, ev, m, n, lo, hi, rk, rn, rv⟩] w (IsStrErr (itB ⟨3, ek, ea, ev, m, n, lo, hi, rk, rn, rv⟩) 0 w) := by
  obtain ⟨SK, lK, zK, hK⟩ := str_num (z := 3) (by omega) (by omega)
  have hc := Lib.hid (of_sl (show sl SK = itB ⟨3, ek, ea, ev, m, n, lo, hi, rk, rn, rv⟩ by rw [lK]; simp [itB]))
  have HR := Lib.hid (fun w => itRight ⟨3, ek, ea, ev, m, n, lo, hi, rk, rn, rv⟩ w)
  have HK := Lib.hid hK.run
  have hr := h
  have HN := Lib.hid (box_new ⟨3, ek, ea, ev, m, n, lo, hi, rk, rn, rv⟩ w 29)
  clear lK hK h
  go_enter Try.func14, Try.ntmps14
  go_wp2_with fail
  refine (HR.out _).mono ?_
  rintro e w2 ⟨rfl, hb2⟩
  obtain ⟨c0, c1, c2, c3, c4, c5, c6, c7, c8, c9, c10⟩ := (HN.out.keep hb2).cells
  have H2 := Lib.hid (HN.out.keep hb2)
  go_wp2_with fail
  refine (HK.out _).mono ?_
  rintro e w3 ⟨rfl, hb3⟩
  clear c0 c1 c2 c3 c4 c5 c6 c7 c8 c9 c10
  obtain ⟨c0, c1, c2, c3, c4, c5, c6, c7, c8, c9, c10⟩ := (H2.out.keep hb3).cells
  go_wp2_with fail
  go_ret2
  exact ⟨by rw [← hc.out]; rfl, below_next (below_next (below_al (Below.refl _ _)) hb2) hb3⟩
theorem itPut_ok (a : It) (h : right a = true) (hf : Fits a) (w : World) : Calls Try.prog 14 #[itV a] w (IsStrErr (itB a) 0 w) := by
  obtain ⟨k, ek, ea, ev, m, n, lo, hi, rk, rn, rv⟩ := a
  rcases right_parts h with ⟨h1, _⟩ | ⟨h1, _⟩ | h1 | ⟨h1, _⟩ | ⟨h1, _⟩
  · obtain rfl : k = 1 := h1
    exact itPut_1 ek ea ev m n lo hi rk rn rv h hf w
  · obtain rfl : k = 2 := h1
    exact itPut_2 ek ea ev m n lo hi rk rn rv h hf w
  · obtain rfl : k = 3 := h1
    exact itPut_3 ek ea ev m n lo hi rk rn rv h w
  · obtain rfl : k = 4 := h1
    exact itPut_4 ek ea ev m n lo hi rk rn rv h hf w
  · obtain rfl : k = 5 := h1
    exact itPut_5 ek ea ev m n lo hi rk rn rv h hf w
end Go.Proofs.Ythgafhinlchghaa
