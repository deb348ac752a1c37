/- The code's Free. -/
import Derived.Test.YtciagbeamphihaaMarkDel
import Derived.Test.YtciagbeamphihaaMarkHold
namespace Go.Proofs.Ytciagbeamphihaa
open Go.RowKit
set_option linter.unusedVariables false
set_option maxRecDepth 8000
namespace Wm
set_option maxRecDepth 100000 in
set_option maxHeartbeats 4000000 in
theorem ckFree (m : Mk) (A : Option Addr) (c : Nat) (B : Option Addr) (d : Nat) (no : Int) (w : World) (h : Has m A c B d w) (hl : m.holds.length ≤ 100000) : Calls Try.prog 21 #[mv m A c B d, .int .i64 no] w (GivesM (freeM m no) w) := by
  have HR := Lib.hid (fun w' (hb : Below w.heap.size w w') => ckRight m A c B d w' (h.next hb))
  have HP := Lib.hid (fun w' (hb : Below w.heap.size w w') => ckPlace m.holds no B d w' (h.rh.below hb) hl)
  have S0 := Lib.hid (SeAt.start w m A c B d)
  have HC := Lib.hid (fun w' (hb : Below w.heap.size w w') (hr : right m = true) => ckCopied m A c B d w' (h.next hb) (by have := ((right_iff m).1 hr).1.2.1; omega) hl)
  clear h
  go_enter Try.func21, Try.ntmps21
  go_wp2_with fail
  refine (HP.out _ S0.out.below).mono ?_
  rintro e w1 ⟨p, is, rfl, hpl, hb1⟩
  have S1 := Lib.hid (S0.out.next hb1)
  have HPL := Lib.hid hpl
  obtain ⟨z0, z1, z2⟩ := S1.out.ma.cells
  clear hb1 hpl
  have hway : (right m = false ∧ freeM m no = (none_, 1)) ∨ (right m = true ∧ is = false ∧ freeM m no = (none_, 1)) ∨ (right m = true ∧ is = true) := by
    cases hr : right m with
    | false => left; refine ⟨rfl, ?_⟩; unfold freeM; rw [hr]; rfl
    | true =>
      right
      have hh := place_has HPL.out ((right_iff m).1 hr).2.2.2
      cases is with
      | false => left; refine ⟨rfl, rfl, ?_⟩; unfold freeM; rw [hr, hh]; rfl
      | true => right; exact ⟨rfl, rfl⟩
  rcases hway with ⟨hr, e⟩ | ⟨hr, rfl, e⟩ | ⟨hr, rfl⟩
  · have HO := Lib.hid e
    rw [hr] at HR
    clear hr e HC
    go_wp2_with fail
    refine (HR.out _ S1.out.below).mono ?_
    rintro e w2 ⟨rfl, hb2⟩
    have S2 := Lib.hid (S1.out.next hb2)
    clear hb2 z0 z1 z2
    obtain ⟨⟨r0, r1, r2⟩, f0, f1, f2⟩ := S2.out.frees
    go_wp2_with fail
    obtain ⟨d1, d2⟩ := S2.out.none
    rw [HO.out]
    exact freeC_ret (o := (none_, 1)) (A := none) (c := 0) (B := none) (d := 0) rfl rfl rfl d1 (Has.zero _) d2
  · have HO := Lib.hid e
    rw [hr] at HR
    clear hr e HC
    go_wp2_with fail
    refine (HR.out _ S1.out.below).mono ?_
    rintro e w2 ⟨rfl, hb2⟩
    have S2 := Lib.hid (S1.out.next hb2)
    clear hb2 z0 z1 z2
    obtain ⟨⟨r0, r1, r2⟩, f0, f1, f2⟩ := S2.out.frees
    go_wp2_with fail
    obtain ⟨d1, d2⟩ := S2.out.none
    rw [HO.out]
    exact freeC_ret (o := (none_, 1)) (A := none) (c := 0) (B := none) (d := 0) rfl rfl rfl d1 (Has.zero _) d2
  · have hch := ((right_iff m).1 hr).2.2.2
    have hh := place_has HPL.out hch
    obtain ⟨x, hx, hxn⟩ := HPL.out.at_ rfl
    have hpn : p < m.holds.length := (List.getElem?_eq_some_iff.1 hx).1
    obtain ⟨us, hus⟩ : ∃ us, us = m.holds.take p ++ m.holds.drop (p + 1) := ⟨_, rfl⟩
    have hdel := del_at m.holds no p x hx hxn (HPL.out.lo hch) (place_above HPL.out hch)
    have HO := Lib.hid (show freeM m no = (⟨m.ins, us, m.out⟩, 0) from by
      unfold freeM
      rw [if_pos (by rw [hr, hh]; rfl), hdel, ← hus])
    obtain ⟨k, hk⟩ : ∃ k, m.holds.length = k + 1 := ⟨m.holds.length - 1, by omega⟩
    have hL : k = us.length := by rw [hus, List.length_append, List.length_take, List.length_drop]; omega
    have HCR := Lib.hid (fun w' hb => HC.out w' hb hr)
    have HLL := Lib.hid hL
    have HUS := Lib.hid hus
    have HKK := Lib.hid hk
    rw [hr] at HR
    clear HC hr hch hh hx hxn hdel hL hus hk
    go_wp2_with fail
    refine (HR.out _ S1.out.below).mono ?_
    rintro e w2 ⟨rfl, hb2⟩
    have S2 := Lib.hid (S1.out.next hb2)
    clear hb2 z0 z1 z2
    obtain ⟨z0, z1, z2⟩ := S2.out.ma.cells
    go_wp2_with fail
    refine (HCR.out _ S2.out.below).mono ?_
    rintro e w3 ⟨A2, c2, B2, d2, rfl, fr2, hb3⟩
    have S3 := Lib.hid (S2.out.next hb3)
    have C3 := Lib.hid (CpAt.start S2.out fr2 hb3)
    obtain ⟨g, rfl, hg, _⟩ := own_at fr2.h (by omega)
    clear z0 z1 z2 hb3 fr2 hg
    obtain ⟨z0, z1, z2⟩ := S3.out.ma.cells
    have f0 := Lies.free S3.out.ma 0
    have f1 := Lies.free S3.out.ma 1
    have f2 := Lies.free S3.out.ma 2
    go_wp2_with (with_reducible refine hold_at 25 rfl ?_)
    refine hold_out ?_
    obtain ⟨w4, hw4⟩ : ∃ w4, w4 = setM3 w3 w.heap.size (.slice A2 m.ins.length c2) (.slice (some ⟨g, 0, none⟩) m.holds.length d2) m.out := ⟨_, rfl⟩
    rw [← hw4] at C3
    unfold setM3 at hw4
    rw [← hw4]
    clear hw4 z0 z1 z2 f0 f1 f2
    obtain ⟨z0, z1, z2⟩ := C3.out.ma.cells
    have hq : w.heap.size < w4.heap.size := lt_of_block C3.out.ma
    have hgK : w.heap.size + 2 ≤ g := (C3.out.fr.h.lt g rfl).1
    have HK := Lib.hid hgK
    have ho4 := C3.out.fr.h
    have hkk := HKK.out
    simp only [hkk] at ho4
    have hD := ckDelete m.holds g d2 (w.heap.size + 2) p k w4 hkk ho4 (by omega) (by omega)
    unfold GivesDel at hD
    rw [← HUS.out, hkk, Nat.add_sub_cancel] at hD
    have HD := Lib.hid hD
    have hwp : IntKind.i64.wrap ((p : Int) + 1) = (p : Int) + 1 := wrap64_in (by omega) (by omega)
    clear hgK ho4 hD
    rw [hkk] at z1 ⊢
    have hp2 : p < k + 1 := by omega
    clear hkk hpn hl
    go_wp2_with fail
    refine HD.out.mono ?_
    rintro e w8 ⟨rfl, ho8, hm8⟩
    have M8 := Lib.hid (hm8.lies C3.out.ma (fun hk => by have := HK.out; omega))
    have R8 := Lib.hid (hm8.lies C3.out.res (fun hk => by have := HK.out; omega))
    have I8 := Lib.hid (Mine.own C3.out.fr.i hm8 (fun k hk hg => by subst hg; exact C3.out.fr.apart _ hk rfl))
    have B8 := Lib.hid (Mine.below C3.out.below hm8 (fun k hk => by have := HK.out; omega) C3.out.below.size)
    have O8 := Lib.hid ho8
    clear ho8 hm8 z0 z1 z2 hq
    have z0 := M8.out.cell (j := 0) rfl
    have z1 := M8.out.cell (j := 1) rfl
    have z2 := M8.out.cell (j := 2) rfl
    have e1 := M8.out.free 1
    have r0 := R8.out.cell (j := 0) rfl
    have r1 := R8.out.cell (j := 1) rfl
    have r2 := R8.out.cell (j := 2) rfl
    have f0 := R8.out.free 0
    have f1 := R8.out.free 1
    have f2 := R8.out.free 2
    go_wp2_with fail
    rw [HO.out]
    have hL := HLL.out
    have o8 := O8.out
    rw [hL] at o8 ⊢
    have hne : w.heap.size + 1 ≠ w.heap.size := by omega
    obtain ⟨t1, t2, t3⟩ := fin_own (wE := w8.setCell ⟨w.heap.size, 1, none⟩ (.slice (some ⟨g, 0, none⟩) us.length d2)) (m := ⟨m.ins, us, m.out⟩) (R8.out.other hne 1 (.slice (some ⟨g, 0, none⟩) us.length d2))
      (own_set I8.out ⟨w.heap.size, 1, none⟩ (fun e => by have := (I8.out.lt _ e).1; simp only at this; omega) (.slice (some ⟨g, 0, none⟩) us.length d2))
      (own_set o8 ⟨w.heap.size, 1, none⟩ (fun e => by have := (o8.lt _ e).1; simp only at this; omega) (.slice (some ⟨g, 0, none⟩) us.length d2))
      (B8.out.setCell (p := ⟨w.heap.size, 1, none⟩) (Nat.le_refl _) (.slice (some ⟨g, 0, none⟩) us.length d2))
    exact freeC_ret (o := (⟨m.ins, us, m.out⟩, 0)) rfl rfl rfl t1 t2 t3
end Wm
end Go.Proofs.Ytciagbeamphihaa
