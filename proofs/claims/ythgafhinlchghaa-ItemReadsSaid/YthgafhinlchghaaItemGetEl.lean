/- Contract of Get. -/
import Derived.Test.YthgafhinlchghaaItemGetAll
import Derived.Test.YthgafhinlchghaaItemFail
import Derived.Test.YthgafhinlchghaaItemOk
namespace Go.Proofs.Ythgafhinlchghaa
open Go.RowKit
open Itm Vlq
set_option linter.unusedVariables false
theorem itItem_else {g : Nat} {s : ByteArray} {p : Nat × Nat} {w : World} (hs : s.size ≤ 9223372036854775807) (h : Where s p g w) (K  : Nat × Nat) (x : Nat) (hK : numS s p = (x, K)) (h1 : (x : Int) ≠ 1) (h2 : (x : Int) ≠ 2) (h3 : (x : Int) ≠ 3) (h4 : (x : Int) ≠ 4) (h5 : (x : Int) ≠ 5) :
    Calls Try.prog 29 #[.pointer (some ⟨g, 0, none⟩)] w (TookP g s (itV (bare x)) (failP K) w) := by
  have hne : w.heap.size ≠ g := by have := h.rd.lt; omega
  have W1 := Lib.hid (h.below (below_al (o := .cells (itC (bare 0)) 29) (Below.refl _ _)))
  have L1 := Lib.hid (Lies.new w (itC (bare 0)) 29)
  have B1 := Lib.hid (But.of_below (g := g) (below_al (o := .cells (itC (bare 0)) 29) (Below.refl w.heap.size w)))
  have HK := Lib.hid hK
  have e1 := ne_b h1
  have e2 := ne_b h2
  have e3 := ne_b h3
  have e4 := ne_b h4
  have e5 := ne_b h5
  clear h hK h1 h2 h3 h4 h5
  go_enter Try.func29, Try.ntmps29
  go_wp2_with fail
  refine (goNumber hs W1.out).mono ?_
  rw [HK.out]
  rintro e w2 ⟨rfl, W2, B2⟩
  have L2 := Lib.hid (L1.out.but hne B2)
  have hRI : w.heap.size < w2.heap.size := lt_of_block L2.out
  have hIg : w2.heap.size ≠ g := by have := W2.rd.lt; omega
  have W3 := Lib.hid (W2.al (o := .cells (itC (bare x)) 29))
  have L3 := Lib.hid (L2.out.al (o := .cells (itC (bare x)) 29))
  have J3 := Lib.hid (Lies.new w2 (itC (bare x)) 29)
  go_wp2_with fail
  refine (itFail W3.out).mono ?_
  rintro e w4 ⟨rfl, W4, B4⟩
  have L4 := Lib.hid (L3.out.but hne B4)
  have J4 := Lib.hid (J3.out.but hIg B4)
  have c0 := L4.out.cell (j := 0) rfl; have c1 := L4.out.cell (j := 1) rfl; have c2 := L4.out.cell (j := 2) rfl; have c3 := L4.out.cell (j := 3) rfl; have c4 := L4.out.cell (j := 4) rfl; have c5 := L4.out.cell (j := 5) rfl; have c6 := L4.out.cell (j := 6) rfl; have c7 := L4.out.cell (j := 7) rfl; have c8 := L4.out.cell (j := 8) rfl; have c9 := L4.out.cell (j := 9) rfl; have c10 := L4.out.cell (j := 10) rfl
  have f0 := L4.out.free 0; have f1 := L4.out.free 1; have f2 := L4.out.free 2; have f3 := L4.out.free 3; have f4 := L4.out.free 4; have f5 := L4.out.free 5; have f6 := L4.out.free 6; have f7 := L4.out.free 7; have f8 := L4.out.free 8; have f9 := L4.out.free 9; have f10 := L4.out.free 10
  have d0 := J4.out.cell (j := 0) rfl; have d1 := J4.out.cell (j := 1) rfl; have d2 := J4.out.cell (j := 2) rfl; have d3 := J4.out.cell (j := 3) rfl; have d4 := J4.out.cell (j := 4) rfl; have d5 := J4.out.cell (j := 5) rfl; have d6 := J4.out.cell (j := 6) rfl; have d7 := J4.out.cell (j := 7) rfl; have d8 := J4.out.cell (j := 8) rfl; have d9 := J4.out.cell (j := 9) rfl; have d10 := J4.out.cell (j := 10) rfl
  have k0 := J4.out.free 0; have k1 := J4.out.free 1; have k2 := J4.out.free 2; have k3 := J4.out.free 3; have k4 := J4.out.free 4; have k5 := J4.out.free 5; have k6 := J4.out.free 6; have k7 := J4.out.free 7; have k8 := J4.out.free 8; have k9 := J4.out.free 9; have k10 := J4.out.free 10
  have hne2 : w.heap.size ≠ w2.heap.size := by omega
  have hne3 : w2.heap.size ≠ w.heap.size := by omega
  have WF := W4
  have BF := (B1.out.trans B2).al.trans B4
  go_wp2_with fail
  refine item_ret (R := w.heap.size) (a := (bare x)) rfl rfl (L4.out.set11 _ _ _ _ _ _ _ _ _ _ _ ) (W4.set11 hne _ _ _ _ _ _ _ _ _ _ _ ) (BF.set11 (Nat.le_refl _) _ _ _ _ _ _ _ _ _ _ _ )
/-- What the reader reads. -/
def getM (s : ByteArray) : It × Nat × Nat :=
  let K := numS s (0, 0)
  if K.1 = 1 then
    let A := txtS s K.2
    let B := numS s A.2
    let C := sgnS s B.2
    ({ bare 1 with ek := ⟨A.1.toArray⟩, ea := B.1, ev := un C.1 }, C.2)
  else if K.1 = 2 then
    let A := numS s K.2
    ({ bare 2 with m := A.1 }, A.2)
  else if K.1 = 3 then (bare 3, K.2)
  else if K.1 = 4 then
    let A := numS s K.2
    ({ bare 4 with n := min (A.1 : Int) 1073741825 }, A.2)
  else if K.1 = 5 then
    let A := txtS s K.2
    let B := numS s A.2
    let C := numS s B.2
    let D := numS s C.2
    let E := sgnS s D.2
    ({ bare 5 with rk := ⟨A.1.toArray⟩, lo := B.1, hi := C.1, rn := D.1, rv := un E.1 }, E.2)
  else (bare K.1, failP K.2)
theorem itItem {g : Nat} {s : ByteArray} {w : World} (hs : s.size ≤ 9223372036854775807) (h : Where s (0, 0) g w) :
    Calls Try.prog 29 #[.pointer (some ⟨g, 0, none⟩)] w (TookP g s (itV (getM s).1) (getM s).2 w) := by
  unfold getM
  simp only
  split
  · exact itItem_1 hs h _ _ _ _ _ _ _ (by rw [← (show (numS s (0, 0)).1 = 1 by assumption)]) rfl rfl rfl
  · split
    · exact itItem_2 hs h _ _ _ (by rw [← (show (numS s (0, 0)).1 = 2 by assumption)]) rfl
    · split
      · exact itItem_3 hs h _ (by rw [← (show (numS s (0, 0)).1 = 3 by assumption)])
      · split
        · exact itItem_4 hs h _ _ _ (by rw [← (show (numS s (0, 0)).1 = 4 by assumption)]) rfl
        · split
          · exact itItem_5 hs h _ _ _ _ _ _ _ _ _ _ _ (by rw [← (show (numS s (0, 0)).1 = 5 by assumption)]) rfl rfl rfl rfl rfl
          · exact itItem_else hs h _ _ rfl (by omega) (by omega) (by omega) (by omega) (by omega)
end Go.Proofs.Ythgafhinlchghaa
