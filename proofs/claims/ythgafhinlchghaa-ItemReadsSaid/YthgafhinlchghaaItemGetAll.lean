/- Contract of what reads a whole item. -/
import Derived.Test.YthgafhinlchghaaItemGetIt
namespace Go.Proofs.Ythgafhinlchghaa
open Go.RowKit
open Itm Vlq
set_option linter.unusedVariables false
theorem But.al {g : Nat} {a b : World} {o : Obj} (h : But g a b) : But g a (b.alloc o) := h.trans (But.of_below (below_al (Below.refl _ _)))
theorem Where.al {s : ByteArray} {p : Nat × Nat} {g : Nat} {w : World} {o : Obj} (h : Where s p g w) : Where s p g (w.alloc o) := h.below (below_al (Below.refl _ _))
theorem Lies.al {b : Nat} {C : Array Value} {T : TypeId} {w : World} {o : Obj} (h : Lies b C T w) : Lies b C T (w.alloc o) := (Below.heap_alloc w o b (lt_of_block h)).trans h
theorem Lies.other {b c : Nat} {C : Array Value} {T : TypeId} {w : World} (h : Lies b C T w) (hb : b ≠ c) (o : Nat) (v : Value) : Lies b C T (w.setCell ⟨c, o, none⟩ v) := (Below.heap_setCell w ⟨c, o, none⟩ v b hb).trans h
theorem Lies.set11 {b : Nat} {T : TypeId} {w : World} {u0 u1 u2 u3 u4 u5 u6 u7 u8 u9 u10 : Value} (h : Lies b #[u0, u1, u2, u3, u4, u5, u6, u7, u8, u9, u10] T w) (v0 v1 v2 v3 v4 v5 v6 v7 v8 v9 v10 : Value) : Lies b #[v0, v1, v2, v3, v4, v5, v6, v7, v8, v9, v10] T (((((((((((w.setCell ⟨b, 0, none⟩ v0).setCell ⟨b, 1, none⟩ v1).setCell ⟨b, 2, none⟩ v2).setCell ⟨b, 3, none⟩ v3).setCell ⟨b, 4, none⟩ v4).setCell ⟨b, 5, none⟩ v5).setCell ⟨b, 6, none⟩ v6).setCell ⟨b, 7, none⟩ v7).setCell ⟨b, 8, none⟩ v8).setCell ⟨b, 9, none⟩ v9).setCell ⟨b, 10, none⟩ v10) := by
  have h2 := (((((((((((h.set 0 v0).set 1 v1).set 2 v2).set 3 v3).set 4 v4).set 5 v5).set 6 v6).set 7 v7).set 8 v8).set 9 v9).set 10 v10)
  simpa using h2
theorem Where.set11 {s : ByteArray} {p : Nat × Nat} {g b : Nat} {w : World} (h : Where s p g w) (hb : b ≠ g) (v0 v1 v2 v3 v4 v5 v6 v7 v8 v9 v10 : Value) : Where s p g (((((((((((w.setCell ⟨b, 0, none⟩ v0).setCell ⟨b, 1, none⟩ v1).setCell ⟨b, 2, none⟩ v2).setCell ⟨b, 3, none⟩ v3).setCell ⟨b, 4, none⟩ v4).setCell ⟨b, 5, none⟩ v5).setCell ⟨b, 6, none⟩ v6).setCell ⟨b, 7, none⟩ v7).setCell ⟨b, 8, none⟩ v8).setCell ⟨b, 9, none⟩ v9).setCell ⟨b, 10, none⟩ v10) := (((((((((((h.set hb 0 v0).set hb 1 v1).set hb 2 v2).set hb 3 v3).set hb 4 v4).set hb 5 v5).set hb 6 v6).set hb 7 v7).set hb 8 v8).set hb 9 v9).set hb 10 v10)
theorem But.set11 {g b : Nat} {u w : World} (h : But g u w) (hb : u.heap.size ≤ b) (v0 v1 v2 v3 v4 v5 v6 v7 v8 v9 v10 : Value) : But g u (((((((((((w.setCell ⟨b, 0, none⟩ v0).setCell ⟨b, 1, none⟩ v1).setCell ⟨b, 2, none⟩ v2).setCell ⟨b, 3, none⟩ v3).setCell ⟨b, 4, none⟩ v4).setCell ⟨b, 5, none⟩ v5).setCell ⟨b, 6, none⟩ v6).setCell ⟨b, 7, none⟩ v7).setCell ⟨b, 8, none⟩ v8).setCell ⟨b, 9, none⟩ v9).setCell ⟨b, 10, none⟩ v10) := (((((((((((h.setNew hb 0 v0).setNew hb 1 v1).setNew hb 2 v2).setNew hb 3 v3).setNew hb 4 v4).setNew hb 5 v5).setNew hb 6 v6).setNew hb 7 v7).setNew hb 8 v8).setNew hb 9 v9).setNew hb 10 v10)
theorem item_ret {g : Nat} {s : ByteArray} {p : Nat × Nat} {w wF : World} {R : Nat} {a : It} {act : Act} (ht : act.tmps.getD 2 undef = .pointer (some ⟨R, 0, none⟩)) (hd : act.defers = []) (hL : Lies R (itC a) 29 wF) (hW : Where s p g wF) (hB : But g w wF) :
    bodyPost Try.prog Try.f29 (TookP g s (itV a) p w) .ret act wF := by
  have c0 := hL.cell (j := 0) rfl
  have c1 := hL.cell (j := 1) rfl
  have c2 := hL.cell (j := 2) rfl
  have c3 := hL.cell (j := 3) rfl
  have c4 := hL.cell (j := 4) rfl
  have c5 := hL.cell (j := 5) rfl
  have c6 := hL.cell (j := 6) rfl
  have c7 := hL.cell (j := 7) rfl
  have c8 := hL.cell (j := 8) rfl
  have c9 := hL.cell (j := 9) rfl
  have c10 := hL.cell (j := 10) rfl
  refine bodyPost_ret (v := itV a) ?_ hd ⟨rfl, hW, hB⟩
  have ht2 : act.tmps[2]?.getD undef = .pointer (some ⟨R, 0, none⟩) := by simpa using ht
  simp [results, Try.results29, go_sem, ht2, c0, c1, c2, c3, c4, c5, c6, c7, c8, c9, c10]
theorem itItem_3 {g : Nat} {s : ByteArray} {p : Nat × Nat} {w : World} (hs : s.size ≤ 9223372036854775807) (h : Where s p g w) (K  : Nat × Nat)  (hK : numS s p = (3, K))  :
    Calls Try.prog 29 #[.pointer (some ⟨g, 0, none⟩)] w (TookP g s (itV (bare 3)) K w) := by
  have hne : w.heap.size ≠ g := by have := h.rd.lt; omega
  have W1 := Lib.hid (h.below (below_al (o := .cells (itC (bare 0)) 29) (Below.refl _ _)))
  have L1 := Lib.hid (Lies.new w (itC (bare 0)) 29)
  have B1 := Lib.hid (But.of_below (g := g) (below_al (o := .cells (itC (bare 0)) 29) (Below.refl w.heap.size w)))
  have HK := Lib.hid hK
  clear h hK 
  go_enter Try.func29, Try.ntmps29
  go_wp2_with fail
  refine (goNumber hs W1.out).mono ?_
  rw [HK.out]
  rintro e w2 ⟨rfl, W2, B2⟩
  have L2 := Lib.hid (L1.out.but hne B2)
  have hRI : w.heap.size < w2.heap.size := lt_of_block L2.out
  have hIg : w2.heap.size ≠ g := by have := W2.rd.lt; omega
  have c0 := L2.out.cell (j := 0) rfl; have c1 := L2.out.cell (j := 1) rfl; have c2 := L2.out.cell (j := 2) rfl; have c3 := L2.out.cell (j := 3) rfl; have c4 := L2.out.cell (j := 4) rfl; have c5 := L2.out.cell (j := 5) rfl; have c6 := L2.out.cell (j := 6) rfl; have c7 := L2.out.cell (j := 7) rfl; have c8 := L2.out.cell (j := 8) rfl; have c9 := L2.out.cell (j := 9) rfl; have c10 := L2.out.cell (j := 10) rfl
  have f0 := L2.out.free 0; have f1 := L2.out.free 1; have f2 := L2.out.free 2; have f3 := L2.out.free 3; have f4 := L2.out.free 4; have f5 := L2.out.free 5; have f6 := L2.out.free 6; have f7 := L2.out.free 7; have f8 := L2.out.free 8; have f9 := L2.out.free 9; have f10 := L2.out.free 10
  have WF := W2
  have BF := B1.out.trans B2
  go_wp2_with fail
  refine item_ret (R := w.heap.size) (a := (bare 3)) rfl rfl (L2.out.set11 _ _ _ _ _ _ _ _ _ _ _ ).al (W2.set11 hne _ _ _ _ _ _ _ _ _ _ _ ).al ((B1.out.trans B2).set11 (Nat.le_refl _) _ _ _ _ _ _ _ _ _ _ _ ).al
theorem itItem_2 {g : Nat} {s : ByteArray} {p : Nat × Nat} {w : World} (hs : s.size ≤ 9223372036854775807) (h : Where s p g w) (K A : Nat × Nat) (x : Nat) (hK : numS s p = (2, K)) (hA : numS s K = (x, A)) :
    Calls Try.prog 29 #[.pointer (some ⟨g, 0, none⟩)] w (TookP g s (itV { bare 2 with m := x }) A w) := by
  have hne : w.heap.size ≠ g := by have := h.rd.lt; omega
  have W1 := Lib.hid (h.below (below_al (o := .cells (itC (bare 0)) 29) (Below.refl _ _)))
  have L1 := Lib.hid (Lies.new w (itC (bare 0)) 29)
  have B1 := Lib.hid (But.of_below (g := g) (below_al (o := .cells (itC (bare 0)) 29) (Below.refl w.heap.size w)))
  have HK := Lib.hid hK
  have HhA := Lib.hid hA
  clear h hK hA
  go_enter Try.func29, Try.ntmps29
  go_wp2_with fail
  refine (goNumber hs W1.out).mono ?_
  rw [HK.out]
  rintro e w2 ⟨rfl, W2, B2⟩
  have L2 := Lib.hid (L1.out.but hne B2)
  have hRI : w.heap.size < w2.heap.size := lt_of_block L2.out
  have hIg : w2.heap.size ≠ g := by have := W2.rd.lt; omega
  have W3 := Lib.hid (W2.al (o := .cells (itC (bare 2)) 29))
  have L3 := Lib.hid (L2.out.al (o := .cells (itC (bare 2)) 29))
  have J3 := Lib.hid (Lies.new w2 (itC (bare 2)) 29)
  go_wp2_with fail
  refine (goNumber hs W3.out).mono ?_
  rw [HhA.out]
  rintro e w4 ⟨rfl, W4, B4⟩
  have L4 := Lib.hid (L3.out.but hne B4)
  have J4 := Lib.hid (J3.out.but hIg B4)
  have c0 := L4.out.cell (j := 0) rfl; have c1 := L4.out.cell (j := 1) rfl; have c2 := L4.out.cell (j := 2) rfl; have c3 := L4.out.cell (j := 3) rfl; have c4 := L4.out.cell (j := 4) rfl; have c5 := L4.out.cell (j := 5) rfl; have c6 := L4.out.cell (j := 6) rfl; have c7 := L4.out.cell (j := 7) rfl; have c8 := L4.out.cell (j := 8) rfl; have c9 := L4.out.cell (j := 9) rfl; have c10 := L4.out.cell (j := 10) rfl
  have f0 := L4.out.free 0; have f1 := L4.out.free 1; have f2 := L4.out.free 2; have f3 := L4.out.free 3; have f4 := L4.out.free 4; have f5 := L4.out.free 5; have f6 := L4.out.free 6; have f7 := L4.out.free 7; have f8 := L4.out.free 8; have f9 := L4.out.free 9; have f10 := L4.out.free 10
  have d0 := J4.out.cell (j := 0) rfl; have d1 := J4.out.cell (j := 1) rfl; have d2 := J4.out.cell (j := 2) rfl; have d3 := J4.out.cell (j := 3) rfl; have d4 := J4.out.cell (j := 4) rfl; have d5 := J4.out.cell (j := 5) rfl; have d6 := J4.out.cell (j := 6) rfl; have d7 := J4.out.cell (j := 7) rfl; have d8 := J4.out.cell (j := 8) rfl; have d9 := J4.out.cell (j := 9) rfl; have d10 := J4.out.cell (j := 10) rfl
  have k0 := J4.out.free 0; have k1 := J4.out.free 1; have k2 := J4.out.free 2; have k3 := J4.out.free 3; have k4 := J4.out.free 4; have k5 := J4.out.free 5; have k6 := J4.out.free 6; have k7 := J4.out.free 7; have k8 := J4.out.free 8; have k9 := J4.out.free 9; have k10 := J4.out.free 10
  have hne2 : w.heap.size ≠ w2.heap.size := by omega
  have hne3 : w2.heap.size ≠ w.heap.size := by omega
  have WF := W4
  have BF := (B1.out.trans B2).al.trans B4
  go_wp2_with fail
  refine item_ret (R := w.heap.size) (a := { bare 2 with m := x }) rfl rfl ((L4.out.other hne2 4 _).set11 _ _ _ _ _ _ _ _ _ _ _ ) ((W4.set hIg 4 _).set11 hne _ _ _ _ _ _ _ _ _ _ _ ) ((BF.setNew (by omega) 4 _).set11 (Nat.le_refl _) _ _ _ _ _ _ _ _ _ _ _ )
theorem itItem_4 {g : Nat} {s : ByteArray} {p : Nat × Nat} {w : World} (hs : s.size ≤ 9223372036854775807) (h : Where s p g w) (K A : Nat × Nat) (x : Nat) (hK : numS s p = (4, K)) (hA : numS s K = (x, A)) :
    Calls Try.prog 29 #[.pointer (some ⟨g, 0, none⟩)] w (TookP g s (itV { bare 4 with n := min (x : Int) 1073741825 }) A w) := by
  have hne : w.heap.size ≠ g := by have := h.rd.lt; omega
  have W1 := Lib.hid (h.below (below_al (o := .cells (itC (bare 0)) 29) (Below.refl _ _)))
  have L1 := Lib.hid (Lies.new w (itC (bare 0)) 29)
  have B1 := Lib.hid (But.of_below (g := g) (below_al (o := .cells (itC (bare 0)) 29) (Below.refl w.heap.size w)))
  have HK := Lib.hid hK
  have HhA := Lib.hid hA
  clear h hK hA
  go_enter Try.func29, Try.ntmps29
  go_wp2_with fail
  refine (goNumber hs W1.out).mono ?_
  rw [HK.out]
  rintro e w2 ⟨rfl, W2, B2⟩
  have L2 := Lib.hid (L1.out.but hne B2)
  have hRI : w.heap.size < w2.heap.size := lt_of_block L2.out
  have hIg : w2.heap.size ≠ g := by have := W2.rd.lt; omega
  have W3 := Lib.hid (W2.al (o := .cells (itC (bare 4)) 29))
  have L3 := Lib.hid (L2.out.al (o := .cells (itC (bare 4)) 29))
  have J3 := Lib.hid (Lies.new w2 (itC (bare 4)) 29)
  go_wp2_with fail
  refine (goNumber hs W3.out).mono ?_
  rw [HhA.out]
  rintro e w4 ⟨rfl, W4, B4⟩
  have L4 := Lib.hid (L3.out.but hne B4)
  have J4 := Lib.hid (J3.out.but hIg B4)
  have c0 := L4.out.cell (j := 0) rfl; have c1 := L4.out.cell (j := 1) rfl; have c2 := L4.out.cell (j := 2) rfl; have c3 := L4.out.cell (j := 3) rfl; have c4 := L4.out.cell (j := 4) rfl; have c5 := L4.out.cell (j := 5) rfl; have c6 := L4.out.cell (j := 6) rfl; have c7 := L4.out.cell (j := 7) rfl; have c8 := L4.out.cell (j := 8) rfl; have c9 := L4.out.cell (j := 9) rfl; have c10 := L4.out.cell (j := 10) rfl
  have f0 := L4.out.free 0; have f1 := L4.out.free 1; have f2 := L4.out.free 2; have f3 := L4.out.free 3; have f4 := L4.out.free 4; have f5 := L4.out.free 5; have f6 := L4.out.free 6; have f7 := L4.out.free 7; have f8 := L4.out.free 8; have f9 := L4.out.free 9; have f10 := L4.out.free 10
  have d0 := J4.out.cell (j := 0) rfl; have d1 := J4.out.cell (j := 1) rfl; have d2 := J4.out.cell (j := 2) rfl; have d3 := J4.out.cell (j := 3) rfl; have d4 := J4.out.cell (j := 4) rfl; have d5 := J4.out.cell (j := 5) rfl; have d6 := J4.out.cell (j := 6) rfl; have d7 := J4.out.cell (j := 7) rfl; have d8 := J4.out.cell (j := 8) rfl; have d9 := J4.out.cell (j := 9) rfl; have d10 := J4.out.cell (j := 10) rfl
  have k0 := J4.out.free 0; have k1 := J4.out.free 1; have k2 := J4.out.free 2; have k3 := J4.out.free 3; have k4 := J4.out.free 4; have k5 := J4.out.free 5; have k6 := J4.out.free 6; have k7 := J4.out.free 7; have k8 := J4.out.free 8; have k9 := J4.out.free 9; have k10 := J4.out.free 10
  have hne2 : w.heap.size ≠ w2.heap.size := by omega
  have hne3 : w2.heap.size ≠ w.heap.size := by omega
  have WF := W4
  have BF := (B1.out.trans B2).al.trans B4
  go_wp2_with fail
  refine item_ret (R := w.heap.size) (a := { bare 4 with n := min (x : Int) 1073741825 }) rfl rfl ((L4.out.other hne2 5 _).set11 _ _ _ _ _ _ _ _ _ _ _ ) ((W4.set hIg 5 _).set11 hne _ _ _ _ _ _ _ _ _ _ _ ) ((BF.setNew (by omega) 5 _).set11 (Nat.le_refl _) _ _ _ _ _ _ _ _ _ _ _ )
theorem itItem_1 {g : Nat} {s : ByteArray} {p : Nat × Nat} {w : World} (hs : s.size ≤ 9223372036854775807) (h : Where s p g w) (K A B C : Nat × Nat) (t : List UInt8) (a v : Nat) (hK : numS s p = (1, K)) (hA : txtS s K = (t, A)) (hB : numS s A = (a, B)) (hC : sgnS s B = (v, C)) :
    Calls Try.prog 29 #[.pointer (some ⟨g, 0, none⟩)] w (TookP g s (itV { bare 1 with ek := ⟨t.toArray⟩, ea := a, ev := un v }) C w) := by
  have hne : w.heap.size ≠ g := by have := h.rd.lt; omega
  have W1 := Lib.hid (h.below (below_al (o := .cells (itC (bare 0)) 29) (Below.refl _ _)))
  have L1 := Lib.hid (Lies.new w (itC (bare 0)) 29)
  have B1 := Lib.hid (But.of_below (g := g) (below_al (o := .cells (itC (bare 0)) 29) (Below.refl w.heap.size w)))
  have HK := Lib.hid hK
  have HhA := Lib.hid hA
  have HhB := Lib.hid hB
  have HhC := Lib.hid hC
  clear h hK hA hB hC
  go_enter Try.func29, Try.ntmps29
  go_wp2_with fail
  refine (goNumber hs W1.out).mono ?_
  rw [HK.out]
  rintro e w2 ⟨rfl, W2, B2⟩
  have L2 := Lib.hid (L1.out.but hne B2)
  have hRI : w.heap.size < w2.heap.size := lt_of_block L2.out
  have hIg : w2.heap.size ≠ g := by have := W2.rd.lt; omega
  have W3 := Lib.hid (W2.al (o := .cells (itC (bare 1)) 29))
  have L3 := Lib.hid (L2.out.al (o := .cells (itC (bare 1)) 29))
  have J3 := Lib.hid (Lies.new w2 (itC (bare 1)) 29)
  go_wp2_with fail
  refine (itGetEvent hs W3.out A B C t a v HhA.out HhB.out HhC.out).mono ?_
  rintro e w4 ⟨rfl, W4, B4⟩
  have L4 := Lib.hid (L3.out.but hne B4)
  have J4 := Lib.hid (J3.out.but hIg B4)
  have c0 := L4.out.cell (j := 0) rfl; have c1 := L4.out.cell (j := 1) rfl; have c2 := L4.out.cell (j := 2) rfl; have c3 := L4.out.cell (j := 3) rfl; have c4 := L4.out.cell (j := 4) rfl; have c5 := L4.out.cell (j := 5) rfl; have c6 := L4.out.cell (j := 6) rfl; have c7 := L4.out.cell (j := 7) rfl; have c8 := L4.out.cell (j := 8) rfl; have c9 := L4.out.cell (j := 9) rfl; have c10 := L4.out.cell (j := 10) rfl
  have f0 := L4.out.free 0; have f1 := L4.out.free 1; have f2 := L4.out.free 2; have f3 := L4.out.free 3; have f4 := L4.out.free 4; have f5 := L4.out.free 5; have f6 := L4.out.free 6; have f7 := L4.out.free 7; have f8 := L4.out.free 8; have f9 := L4.out.free 9; have f10 := L4.out.free 10
  have d0 := J4.out.cell (j := 0) rfl; have d1 := J4.out.cell (j := 1) rfl; have d2 := J4.out.cell (j := 2) rfl; have d3 := J4.out.cell (j := 3) rfl; have d4 := J4.out.cell (j := 4) rfl; have d5 := J4.out.cell (j := 5) rfl; have d6 := J4.out.cell (j := 6) rfl; have d7 := J4.out.cell (j := 7) rfl; have d8 := J4.out.cell (j := 8) rfl; have d9 := J4.out.cell (j := 9) rfl; have d10 := J4.out.cell (j := 10) rfl
  have k0 := J4.out.free 0; have k1 := J4.out.free 1; have k2 := J4.out.free 2; have k3 := J4.out.free 3; have k4 := J4.out.free 4; have k5 := J4.out.free 5; have k6 := J4.out.free 6; have k7 := J4.out.free 7; have k8 := J4.out.free 8; have k9 := J4.out.free 9; have k10 := J4.out.free 10
  have hne2 : w.heap.size ≠ w2.heap.size := by omega
  have hne3 : w2.heap.size ≠ w.heap.size := by omega
  have WF := W4
  have BF := (B1.out.trans B2).al.trans B4
  go_wp2_with fail
  refine item_ret (R := w.heap.size) (a := { bare 1 with ek := ⟨t.toArray⟩, ea := a, ev := un v }) rfl rfl ((((L4.out.other hne2 1 _).other hne2 2 _).other hne2 3 _).set11 _ _ _ _ _ _ _ _ _ _ _ ) ((((W4.set hIg 1 _).set hIg 2 _).set hIg 3 _).set11 hne _ _ _ _ _ _ _ _ _ _ _ ) ((((BF.setNew (by omega) 1 _).setNew (by omega) 2 _).setNew (by omega) 3 _).set11 (Nat.le_refl _) _ _ _ _ _ _ _ _ _ _ _ )
theorem itItem_5 {g : Nat} {s : ByteArray} {p : Nat × Nat} {w : World} (hs : s.size ≤ 9223372036854775807) (h : Where s p g w) (K A B C D E : Nat × Nat) (t : List UInt8) (lo hi n v : Nat) (hK : numS s p = (5, K)) (hA : txtS s K = (t, A)) (hB : numS s A = (lo, B)) (hC : numS s B = (hi, C)) (hD : numS s C = (n, D)) (hE : sgnS s D = (v, E)) :
    Calls Try.prog 29 #[.pointer (some ⟨g, 0, none⟩)] w (TookP g s (itV { bare 5 with lo := lo, hi := hi, rk := ⟨t.toArray⟩, rn := n, rv := un v }) E w) := by
  have hne : w.heap.size ≠ g := by have := h.rd.lt; omega
  have W1 := Lib.hid (h.below (below_al (o := .cells (itC (bare 0)) 29) (Below.refl _ _)))
  have L1 := Lib.hid (Lies.new w (itC (bare 0)) 29)
  have B1 := Lib.hid (But.of_below (g := g) (below_al (o := .cells (itC (bare 0)) 29) (Below.refl w.heap.size w)))
  have HK := Lib.hid hK
  have HhA := Lib.hid hA
  have HhB := Lib.hid hB
  have HhC := Lib.hid hC
  have HhD := Lib.hid hD
  have HhE := Lib.hid hE
  clear h hK hA hB hC hD hE
  go_enter Try.func29, Try.ntmps29
  go_wp2_with fail
  refine (goNumber hs W1.out).mono ?_
  rw [HK.out]
  rintro e w2 ⟨rfl, W2, B2⟩
  have L2 := Lib.hid (L1.out.but hne B2)
  have hRI : w.heap.size < w2.heap.size := lt_of_block L2.out
  have hIg : w2.heap.size ≠ g := by have := W2.rd.lt; omega
  have W3 := Lib.hid (W2.al (o := .cells (itC (bare 5)) 29))
  have L3 := Lib.hid (L2.out.al (o := .cells (itC (bare 5)) 29))
  have J3 := Lib.hid (Lies.new w2 (itC (bare 5)) 29)
  go_wp2_with fail
  refine (itGetResult hs W3.out A B C D E t lo hi n v HhA.out HhB.out HhC.out HhD.out HhE.out).mono ?_
  rintro e w4 ⟨rfl, W4, B4⟩
  have L4 := Lib.hid (L3.out.but hne B4)
  have J4 := Lib.hid (J3.out.but hIg B4)
  have c0 := L4.out.cell (j := 0) rfl; have c1 := L4.out.cell (j := 1) rfl; have c2 := L4.out.cell (j := 2) rfl; have c3 := L4.out.cell (j := 3) rfl; have c4 := L4.out.cell (j := 4) rfl; have c5 := L4.out.cell (j := 5) rfl; have c6 := L4.out.cell (j := 6) rfl; have c7 := L4.out.cell (j := 7) rfl; have c8 := L4.out.cell (j := 8) rfl; have c9 := L4.out.cell (j := 9) rfl; have c10 := L4.out.cell (j := 10) rfl
  have f0 := L4.out.free 0; have f1 := L4.out.free 1; have f2 := L4.out.free 2; have f3 := L4.out.free 3; have f4 := L4.out.free 4; have f5 := L4.out.free 5; have f6 := L4.out.free 6; have f7 := L4.out.free 7; have f8 := L4.out.free 8; have f9 := L4.out.free 9; have f10 := L4.out.free 10
  have d0 := J4.out.cell (j := 0) rfl; have d1 := J4.out.cell (j := 1) rfl; have d2 := J4.out.cell (j := 2) rfl; have d3 := J4.out.cell (j := 3) rfl; have d4 := J4.out.cell (j := 4) rfl; have d5 := J4.out.cell (j := 5) rfl; have d6 := J4.out.cell (j := 6) rfl; have d7 := J4.out.cell (j := 7) rfl; have d8 := J4.out.cell (j := 8) rfl; have d9 := J4.out.cell (j := 9) rfl; have d10 := J4.out.cell (j := 10) rfl
  have k0 := J4.out.free 0; have k1 := J4.out.free 1; have k2 := J4.out.free 2; have k3 := J4.out.free 3; have k4 := J4.out.free 4; have k5 := J4.out.free 5; have k6 := J4.out.free 6; have k7 := J4.out.free 7; have k8 := J4.out.free 8; have k9 := J4.out.free 9; have k10 := J4.out.free 10
  have hne2 : w.heap.size ≠ w2.heap.size := by omega
  have hne3 : w2.heap.size ≠ w.heap.size := by omega
  have WF := W4
  have BF := (B1.out.trans B2).al.trans B4
  go_wp2_with fail
  refine item_ret (R := w.heap.size) (a := { bare 5 with lo := lo, hi := hi, rk := ⟨t.toArray⟩, rn := n, rv := un v }) rfl rfl ((((((L4.out.other hne2 6 _).other hne2 7 _).other hne2 8 _).other hne2 9 _).other hne2 10 _).set11 _ _ _ _ _ _ _ _ _ _ _ ) ((((((W4.set hIg 6 _).set hIg 7 _).set hIg 8 _).set hIg 9 _).set hIg 10 _).set11 hne _ _ _ _ _ _ _ _ _ _ _ ) ((((((BF.setNew (by omega) 6 _).setNew (by omega) 7 _).setNew (by omega) 8 _).setNew (by omega) 9 _).setNew (by omega) 10 _).set11 (Nat.le_refl _) _ _ _ _ _ _ _ _ _ _ _ )
end Go.Proofs.Ythgafhinlchghaa
