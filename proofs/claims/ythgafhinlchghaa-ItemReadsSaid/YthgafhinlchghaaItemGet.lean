/- Contract of Get of package item. -/
import Derived.Test.YthgafhinlchghaaItemGetEl
namespace Go.Proofs.Ythgafhinlchghaa
open Go.RowKit
open Itm Vlq
set_option linter.unusedVariables false
/-- An item and an error; what was stays. -/
def GotI (a : It) (c : Int) (w : World) (e : Ending) (w' : World) : Prop := e = .returned (.tuple #[itV a, .int .i64 c]) ∧ Below w.heap.size w w'
theorem get_ret {w wF : World} {R : Nat} {a : It} {c : Int} {act : Act} (ht : act.tmps.getD 2 undef = .pointer (some ⟨R, 0, none⟩)) (hc : act.tmps.getD 3 undef = .int .i64 c) (hd : act.defers = []) (hL : Lies R (itC a) 29 wF) (hB : Below w.heap.size w wF) :
    bodyPost Try.prog Try.f16 (GotI a c w) .ret act wF := by
  have c0 := hL.cell (j := 0) rfl
  have c1 := hL.cell (j := 1) rfl
  have c2 := hL.cell (j := 2) rfl
  have c3 := hL.cell (j := 3) rfl
  have c4 := hL.cell (j := 4) rfl
  have c5 := hL.cell (j := 5) rfl
  have c6 := hL.cell (j := 6) rfl
  have c7 := hL.cell (j := 7) rfl
  have c8 := hL.cell (j := 8) rfl
  have c9 := hL.cell (j := 9) rfl
  have c10 := hL.cell (j := 10) rfl
  refine bodyPost_ret (v := .tuple #[itV a, .int .i64 c]) ?_ hd ⟨rfl, hB⟩
  have ht2 : act.tmps[2]?.getD undef = .pointer (some ⟨R, 0, none⟩) := by simpa using ht
  have hc2 : act.tmps[3]?.getD undef = .int .i64 c := by simpa using hc
  simp [results, Try.results16, go_sem, ht2, hc2, c0, c1, c2, c3, c4, c5, c6, c7, c8, c9, c10]

theorem below_set11 {B b : Nat} {u w : World} (h : Below B u w) (hb : B ≤ b) (v0 v1 v2 v3 v4 v5 v6 v7 v8 v9 v10 : Value) : Below B u (((((((((((w.setCell ⟨b, 0, none⟩ v0).setCell ⟨b, 1, none⟩ v1).setCell ⟨b, 2, none⟩ v2).setCell ⟨b, 3, none⟩ v3).setCell ⟨b, 4, none⟩ v4).setCell ⟨b, 5, none⟩ v5).setCell ⟨b, 6, none⟩ v6).setCell ⟨b, 7, none⟩ v7).setCell ⟨b, 8, none⟩ v8).setCell ⟨b, 9, none⟩ v9).setCell ⟨b, 10, none⟩ v10) := (((((((((((h.setCell (p := ⟨b, 0, none⟩) hb v0).setCell (p := ⟨b, 1, none⟩) hb v1).setCell (p := ⟨b, 2, none⟩) hb v2).setCell (p := ⟨b, 3, none⟩) hb v3).setCell (p := ⟨b, 4, none⟩) hb v4).setCell (p := ⟨b, 5, none⟩) hb v5).setCell (p := ⟨b, 6, none⟩) hb v6).setCell (p := ⟨b, 7, none⟩) hb v7).setCell (p := ⟨b, 8, none⟩) hb v8).setCell (p := ⟨b, 9, none⟩) hb v9).setCell (p := ⟨b, 10, none⟩) hb v10)
theorem info_it : (Try.prog.info? 29).map (·.size) = some 11 := by kernel_rfl
theorem Lies.there {b : Nat} {C : Array Value} {T : TypeId} {w : World} (h : Lies b C T w) : w.there b 0 C.size := fun j hj => by
  rw [Nat.zero_add]
  exact ⟨by rw [h.cell (Array.getElem?_eq_getElem hj)]; rfl, h.free j⟩
theorem one_bare : (itC (bare 0)).all (·.oneCell') = true := by simp [Value.oneCell']
theorem Lies.putIt {R : Nat} {T : TypeId} {w : World} {a : It} (h : Lies R (itC a) T w) (b : It) : Lies R (itC b) T (w.setCells R 0 (itC b).toList) := by
  have h2 := h.set11 (.int .i64 b.k) (.string b.ek) (.int .i64 b.ea) (.int .i64 b.ev) (.int .i64 b.m) (.int .i64 b.n) (.int .i64 b.lo) (.int .i64 b.hi) (.string b.rk) (.int .i64 b.rn) (.int .i64 b.rv)
  simp only [World.setCells]
  exact h2
theorem below_setCells {B b : Nat} {u : World} (hb : B ≤ b) : ∀ (vs : List Value) (o : Nat) (w : World), Below B u w → Below B u (w.setCells b o vs)
  | [], _, _, h => h
  | v :: vs, o, w, h => below_setCells hb vs (o + 1) _ (h.setCell (p := ⟨b, o, none⟩) hb v)
theorem rd_new (w : World) (s : ByteArray) (X : Obj) (T : TypeId) : RdAt T (w.heap.size + 1) s 0 0 ((w.alloc X).alloc (.cells #[.string s, .int .i64 0, .int .i64 0] T)) := by
  have h := heap_alloc_new (w.alloc X) (.cells #[.string s, .int .i64 0, .int .i64 0] T)
  rw [show (w.alloc X).heap.size = w.heap.size + 1 from by simp] at h
  exact h
theorem itGet_err (s : ByteArray) (hs : s.size ≤ 9223372036854775807) (a : It) (i c : Nat) (hP : getM s = (a, i, c)) (hc : c ≠ 0) (w : World) : Calls Try.prog 16 #[.string s] w (GotI (bare 0) c w) := by
  have W1 := Lib.hid (show Where s (0, 0) (w.heap.size + 1) ((w.alloc (.cells (itC (bare 0)) 29)).alloc (.cells #[.string s, .int .i64 0, .int .i64 0] 50)) from ⟨Nat.zero_le _, rd_new w s _ _⟩)
  have L1 := Lib.hid ((Lies.new w (itC (bare 0)) 29).al (o := .cells #[.string s, .int .i64 0, .int .i64 0] 50))
  have B1 := Lib.hid (below_al (o := .cells #[.string s, .int .i64 0, .int .i64 0] 50) (below_al (o := .cells (itC (bare 0)) 29) (Below.refl w.heap.size w)))
  have HP := Lib.hid hP
  have e0 := nb (show (c : Int) ≠ 0 by omega)
  clear hP hc
  go_enter Try.func16, Try.ntmps16
  go_wp2_with fail
  refine (itItem hs W1.out).mono ?_
  rw [HP.out]
  rintro e w2 ⟨rfl, W2, B2⟩
  have L2 := Lib.hid ((L1.out.but (by omega) B2).al (o := .cells (itC a) 29))
  have W3 := Lib.hid (W2.al (o := .cells (itC a) 29))
  have B3 := Lib.hid (below_al (o := .cells (itC a) 29) (B2.below B1.out (by omega) (by simp; omega)))
  have r1 := W3.out.rd.c1; have r2 := W3.out.rd.c2
  have c0 := L2.out.cell (j := 0) rfl; have c1 := L2.out.cell (j := 1) rfl; have c2 := L2.out.cell (j := 2) rfl; have c3 := L2.out.cell (j := 3) rfl; have c4 := L2.out.cell (j := 4) rfl; have c5 := L2.out.cell (j := 5) rfl; have c6 := L2.out.cell (j := 6) rfl; have c7 := L2.out.cell (j := 7) rfl; have c8 := L2.out.cell (j := 8) rfl; have c9 := L2.out.cell (j := 9) rfl; have c10 := L2.out.cell (j := 10) rfl
  have f0 := L2.out.free 0; have f1 := L2.out.free 1; have f2 := L2.out.free 2; have f3 := L2.out.free 3; have f4 := L2.out.free 4; have f5 := L2.out.free 5; have f6 := L2.out.free 6; have f7 := L2.out.free 7; have f8 := L2.out.free 8; have f9 := L2.out.free 9; have f10 := L2.out.free 10
  go_wp2_with fail
  generalize (w2.alloc (.cells (itC a) 29)) = w3 at L2 W3 B3 r1 r2 c0 f0 c1 f1 c2 f2 c3 f3 c4 f4 c5 f5 c6 f6 c7 f7 c8 f8 c9 f9 c10 f10 ⊢
  have hth : w3.drew.there w.heap.size 0 (itC (bare 0)).size := L2.out.there
  have hLF : Lies w.heap.size (itC (bare 0)) 29 w3.drew := L2.out
  refine wp_region_noPanic ?_
  refine wp_region_held_drew (S := fun w' => w'.cell? ⟨w.heap.size + 1, 2, none⟩ = some (.int .i64 c)) (by kernel_rfl) r2 (fun hHeld => ?_)
  refine wpAnyH_take (i := 0) (v := itV (bare 0)) rfl (by kernel_rfl) (by kernel_rfl) (by kernel_rfl) (fun _ _ _ h => h) (Or.inl ⟨by rfl, ?y0⟩) (by assumption) ?_
  case y0 => intro w hSw; go_simp
  refine wpAnyH_take (i := 1) (v := .pointer (some ⟨w.heap.size + 1, 2, none⟩)) rfl (by kernel_rfl) (by kernel_rfl) (by kernel_rfl) (fun _ _ _ h => h) (Or.inl ⟨by rfl, ?y1⟩) (by assumption) ?_
  case y1 => intro w hSw; go_simp
  refine wpAnyH_take (i := 2) (v := .int .i64 c) rfl (by kernel_rfl) (by kernel_rfl) (by kernel_rfl) (fun _ _ _ h => h) (Or.inl ⟨by rfl, ?y2⟩) (by assumption) ?_
  case y2 => intro w hSw; go_simp
  refine wpAnyH_ready (rs := [3]) (by kernel_rfl) (by simp) ?_
  refine AllReadyH.cons (o := { dst := none, op := Op.store 29 (Operand.tmp 2) (Operand.tmp 13), type := 0, pos := "item.go:145", after := #[{ on := 0, ground := Ground.data }, { on := 0, ground := Ground.phase }, { on := 1, ground := Ground.textOnly Departure.lateStores }, { on := 2, ground := Ground.textOnly Departure.lateStores }], guard := none }) ?h1 ?h2 AllReadyH.nil
  case h1 => rfl
  case h2 =>
    intro K hK
    rw [if_pos (by rfl)]
    refine @wp_store_mid _ _ _ _ _ _ 29 (.tmp 2) (.tmp 13) rfl w.heap.size 0 (itC (bare 0)) rfl rfl hth info_it one_bare ?_
    refine hK.out _ _ ?_ (fun hHeld2 => ?_)
    · exact (World.cell?_setCells_out _ _ _ _ _ (by intro h; simp at h)).trans r2
    refine @wpAnyH_take _ _ _ _ _ 4 _ (.int .i64 c) _ _ _ _ rfl (by kernel_rfl) (by kernel_rfl) (by kernel_rfl) (fun _ _ _ h => h) (Or.inl ⟨by rfl, ?y4⟩) (by assumption) ?_
    case y4 => intro w hSw; go_simp
    refine @wpAnyH_done _ _ _ _ _ _ _ _ (by kernel_rfl) ?_ _
    refine NoPanic.normal ?_
    simp only [Act.put]
    go_wp2_with fail
    exact get_ret (R := w.heap.size) rfl rfl rfl (hLF.putIt (bare 0)) (below_setCells (Nat.le_refl _) _ _ _ (below_drewOf B3.out))
theorem itGet_form (s : ByteArray) (hs : s.size ≤ 9223372036854775807) (a : It) (i : Nat) (hP : getM s = (a, i, 0)) (hi : i < s.size) (w : World) : Calls Try.prog 16 #[.string s] w (GotI (bare 0) 21 w) := by
  have W1 := Lib.hid (show Where s (0, 0) (w.heap.size + 1) ((w.alloc (.cells (itC (bare 0)) 29)).alloc (.cells #[.string s, .int .i64 0, .int .i64 0] 50)) from ⟨Nat.zero_le _, rd_new w s _ _⟩)
  have L1 := Lib.hid ((Lies.new w (itC (bare 0)) 29).al (o := .cells #[.string s, .int .i64 0, .int .i64 0] 50))
  have B1 := Lib.hid (below_al (o := .cells #[.string s, .int .i64 0, .int .i64 0] 50) (below_al (o := .cells (itC (bare 0)) 29) (Below.refl w.heap.size w)))
  have HP := Lib.hid hP
  have hi' : (i : Int) < s.size := by omega
  clear hP hi
  go_enter Try.func16, Try.ntmps16
  go_wp2_with fail
  refine (itItem hs W1.out).mono ?_
  rw [HP.out]
  rintro e w2 ⟨rfl, W2, B2⟩
  have L2 := Lib.hid ((L1.out.but (by omega) B2).al (o := .cells (itC a) 29))
  have J2 := Lib.hid (Lies.new w2 (itC a) 29)
  have W3 := Lib.hid (W2.al (o := .cells (itC a) 29))
  have B3 := Lib.hid (below_al (o := .cells (itC a) 29) (B2.below B1.out (by omega) (by simp; omega)))
  have r1 := W3.out.rd.c1; have r2 := W3.out.rd.c2
  have c0 := L2.out.cell (j := 0) rfl; have c1 := L2.out.cell (j := 1) rfl; have c2 := L2.out.cell (j := 2) rfl; have c3 := L2.out.cell (j := 3) rfl; have c4 := L2.out.cell (j := 4) rfl; have c5 := L2.out.cell (j := 5) rfl; have c6 := L2.out.cell (j := 6) rfl; have c7 := L2.out.cell (j := 7) rfl; have c8 := L2.out.cell (j := 8) rfl; have c9 := L2.out.cell (j := 9) rfl; have c10 := L2.out.cell (j := 10) rfl
  have f0 := L2.out.free 0; have f1 := L2.out.free 1; have f2 := L2.out.free 2; have f3 := L2.out.free 3; have f4 := L2.out.free 4; have f5 := L2.out.free 5; have f6 := L2.out.free 6; have f7 := L2.out.free 7; have f8 := L2.out.free 8; have f9 := L2.out.free 9; have f10 := L2.out.free 10
  go_wp2_with fail
  exact get_ret (R := w.heap.size) rfl rfl rfl (L2.out.set11 _ _ _ _ _ _ _ _ _ _ _ ) (below_set11 B3.out (Nat.le_refl _) _ _ _ _ _ _ _ _ _ _ _ )
theorem itGet_arg (s : ByteArray) (hs : s.size ≤ 9223372036854775807) (a : It) (i : Nat) (hP : getM s = (a, i, 0)) (hi : ¬ i < s.size) (hr : right a = false) (w : World) : Calls Try.prog 16 #[.string s] w (GotI (bare 0) 1 w) := by
  have W1 := Lib.hid (show Where s (0, 0) (w.heap.size + 1) ((w.alloc (.cells (itC (bare 0)) 29)).alloc (.cells #[.string s, .int .i64 0, .int .i64 0] 50)) from ⟨Nat.zero_le _, rd_new w s _ _⟩)
  have L1 := Lib.hid ((Lies.new w (itC (bare 0)) 29).al (o := .cells #[.string s, .int .i64 0, .int .i64 0] 50))
  have B1 := Lib.hid (below_al (o := .cells #[.string s, .int .i64 0, .int .i64 0] 50) (below_al (o := .cells (itC (bare 0)) 29) (Below.refl w.heap.size w)))
  have HP := Lib.hid hP
  have hi' : ¬ (i : Int) < s.size := by omega
  have HR := Lib.hid (fun w => itRight a w)
  clear hP hi
  go_enter Try.func16, Try.ntmps16
  go_wp2_with fail
  refine (itItem hs W1.out).mono ?_
  rw [HP.out]
  rintro e w2 ⟨rfl, W2, B2⟩
  have L2 := Lib.hid ((L1.out.but (by omega) B2).al (o := .cells (itC a) 29))
  have J2 := Lib.hid (Lies.new w2 (itC a) 29)
  have W3 := Lib.hid (W2.al (o := .cells (itC a) 29))
  have B3 := Lib.hid (below_al (o := .cells (itC a) 29) (B2.below B1.out (by omega) (by simp; omega)))
  have r1 := W3.out.rd.c1; have r2 := W3.out.rd.c2
  go_wp2_with fail
  refine (HR.out _).mono ?_
  rintro e w4 ⟨rfl, hb4⟩
  have L4 := Lib.hid (show Lies w.heap.size (itC (bare 0)) 29 w4 from (hb4.block _ (lt_of_block L2.out)).trans L2.out)
  have J4 := Lib.hid (show Lies w2.heap.size (itC a) 29 w4 from (hb4.block _ (lt_of_block J2.out)).trans J2.out)
  have B4 := Lib.hid (B3.out.trans (hb4.mono (by simp; have := B2.size; simp at this; omega)))
  clear r1 r2
  have c0 := L4.out.cell (j := 0) rfl; have c1 := L4.out.cell (j := 1) rfl; have c2 := L4.out.cell (j := 2) rfl; have c3 := L4.out.cell (j := 3) rfl; have c4 := L4.out.cell (j := 4) rfl; have c5 := L4.out.cell (j := 5) rfl; have c6 := L4.out.cell (j := 6) rfl; have c7 := L4.out.cell (j := 7) rfl; have c8 := L4.out.cell (j := 8) rfl; have c9 := L4.out.cell (j := 9) rfl; have c10 := L4.out.cell (j := 10) rfl
  have f0 := L4.out.free 0; have f1 := L4.out.free 1; have f2 := L4.out.free 2; have f3 := L4.out.free 3; have f4 := L4.out.free 4; have f5 := L4.out.free 5; have f6 := L4.out.free 6; have f7 := L4.out.free 7; have f8 := L4.out.free 8; have f9 := L4.out.free 9; have f10 := L4.out.free 10
  go_wp2_with fail
  exact get_ret (R := w.heap.size) rfl rfl rfl (L4.out.set11 _ _ _ _ _ _ _ _ _ _ _ ) (below_set11 B4.out (Nat.le_refl _) _ _ _ _ _ _ _ _ _ _ _ )
theorem itGet_ok (s : ByteArray) (hs : s.size ≤ 9223372036854775807) (a : It) (i : Nat) (hP : getM s = (a, i, 0)) (hi : ¬ i < s.size) (hr : right a = true) (w : World) : Calls Try.prog 16 #[.string s] w (GotI a 0 w) := by
  have W1 := Lib.hid (show Where s (0, 0) (w.heap.size + 1) ((w.alloc (.cells (itC (bare 0)) 29)).alloc (.cells #[.string s, .int .i64 0, .int .i64 0] 50)) from ⟨Nat.zero_le _, rd_new w s _ _⟩)
  have L1 := Lib.hid ((Lies.new w (itC (bare 0)) 29).al (o := .cells #[.string s, .int .i64 0, .int .i64 0] 50))
  have B1 := Lib.hid (below_al (o := .cells #[.string s, .int .i64 0, .int .i64 0] 50) (below_al (o := .cells (itC (bare 0)) 29) (Below.refl w.heap.size w)))
  have HP := Lib.hid hP
  have hi' : ¬ (i : Int) < s.size := by omega
  have HR := Lib.hid (fun w => itRight a w)
  clear hP hi
  go_enter Try.func16, Try.ntmps16
  go_wp2_with fail
  refine (itItem hs W1.out).mono ?_
  rw [HP.out]
  rintro e w2 ⟨rfl, W2, B2⟩
  have L2 := Lib.hid ((L1.out.but (by omega) B2).al (o := .cells (itC a) 29))
  have J2 := Lib.hid (Lies.new w2 (itC a) 29)
  have W3 := Lib.hid (W2.al (o := .cells (itC a) 29))
  have B3 := Lib.hid (below_al (o := .cells (itC a) 29) (B2.below B1.out (by omega) (by simp; omega)))
  have r1 := W3.out.rd.c1; have r2 := W3.out.rd.c2
  go_wp2_with fail
  refine (HR.out _).mono ?_
  rintro e w4 ⟨rfl, hb4⟩
  have L4 := Lib.hid (show Lies w.heap.size (itC (bare 0)) 29 w4 from (hb4.block _ (lt_of_block L2.out)).trans L2.out)
  have J4 := Lib.hid (show Lies w2.heap.size (itC a) 29 w4 from (hb4.block _ (lt_of_block J2.out)).trans J2.out)
  have B4 := Lib.hid (B3.out.trans (hb4.mono (by simp; have := B2.size; simp at this; omega)))
  clear r1 r2
  have c0 := L4.out.cell (j := 0) rfl; have c1 := L4.out.cell (j := 1) rfl; have c2 := L4.out.cell (j := 2) rfl; have c3 := L4.out.cell (j := 3) rfl; have c4 := L4.out.cell (j := 4) rfl; have c5 := L4.out.cell (j := 5) rfl; have c6 := L4.out.cell (j := 6) rfl; have c7 := L4.out.cell (j := 7) rfl; have c8 := L4.out.cell (j := 8) rfl; have c9 := L4.out.cell (j := 9) rfl; have c10 := L4.out.cell (j := 10) rfl
  have f0 := L4.out.free 0; have f1 := L4.out.free 1; have f2 := L4.out.free 2; have f3 := L4.out.free 3; have f4 := L4.out.free 4; have f5 := L4.out.free 5; have f6 := L4.out.free 6; have f7 := L4.out.free 7; have f8 := L4.out.free 8; have f9 := L4.out.free 9; have f10 := L4.out.free 10
  have d0 := J4.out.cell (j := 0) rfl; have d1 := J4.out.cell (j := 1) rfl; have d2 := J4.out.cell (j := 2) rfl; have d3 := J4.out.cell (j := 3) rfl; have d4 := J4.out.cell (j := 4) rfl; have d5 := J4.out.cell (j := 5) rfl; have d6 := J4.out.cell (j := 6) rfl; have d7 := J4.out.cell (j := 7) rfl; have d8 := J4.out.cell (j := 8) rfl; have d9 := J4.out.cell (j := 9) rfl; have d10 := J4.out.cell (j := 10) rfl
  go_wp2_with fail
  exact get_ret (R := w.heap.size) rfl rfl rfl (L4.out.set11 _ _ _ _ _ _ _ _ _ _ _ ) (below_set11 B4.out (Nat.le_refl _) _ _ _ _ _ _ _ _ _ _ _ )
end Go.Proofs.Ythgafhinlchghaa
