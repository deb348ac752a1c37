/- The code's hold: one more item is held. -/
import Derived.Test.YtgbklmncfajcgaaAlignCf
namespace Go.Proofs.Ytgbklmncfajcgaa
open Go.ChangeShapes Go.WideShapes Go.ChangeAt Go.RowKit
set_option linter.unusedVariables false
set_option maxRecDepth 8000
namespace Aln
open Gen (TellsB TellsI row_one flat_len flat_get Mine)
open Itm
/-- What hold's loads read. -/
structure ShAt (b b9 : Nat) (x : It) (v : Value) (w : World) : Prop where
  p : w.cell? ⟨b, 2, none⟩ = some v
  l : Lies b9 (itC x) 42 w
theorem ShAt.set {b b9 g : Nat} {x : It} {v : Value} {w : World} (h : ShAt b b9 x v w) (h1 : b ≠ g) (h2 : b9 ≠ g) (i : Nat) (u : Value) : ShAt b b9 x v (w.setCell ⟨g, i, none⟩ u) :=
  ⟨(Mine.set (M := (· = g)) w (a := ⟨g, i, none⟩) u rfl).cell h.p h1, h.l.other h2 i u⟩
theorem AgAt.grow {w0 : World} {b : Nat} {n : Int} {gs : List Bool} {hs : List Hd} {ng : Nat} {G : Option Addr} {cG g cH : Nat} {pass : Bool} {wh : Int} {vL : Value} {w w1 : World} {i : Nat} {x y : Hd} (h : AgAt w0 b n gs hs ng G cG (some ⟨g, 0, none⟩) cH pass wh vL w) (hx : hs[i]? = some x) (hg : w.grownBy w1 (hv x).ownBlock) (hy : OwnI w1 w0.heap.size y)
    (hl : (hv y).ownBlock = (hv x).ownBlock ∨ (hv y).ownBlock = some w.heap.size ∨ (hv y).ownBlock = none) : AgAt w0 b n gs (hs.set i y) ng G cG (some ⟨g, 0, none⟩) cH pass wh vL (w1.setCell ⟨g, i, none⟩ (hv y)) := by
  have hox := h.nest.each x (List.mem_of_getElem? hx)
  have hgb : b ≠ g := fun e => Gen.own_apart h.nest.outer h.st (by decide) (by rw [e]; rfl)
  have hgl : w0.heap.size ≤ g := (h.nest.outer.lt g rfl).1
  refine ⟨(lies_grownA h.st hg (fun e => Gen.own_apart hox h.st (by decide) e)).other hgb _ _, own_setA (own_grownA h.got hg (own_kindA h.got hox (Ne.symm it_bool))) ⟨g, i, none⟩ (fun e => own_kindA h.got h.nest.outer bool_rows g e rfl) _, h.nest.grow hx hg hy hl, h.low,
    (h.below.grown hg h.below.size fun q hq => (hox.lt q hq).1).setCell (p := ⟨g, i, none⟩) hgl _⟩
/-- One more is held. -/
def GivesHo (w0 : World) (b : Nat) (n : Int) (gs : List Bool) (hs : List Hd) (ng : Nat) (G : Option Addr) (cG : Nat) (H : Option Addr) (cH : Nat) (pass : Bool) (wh : Int) (vL : Value) (j : Nat) (l : List It) (e : Ending) (w' : World) : Prop :=
  e = .returned (.int .i64 0) ∧ ∃ y, y.2.2 = l ∧ AgAt w0 b n gs (hs.set j y) ng G cG H cH pass wh vL w'
set_option maxRecDepth 100000 in
theorem ckHold_full {w0 : World} {b : Nat} {n : Int} {gs : List Bool} {hs : List Hd} {ng : Nat} {G : Option Addr} {cG : Nat} {H : Option Addr} {cH : Nat} {pass : Bool} {wh : Int} {vL : Value} {w : World} {j : Nat} {A : Option Addr} {c : Nat} {l : List It} (h : AgAt w0 b n gs hs ng G cG H cH pass wh vL w) (hx : hs[j]? = some (A, c, l)) (h16 : l.length = 16) (x : It) :
    Calls Try.prog 45 #[.pointer (some ⟨b, 0, none⟩), .int .i64 j, itV x] w (TellsI 3 w) := by
  have hb0 := below_al (o := .cells (itC x) 42) (Below.refl w.heap.size w)
  have HB := Lib.hid hb0
  have A1 := Lib.hid (h.next hb0)
  have hj : j < ng := by rw [h.nest.len]; exact (List.getElem?_eq_some_iff.1 hx).1
  obtain ⟨g, rfl⟩ := outer_block h.nest.outer (by omega)
  have HX := Lib.hid hx
  have H16 := Lib.hid h16
  have hki : (j : Int) < (ng : Int) := by omega
  have hk0 : (0 : Int) ≤ (j : Int) := by omega
  clear hb0 h hx h16 hj
  go_enter Try.func45, Try.ntmps45
  go_upto_region 1 with fail
  obtain ⟨W, hW⟩ : ∃ W, W = w.alloc (.cells (itC x) 42) := ⟨_, rfl⟩
  rw [← hW] at A1 HB ⊢
  clear hW
  have x2 := A1.out.st.cell (j := 2) rfl
  obtain ⟨d0, _⟩ := outer_cell A1.out.nest.outer HX.out
  simp only [hv] at d0
  rw [H16.out] at d0
  go_wp2_with fail
  go_ret
  exact ⟨rfl, HB.out⟩
set_option maxRecDepth 100000 in
set_option maxHeartbeats 2000000 in
theorem ckHold_ok {w0 : World} {b : Nat} {n : Int} {gs : List Bool} {hs : List Hd} {n2 : Nat} {G : Option Addr} {cG : Nat} {H : Option Addr} {cP : Nat} {pass : Bool} {wh : Int} {vL : Value} {w : World} {j : Nat} {Ah : Option Addr} {ch : Nat} {p : List It} (h : AgAt w0 b n gs hs n2 G cG H cP pass wh vL w) (hx : hs[j]? = some (Ah, ch, p)) (h16 : p.length < 16) (x : It) :
    Calls Try.prog 45 #[.pointer (some ⟨b, 0, none⟩), .int .i64 j, itV x] w (GivesHo w0 b n gs hs n2 G cG H cP pass wh vL j (p ++ [x])) := by
  have hb0 := below_al (o := .cells (itC x) 42) (Below.refl w.heap.size w)
  have C4 := Lib.hid (h.next hb0)
  have hj : j < n2 := by rw [h.nest.len]; exact (List.getElem?_eq_some_iff.1 hx).1
  obtain ⟨g, rfl⟩ := outer_block h.nest.outer (by omega)
  have LY4 := Lib.hid (Lies.new w (itC x) 42)
  have HNB : Hid ((hv (Ah, ch, p)).ownBlock ≠ some w.heap.size) := Lib.hid (fun e => by have := ((h.nest.each _ (List.mem_of_getElem? hx)).lt _ e).2; omega)
  have HXJ := Lib.hid hx
  obtain ⟨m2, hm2⟩ : ∃ m2, m2 = p.length := ⟨_, rfl⟩
  have HM2 := Lib.hid hm2
  have HM14 : Hid (m2 < 16) := Lib.hid (by rw [hm2]; exact h16)
  have hne : ((m2 : Int) == 16) = false := ne_b (by rw [hm2]; omega)
  have hki : (j : Int) < (n2 : Int) := by omega
  have hk0 : (0 : Int) ≤ (j : Int) := by omega
  clear hb0 h hx h16 hj hm2
  go_enter Try.func45, Try.ntmps45
  go_upto_region 1 with fail
  obtain ⟨b9, hb9⟩ : ∃ b, b = w.heap.size := ⟨_, rfl⟩
  obtain ⟨W4, hW4⟩ : ∃ W, W = w.alloc (.cells (itC x) 42) := ⟨_, rfl⟩
  rw [← hW4] at C4 LY4 ⊢
  rw [← hb9] at LY4 HNB ⊢
  clear hW4 hb9
  have p0 := C4.out.st.cell (j := 2) rfl
  obtain ⟨d0, _⟩ := outer_cell C4.out.nest.outer HXJ.out
  have OI := Lib.hid (C4.out.nest.each _ (List.mem_of_getElem? HXJ.out))
  simp only [OwnI] at OI
  simp only [hv] at d0
  rw [← HM2.out] at d0 OI
  go_upto_region 3 with fail
  obtain ⟨i0, hi0, hz0, hz1, hz2⟩ := Gen.info_of InfoI
  have HI0 := Lib.hid hi0; have HZ0 := Lib.hid hz0; have HZ1 := Lib.hid hz1; have HZ2 := Lib.hid hz2
  have hbA := below_drewOf (below_al (o := .cells (itC x) 42) (Below.refl W4.heap.size W4))
  have CA := Lib.hid (C4.out.next hbA)
  have OA := Lib.hid (own_upA OI.out hbA)
  have HKB : Hid (w0.heap.size ≤ (W4.alloc (.cells (itC x) 42)).drew.heap.size) := Lib.hid CA.out.below.size
  have HNEW : Hid (∀ j u, (itL x)[j]? = some u → (W4.alloc (.cells (itC x) 42)).drew.cell? ((⟨W4.heap.size, 0, none⟩ : Addr).add j) = some u) := Lib.hid (fun j u hu => by
    rw [Go.WideShapes.add_plain]
    refine Lies.cell (w := (W4.alloc (.cells (itC x) 42)).drew) (Lies.new W4 (itC x) 42) ?_
    rw [Nat.zero_add, ← hu]
    simp [itL])
  have y00 := LY4.out.cell (j := 0) rfl; have y01 := LY4.out.cell (j := 1) rfl; have y02 := LY4.out.cell (j := 2) rfl; have y03 := LY4.out.cell (j := 3) rfl; have y04 := LY4.out.cell (j := 4) rfl; have y05 := LY4.out.cell (j := 5) rfl; have y06 := LY4.out.cell (j := 6) rfl; have y07 := LY4.out.cell (j := 7) rfl; have y08 := LY4.out.cell (j := 8) rfl; have y09 := LY4.out.cell (j := 9) rfl; have y10 := LY4.out.cell (j := 10) rfl
  have HPG : Hid (b ≠ g) := Lib.hid (fun e => Gen.own_apart CA.out.nest.outer CA.out.st (by decide) (by rw [e]; rfl))
  have LA := Lib.hid (LY4.out.below hbA)
  have HBG : Hid (b9 ≠ g) := Lib.hid (fun e => Gen.own_apart CA.out.nest.outer LA.out (by decide) (by rw [e]; rfl))
  have S0 : ShAt b b9 x (.slice (some ⟨g, 0, none⟩) n2 cP) W4.drew := ⟨p0, LY4.out⟩
  have S1 : ShAt b b9 x (.slice (some ⟨g, 0, none⟩) n2 cP) (W4.alloc (.cells (itC x) 42)).drew := ⟨CA.out.st.cell (j := 2) rfl, LA.out⟩
  have hlt6 := lt_of_block LY4.out
  have hltg := (C4.out.nest.outer.lt g rfl).2
  have hltp := lt_of_block C4.out.st
  clear hi0 hz0 hz1 hz2
  refine wp_region_noPanic ?_
  refine wp_region_held_drew (S := ShAt b b9 x (.slice (some ⟨g, 0, none⟩) n2 cP)) (by kernel_rfl) S0 (fun hHeld => ?_)
  refine @wpAnyH_take _ _ _ _ _ 0 { dst := some 17, op := Op.move (Operand.tmp 0), type := 68, pos := "align.go:49", after := #[], guard := none } (.pointer (some ⟨b, 0, none⟩)) _ _ _ _ rfl (by kernel_rfl) (by kernel_rfl) (by kernel_rfl) (fun _ _ _ h => h) (Or.inl ⟨by rfl, ?y1⟩) (by assumption) ?_
  case y1 => (intro w9 hSw; go_simp)
  (try simp only [Act.put, List.setIfInBounds_toArray, List.set_cons_zero, List.set_cons_succ])
  refine @wpAnyH_take _ _ _ _ _ 1 { dst := some 18, op := Op.nilCheck (Operand.tmp 17), type := 0, pos := "align.go:49", after := #[{ on := 0, ground := Ground.data }], guard := none } (.pointer (some ⟨b, 0, none⟩)) _ _ _ _ rfl (by kernel_rfl) (by kernel_rfl) (by kernel_rfl) (fun _ _ _ h => h) (Or.inl ⟨by rfl, ?y2⟩) (by assumption) ?_
  case y2 => (intro w9 hSw; go_simp)
  (try simp only [Act.put, List.setIfInBounds_toArray, List.set_cons_zero, List.set_cons_succ])
  refine @wpAnyH_take _ _ _ _ _ 2 { dst := some 19, op := Op.fieldAddr 72 (Operand.tmp 18) 0, type := 0, pos := "align.go:49", after := #[{ on := 1, ground := Ground.data }], guard := none } (.pointer (some ⟨b, 0, none⟩)) _ _ _ _ rfl (by kernel_rfl) (by kernel_rfl) (by kernel_rfl) (fun _ _ _ h => h) (Or.inl ⟨by rfl, ?y3⟩) (by assumption) ?_
  case y3 => (intro w9 hSw; go_simp)
  (try simp only [Act.put, List.setIfInBounds_toArray, List.set_cons_zero, List.set_cons_succ])
  refine @wpAnyH_take _ _ _ _ _ 3 { dst := some 20, op := Op.fieldAddr 25 (Operand.tmp 19) 2, type := 0, pos := "align.go:49", after := #[{ on := 2, ground := Ground.data }], guard := none } (.pointer (some ⟨b, 2, none⟩)) _ _ _ _ rfl (by kernel_rfl) (by kernel_rfl) (by kernel_rfl) (fun _ _ _ h => h) (Or.inl ⟨by rfl, ?y4⟩) (by assumption) ?_
  case y4 => (intro w9 hSw; go_simp)
  (try simp only [Act.put, List.setIfInBounds_toArray, List.set_cons_zero, List.set_cons_succ])
  refine @wpAnyH_take _ _ _ _ _ 4 { dst := some 21, op := Op.load 23 (Operand.tmp 20), type := 23, pos := "align.go:49", after := #[{ on := 3, ground := Ground.data }], guard := none } (.slice (some ⟨g, 0, none⟩) n2 cP) _ _ _ _ rfl (by kernel_rfl) (by kernel_rfl) (by kernel_rfl) (fun _ _ _ h => h) (Or.inl ⟨by rfl, ?y5⟩) (by assumption) ?_
  case y5 => (intro w9 hSw; have s0 := hSw.p; go_simp)
  (try simp only [Act.put, List.setIfInBounds_toArray, List.set_cons_zero, List.set_cons_succ])
  refine @wpAnyH_take _ _ _ _ _ 5 { dst := some 22, op := Op.move (Operand.tmp 1), type := 3, pos := "align.go:49", after := #[], guard := none } (.int .i64 (j : Int)) _ _ _ _ rfl (by kernel_rfl) (by kernel_rfl) (by kernel_rfl) (fun _ _ _ h => h) (Or.inl ⟨by rfl, ?y6⟩) (by assumption) ?_
  case y6 => (intro w9 hSw; go_simp)
  (try simp only [Act.put, List.setIfInBounds_toArray, List.set_cons_zero, List.set_cons_succ])
  refine @wpAnyH_take _ _ _ _ _ 6 { dst := some 23, op := Op.move (Operand.tmp 0), type := 68, pos := "align.go:49", after := #[], guard := none } (.pointer (some ⟨b, 0, none⟩)) _ _ _ _ rfl (by kernel_rfl) (by kernel_rfl) (by kernel_rfl) (fun _ _ _ h => h) (Or.inl ⟨by rfl, ?y7⟩) (by assumption) ?_
  case y7 => (intro w9 hSw; go_simp)
  (try simp only [Act.put, List.setIfInBounds_toArray, List.set_cons_zero, List.set_cons_succ])
  refine @wpAnyH_take _ _ _ _ _ 7 { dst := some 24, op := Op.nilCheck (Operand.tmp 23), type := 0, pos := "align.go:49", after := #[{ on := 6, ground := Ground.data }], guard := none } (.pointer (some ⟨b, 0, none⟩)) _ _ _ _ rfl (by kernel_rfl) (by kernel_rfl) (by kernel_rfl) (fun _ _ _ h => h) (Or.inl ⟨by rfl, ?y8⟩) (by assumption) ?_
  case y8 => (intro w9 hSw; go_simp)
  (try simp only [Act.put, List.setIfInBounds_toArray, List.set_cons_zero, List.set_cons_succ])
  refine @wpAnyH_take _ _ _ _ _ 8 { dst := some 25, op := Op.fieldAddr 72 (Operand.tmp 24) 0, type := 0, pos := "align.go:49", after := #[{ on := 7, ground := Ground.data }], guard := none } (.pointer (some ⟨b, 0, none⟩)) _ _ _ _ rfl (by kernel_rfl) (by kernel_rfl) (by kernel_rfl) (fun _ _ _ h => h) (Or.inl ⟨by rfl, ?y9⟩) (by assumption) ?_
  case y9 => (intro w9 hSw; go_simp)
  (try simp only [Act.put, List.setIfInBounds_toArray, List.set_cons_zero, List.set_cons_succ])
  refine @wpAnyH_take _ _ _ _ _ 9 { dst := some 26, op := Op.fieldAddr 25 (Operand.tmp 25) 2, type := 0, pos := "align.go:49", after := #[{ on := 8, ground := Ground.data }], guard := none } (.pointer (some ⟨b, 2, none⟩)) _ _ _ _ rfl (by kernel_rfl) (by kernel_rfl) (by kernel_rfl) (fun _ _ _ h => h) (Or.inl ⟨by rfl, ?y10⟩) (by assumption) ?_
  case y10 => (intro w9 hSw; go_simp)
  (try simp only [Act.put, List.setIfInBounds_toArray, List.set_cons_zero, List.set_cons_succ])
  refine @wpAnyH_take _ _ _ _ _ 10 { dst := some 27, op := Op.load 23 (Operand.tmp 26), type := 23, pos := "align.go:49", after := #[{ on := 9, ground := Ground.data }], guard := none } (.slice (some ⟨g, 0, none⟩) n2 cP) _ _ _ _ rfl (by kernel_rfl) (by kernel_rfl) (by kernel_rfl) (fun _ _ _ h => h) (Or.inl ⟨by rfl, ?y11⟩) (by assumption) ?_
  case y11 => (intro w9 hSw; have s0 := hSw.p; go_simp)
  (try simp only [Act.put, List.setIfInBounds_toArray, List.set_cons_zero, List.set_cons_succ])
  refine @wpAnyH_take _ _ _ _ _ 11 { dst := some 28, op := Op.move (Operand.tmp 1), type := 3, pos := "align.go:49", after := #[], guard := none } (.int .i64 (j : Int)) _ _ _ _ rfl (by kernel_rfl) (by kernel_rfl) (by kernel_rfl) (fun _ _ _ h => h) (Or.inl ⟨by rfl, ?y12⟩) (by assumption) ?_
  case y12 => (intro w9 hSw; go_simp)
  (try simp only [Act.put, List.setIfInBounds_toArray, List.set_cons_zero, List.set_cons_succ])
  refine @wpAnyH_take _ _ _ _ _ 12 { dst := some 29, op := Op.indexAddr 23 (Operand.tmp 27) (Operand.tmp 28), type := 0, pos := "align.go:49", after := #[{ on := 10, ground := Ground.data }, { on := 11, ground := Ground.data }], guard := none } (.pointer (some ⟨g, j, none⟩)) _ _ _ _ rfl (by kernel_rfl) (by kernel_rfl) (by kernel_rfl) (fun _ _ _ h => h) (Or.inl ⟨by rfl, ?y13⟩) (by assumption) ?_
  case y13 => (intro w9 hSw; go_simp)
  (try simp only [Act.put, List.setIfInBounds_toArray, List.set_cons_zero, List.set_cons_succ])
  refine @wpAnyH_take _ _ _ _ _ 14 { dst := some 31, op := Op.load 42 (Operand.tmp 5), type := 42, pos := "align.go:49", after := #[], guard := none } (itV x) _ _ _ _ rfl (by kernel_rfl) (by kernel_rfl) (by kernel_rfl) (fun _ _ _ h => h) (Or.inl ⟨by rfl, ?y14⟩) (by assumption) ?_
  case y14 => (intro w9 hSw; have s1 := hSw.l.cell (j := 0) rfl; have s2 := hSw.l.cell (j := 1) rfl; have s3 := hSw.l.cell (j := 2) rfl; have s4 := hSw.l.cell (j := 3) rfl; have s5 := hSw.l.cell (j := 4) rfl; have s6 := hSw.l.cell (j := 5) rfl; have s7 := hSw.l.cell (j := 6) rfl; have s8 := hSw.l.cell (j := 7) rfl; have s9 := hSw.l.cell (j := 8) rfl; have s10 := hSw.l.cell (j := 9) rfl; have s11 := hSw.l.cell (j := 10) rfl; go_simp)
  (try simp only [Act.put, List.setIfInBounds_toArray, List.set_cons_zero, List.set_cons_succ])
  refine wpAnyH_ready (rs := [13, 15]) (by kernel_rfl) (by simp) ?_
  refine AllReadyH.cons (o := { dst := some 30, op := Op.load 30 (Operand.tmp 29), type := 30, pos := "align.go:49", after := #[{ on := 12, ground := Ground.data }], guard := none }) rfl (fun KK hK => ?_) ?_
  · go_simp
    refine hK.out _ _ (S0) (fun hHeld => ?_)
    clear hK KK
    (try simp only [Act.put, List.setIfInBounds_toArray, List.set_cons_zero, List.set_cons_succ])
    refine wpAnyH_ready (rs := [15]) (by kernel_rfl) (by simp) ?_
    refine AllReadyH.cons (o := { dst := some 32, op := Op.buildSlice 30 1 #[(0, Operand.tmp 31)], type := 30, pos := "align.go:49", after := #[{ on := 14, ground := Ground.data }], guard := none }) rfl (fun KK hK => ?_) ?_
    · go_simp
      refine hK.out _ _ (S1) (fun hHeld => ?_)
      clear hK KK
      (try simp only [Act.put, List.setIfInBounds_toArray, List.set_cons_zero, List.set_cons_succ])
      refine wpAnyH_ready (rs := [16]) (by kernel_rfl) (by simp) ?_
      refine AllReadyH.cons (o := { dst := some 33, op := Op.call { callee := Callee.builtin Builtin.append, args := #[Operand.tmp 30, Operand.tmp 32], argTypes := #[30, 30] }, type := 30, pos := "align.go:49", after := #[{ on := 13, ground := Ground.data }, { on := 15, ground := Ground.data }], guard := none }) rfl (fun KK hK => ?_) ?_
      · refine Gen.step_append_own rfl (.tmp 30) (.tmp 32) 30 rfl w0.heap.size 42 i0 _ 11 104 Try.underlying30 HI0.out HZ0.out HZ1.out HZ2.out rfl (by omega) (.slice Ah m2 ch) m2 (itc p) (by simp [Act.eval]) OA.out ⟨W4.heap.size, 0, none⟩ 1 1 (itL x) (by simp [Act.eval]) rfl HNEW.out (fun u hu => onesI [x] u (by simpa [itc] using hu)) (by unfold maxLen; have := HM14.out; omega) (by have := HM14.out; omega) HKB.out ?_
        intro v' w' hown' hgrow hloc
        obtain ⟨A', c', rfl, _⟩ := own_form hown' (by omega)
        have HO' := Lib.hid hown'
        have HG' := Lib.hid hgrow
        have HLC := Lib.hid hloc
        have OUT' := Lib.hid (own_grownA CA.out.nest.outer hgrow (own_kindA CA.out.nest.outer OA.out (Ne.symm it_rows)))
        have PP' := Lib.hid (lies_grownA CA.out.st hgrow (fun e => Gen.own_apart OA.out CA.out.st (by decide) e))
        have LL' := Lib.hid (lies_grownA LA.out hgrow (fun e => HNB.out (by rw [HM2.out] at e; exact e)))
        have q1 := (outer_cell OUT'.out HXJ.out).1
        have f1 := (outer_cell OUT'.out HXJ.out).2
        have S5 : ShAt b b9 x (.slice (some ⟨g, 0, none⟩) n2 cP) w' := ⟨PP'.out.cell (j := 2) rfl, LL'.out⟩
        clear hown' hgrow hloc
        refine hK.out _ _ (S5) (fun hHeld => ?_)
        clear hK KK
        (try simp only [Act.put, List.setIfInBounds_toArray, List.set_cons_zero, List.set_cons_succ])
        refine @wpAnyH_take _ _ _ _ _ 17 { dst := some 34, op := Op.indexAddr 23 (Operand.tmp 21) (Operand.tmp 22), type := 0, pos := "align.go:49", after := #[{ on := 4, ground := Ground.data }, { on := 5, ground := Ground.data }, { on := 0, ground := Ground.phase }, { on := 1, ground := Ground.phase }, { on := 2, ground := Ground.phase }, { on := 3, ground := Ground.phase }, { on := 4, ground := Ground.phase }, { on := 5, ground := Ground.phase }, { on := 6, ground := Ground.phase }, { on := 7, ground := Ground.phase }, { on := 8, ground := Ground.phase }, { on := 9, ground := Ground.phase }, { on := 10, ground := Ground.phase }, { on := 11, ground := Ground.phase }, { on := 12, ground := Ground.phase }, { on := 13, ground := Ground.phase }, { on := 14, ground := Ground.phase }, { on := 15, ground := Ground.phase }, { on := 16, ground := Ground.phase }], guard := none } (.pointer (some ⟨g, j, none⟩)) _ _ _ _ rfl (by kernel_rfl) (by kernel_rfl) (by kernel_rfl) (fun _ _ _ h => h) (Or.inl ⟨by rfl, ?y15⟩) (by assumption) ?_
        case y15 => (intro w9 hSw; go_simp)
        (try simp only [Act.put, List.setIfInBounds_toArray, List.set_cons_zero, List.set_cons_succ])
        refine wpAnyH_ready (rs := [18]) (by kernel_rfl) (by simp) ?_
        refine AllReadyH.cons (o := { dst := none, op := Op.store 30 (Operand.tmp 34) (Operand.tmp 33), type := 0, pos := "align.go:49", after := #[{ on := 17, ground := Ground.data }, { on := 16, ground := Ground.data }, { on := 16, ground := Ground.chain }, { on := 0, ground := Ground.phase }, { on := 1, ground := Ground.phase }, { on := 2, ground := Ground.phase }, { on := 3, ground := Ground.phase }, { on := 4, ground := Ground.phase }, { on := 5, ground := Ground.phase }, { on := 6, ground := Ground.phase }, { on := 7, ground := Ground.phase }, { on := 8, ground := Ground.phase }, { on := 9, ground := Ground.phase }, { on := 10, ground := Ground.phase }, { on := 11, ground := Ground.phase }, { on := 12, ground := Ground.phase }, { on := 13, ground := Ground.phase }, { on := 14, ground := Ground.phase }, { on := 15, ground := Ground.phase }, { on := 16, ground := Ground.phase }], guard := none }) rfl (fun KK hK => ?_) ?_
        · go_simp
          refine hK.out _ _ (S5.set HPG.out HBG.out _ _) (fun hHeld => ?_)
          clear hK KK
          (try simp only [Act.put, List.setIfInBounds_toArray, List.set_cons_zero, List.set_cons_succ])
          refine wpAnyH_done (by kernel_rfl) ?_ _
          refine NoPanic.normal ?_
          (try simp only [Act.put, List.setIfInBounds_toArray, List.set_cons_zero, List.set_cons_succ])
          have hm := HM2.out
          subst hm
          have e1 : (p ++ [x]).length = p.length + 1 := by simp
          have hy : OwnI w' w0.heap.size (A', c', p ++ [x]) := by
            unfold OwnI
            simp only
            rw [e1, appI, show itc [x] = itL x by simp [itc]]
            exact HO'.out
          have hl3 : (hv (A', c', p ++ [x])).ownBlock = (hv (Ah, ch, p)).ownBlock ∨ (hv (A', c', p ++ [x])).ownBlock = some (W4.alloc (.cells (itC x) 42)).drew.heap.size ∨ (hv (A', c', p ++ [x])).ownBlock = none := by
            simp only [hv]
            rw [e1]
            rcases HLC.out with h | h
            · exact .inl h
            · exact .inr (.inl h)
          have AF := Lib.hid (CA.out.grow HXJ.out HG'.out hy hl3)
          simp only [hv, e1] at AF
          clear hy hl3 HG' HO' HLC OUT' PP' LL' q1 f1 S5 CA OA HNEW LA S0 S1 LY4 OI C4 d0 p0 y00 y01 y02 y03 y04 y05 y06 y07 y08 y09 y10 e1 HM14 HKB HNB HPG HBG hlt6 hltg hltp
          obtain ⟨W9, hW9⟩ : ∃ W, W = World.setCell w' ⟨g, j, none⟩ (.slice A' (p.length + 1) c') := ⟨_, rfl⟩
          rw [← hW9] at AF ⊢
          clear hW9
          go_wp2_with fail
          go_ret
          exact ⟨rfl, (A', c', p ++ [x]), rfl, AF.out⟩
        exact AllReadyH.nil
      exact AllReadyH.nil
    exact AllReadyH.nil
  refine AllReadyH.cons (o := { dst := some 32, op := Op.buildSlice 30 1 #[(0, Operand.tmp 31)], type := 30, pos := "align.go:49", after := #[{ on := 14, ground := Ground.data }], guard := none }) rfl (fun KK hK => ?_) ?_
  · go_simp
    refine hK.out _ _ (S1) (fun hHeld => ?_)
    clear hK KK
    (try simp only [Act.put, List.setIfInBounds_toArray, List.set_cons_zero, List.set_cons_succ])
    refine wpAnyH_ready (rs := [13]) (by kernel_rfl) (by simp) ?_
    refine AllReadyH.cons (o := { dst := some 30, op := Op.load 30 (Operand.tmp 29), type := 30, pos := "align.go:49", after := #[{ on := 12, ground := Ground.data }], guard := none }) rfl (fun KK hK => ?_) ?_
    · go_simp
      refine hK.out _ _ (S1) (fun hHeld => ?_)
      clear hK KK
      (try simp only [Act.put, List.setIfInBounds_toArray, List.set_cons_zero, List.set_cons_succ])
      refine wpAnyH_ready (rs := [16]) (by kernel_rfl) (by simp) ?_
      refine AllReadyH.cons (o := { dst := some 33, op := Op.call { callee := Callee.builtin Builtin.append, args := #[Operand.tmp 30, Operand.tmp 32], argTypes := #[30, 30] }, type := 30, pos := "align.go:49", after := #[{ on := 13, ground := Ground.data }, { on := 15, ground := Ground.data }], guard := none }) rfl (fun KK hK => ?_) ?_
      · refine Gen.step_append_own rfl (.tmp 30) (.tmp 32) 30 rfl w0.heap.size 42 i0 _ 11 104 Try.underlying30 HI0.out HZ0.out HZ1.out HZ2.out rfl (by omega) (.slice Ah m2 ch) m2 (itc p) (by simp [Act.eval]) OA.out ⟨W4.heap.size, 0, none⟩ 1 1 (itL x) (by simp [Act.eval]) rfl HNEW.out (fun u hu => onesI [x] u (by simpa [itc] using hu)) (by unfold maxLen; have := HM14.out; omega) (by have := HM14.out; omega) HKB.out ?_
        intro v' w' hown' hgrow hloc
        obtain ⟨A', c', rfl, _⟩ := own_form hown' (by omega)
        have HO' := Lib.hid hown'
        have HG' := Lib.hid hgrow
        have HLC := Lib.hid hloc
        have OUT' := Lib.hid (own_grownA CA.out.nest.outer hgrow (own_kindA CA.out.nest.outer OA.out (Ne.symm it_rows)))
        have PP' := Lib.hid (lies_grownA CA.out.st hgrow (fun e => Gen.own_apart OA.out CA.out.st (by decide) e))
        have LL' := Lib.hid (lies_grownA LA.out hgrow (fun e => HNB.out (by rw [HM2.out] at e; exact e)))
        have q1 := (outer_cell OUT'.out HXJ.out).1
        have f1 := (outer_cell OUT'.out HXJ.out).2
        have S5 : ShAt b b9 x (.slice (some ⟨g, 0, none⟩) n2 cP) w' := ⟨PP'.out.cell (j := 2) rfl, LL'.out⟩
        clear hown' hgrow hloc
        refine hK.out _ _ (S5) (fun hHeld => ?_)
        clear hK KK
        (try simp only [Act.put, List.setIfInBounds_toArray, List.set_cons_zero, List.set_cons_succ])
        refine @wpAnyH_take _ _ _ _ _ 17 { dst := some 34, op := Op.indexAddr 23 (Operand.tmp 21) (Operand.tmp 22), type := 0, pos := "align.go:49", after := #[{ on := 4, ground := Ground.data }, { on := 5, ground := Ground.data }, { on := 0, ground := Ground.phase }, { on := 1, ground := Ground.phase }, { on := 2, ground := Ground.phase }, { on := 3, ground := Ground.phase }, { on := 4, ground := Ground.phase }, { on := 5, ground := Ground.phase }, { on := 6, ground := Ground.phase }, { on := 7, ground := Ground.phase }, { on := 8, ground := Ground.phase }, { on := 9, ground := Ground.phase }, { on := 10, ground := Ground.phase }, { on := 11, ground := Ground.phase }, { on := 12, ground := Ground.phase }, { on := 13, ground := Ground.phase }, { on := 14, ground := Ground.phase }, { on := 15, ground := Ground.phase }, { on := 16, ground := Ground.phase }], guard := none } (.pointer (some ⟨g, j, none⟩)) _ _ _ _ rfl (by kernel_rfl) (by kernel_rfl) (by kernel_rfl) (fun _ _ _ h => h) (Or.inl ⟨by rfl, ?y16⟩) (by assumption) ?_
        case y16 => (intro w9 hSw; go_simp)
        (try simp only [Act.put, List.setIfInBounds_toArray, List.set_cons_zero, List.set_cons_succ])
        refine wpAnyH_ready (rs := [18]) (by kernel_rfl) (by simp) ?_
        refine AllReadyH.cons (o := { dst := none, op := Op.store 30 (Operand.tmp 34) (Operand.tmp 33), type := 0, pos := "align.go:49", after := #[{ on := 17, ground := Ground.data }, { on := 16, ground := Ground.data }, { on := 16, ground := Ground.chain }, { on := 0, ground := Ground.phase }, { on := 1, ground := Ground.phase }, { on := 2, ground := Ground.phase }, { on := 3, ground := Ground.phase }, { on := 4, ground := Ground.phase }, { on := 5, ground := Ground.phase }, { on := 6, ground := Ground.phase }, { on := 7, ground := Ground.phase }, { on := 8, ground := Ground.phase }, { on := 9, ground := Ground.phase }, { on := 10, ground := Ground.phase }, { on := 11, ground := Ground.phase }, { on := 12, ground := Ground.phase }, { on := 13, ground := Ground.phase }, { on := 14, ground := Ground.phase }, { on := 15, ground := Ground.phase }, { on := 16, ground := Ground.phase }], guard := none }) rfl (fun KK hK => ?_) ?_
        · go_simp
          refine hK.out _ _ (S5.set HPG.out HBG.out _ _) (fun hHeld => ?_)
          clear hK KK
          (try simp only [Act.put, List.setIfInBounds_toArray, List.set_cons_zero, List.set_cons_succ])
          refine wpAnyH_done (by kernel_rfl) ?_ _
          refine NoPanic.normal ?_
          (try simp only [Act.put, List.setIfInBounds_toArray, List.set_cons_zero, List.set_cons_succ])
          have hm := HM2.out
          subst hm
          have e1 : (p ++ [x]).length = p.length + 1 := by simp
          have hy : OwnI w' w0.heap.size (A', c', p ++ [x]) := by
            unfold OwnI
            simp only
            rw [e1, appI, show itc [x] = itL x by simp [itc]]
            exact HO'.out
          have hl3 : (hv (A', c', p ++ [x])).ownBlock = (hv (Ah, ch, p)).ownBlock ∨ (hv (A', c', p ++ [x])).ownBlock = some (W4.alloc (.cells (itC x) 42)).drew.heap.size ∨ (hv (A', c', p ++ [x])).ownBlock = none := by
            simp only [hv]
            rw [e1]
            rcases HLC.out with h | h
            · exact .inl h
            · exact .inr (.inl h)
          have AF := Lib.hid (CA.out.grow HXJ.out HG'.out hy hl3)
          simp only [hv, e1] at AF
          clear hy hl3 HG' HO' HLC OUT' PP' LL' q1 f1 S5 CA OA HNEW LA S0 S1 LY4 OI C4 d0 p0 y00 y01 y02 y03 y04 y05 y06 y07 y08 y09 y10 e1 HM14 HKB HNB HPG HBG hlt6 hltg hltp
          obtain ⟨W9, hW9⟩ : ∃ W, W = World.setCell w' ⟨g, j, none⟩ (.slice A' (p.length + 1) c') := ⟨_, rfl⟩
          rw [← hW9] at AF ⊢
          clear hW9
          go_wp2_with fail
          go_ret
          exact ⟨rfl, (A', c', p ++ [x]), rfl, AF.out⟩
        exact AllReadyH.nil
      exact AllReadyH.nil
    exact AllReadyH.nil
  exact AllReadyH.nil
end Aln
end Go.Proofs.Ytgbklmncfajcgaa
