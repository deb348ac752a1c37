/- The reference's Write. -/
import Derived.Test.YtpjgdpdgfchhkaaStoreX
namespace Go.Proofs.Ytpjgdpdgfchhkaa
open Go.ChangeShapes Go.WideShapes Go.ChangeAt Go.RowKit
set_option linter.unusedVariables false
set_option maxRecDepth 8000
namespace So
open Gen (TellsB row_one flat_len flat_get)
theorem set1O {b : Nat} {C : Array Value} {T : TypeId} {w : World} (h : Lies b C T w) (i : Nat) (v : Value) : Lies b (C.setIfInBounds i v) T (w.setCell ⟨b, i, none⟩ v) := h.set i v
/-- The blocks of Write's loop. -/
structure WyAt (w0 : World) (x : Cl) (b9 : Nat) (A : Option Addr) (n c : Nat) (v : Value) (k : Nat) (us : List Cl) (a : World) : Prop where
  res : Lies (w0.heap.size + 1) #[.slice none 0 0, .slice none 0 0, .bool false] 24 a
  one : Lies (w0.heap.size + 1 + 1) (clC x) 43 a
  out : Lies b9 #[.slice A n c, v, .bool false] 24 a
  own : a.ownsRow (b9 + 1) 43 2 v k (clc us)
  below : Below w0.heap.size w0 a
  size : b9 + 1 ≤ a.heap.size
  high : w0.heap.size + 3 ≤ b9
theorem WyAt.next {w0 : World} {x : Cl} {b9 : Nat} {A : Option Addr} {n c : Nat} {v : Value} {k : Nat} {us : List Cl} {a b : World} (h : WyAt w0 x b9 A n c v k us a) (hb : Below a.heap.size a b) : WyAt w0 x b9 A n c v k us b :=
  ⟨h.res.below hb, h.one.below hb, h.out.below hb, own_upO h.own hb, below_next h.below hb, Nat.le_trans h.size hb.size, h.high⟩
/-- One is put behind. -/
theorem WyAt.put {w0 : World} {x : Cl} {b9 : Nat} {A : Option Addr} {n c : Nat} {v : Value} {k : Nat} {us : List Cl} {a b : World} (h : WyAt w0 x b9 A n c v k us a) (hg : a.grownBy b v.ownBlock) {v' : Value} {k' : Nat} {us' : List Cl} (ho : b.ownsRow (b9 + 1) 43 2 v' k' (clc us')) :
    WyAt w0 x b9 A n c v' k' us' (b.setCell ⟨b9, 1, none⟩ v') := by
  have hf : ∀ q, v.ownBlock = some q → b9 + 1 ≤ q := fun q hq => (h.own.lt q hq).1
  have hf' : v'.ownBlock ≠ some b9 := fun e => by have := (ho.lt _ e).1; omega
  have hh := h.high
  refine ⟨(lies_grownO h.res hg fun e => by have := hf _ e; omega).other (by omega) _ _, (lies_grownO h.one hg fun e => by have := hf _ e; omega).other (by omega) _ _,
    by have := (lies_grownO h.out hg fun e => by have := hf _ e; omega).set 1 v'; simpa using this, own_setO ho ⟨_, 1, none⟩ hf' v', (h.below.grown hg (by have := h.size; omega) fun q hq => by have := hf q hq; omega).setCell (p := ⟨b9, 1, none⟩) (show w0.heap.size ≤ b9 by omega) _, ?_, h.high⟩
  have := h.size
  have h2 := hg.size
  simp
  omega
theorem WyAt.lies {w0 : World} {x : Cl} {b9 : Nat} {A : Option Addr} {n c : Nat} {v : Value} {k : Nat} {us : List Cl} {a b : World} (h : WyAt w0 x b9 A n c v k us a) (hg : a.grownBy b v.ownBlock) : Lies b9 #[.slice A n c, v, .bool false] 24 b :=
  lies_grownO h.out hg fun e => by have := (h.own.lt _ e).1; omega
theorem WyAt.not_new {w0 : World} {x : Cl} {b9 : Nat} {A : Option Addr} {n c : Nat} {v : Value} {k : Nat} {us : List Cl} {a : World} (h : WyAt w0 x b9 A n c v k us a) : v.ownBlock ≠ some a.heap.size := fun e => by have := (h.own.lt _ e).2; omega
/-- The blocks before. -/
structure WzAt (w0 : World) (x : Cl) (A : Option Addr) (n c : Nat) (B : Option Addr) (m d : Nat) (dn : Bool) (a : World) : Prop where
  arg : Lies w0.heap.size #[.slice A n c, .slice B m d, .bool dn] 24 a
  res : Lies (w0.heap.size + 1) #[.slice none 0 0, .slice none 0 0, .bool false] 24 a
  one : Lies (w0.heap.size + 1 + 1) (clC x) 43 a
  below : Below w0.heap.size w0 a
  size : w0.heap.size + 3 ≤ a.heap.size
theorem WzAt.next {w0 : World} {x : Cl} {A : Option Addr} {n c : Nat} {B : Option Addr} {m d : Nat} {dn : Bool} {a b : World} (h : WzAt w0 x A n c B m d dn a) (hb : Below a.heap.size a b) : WzAt w0 x A n c B m d dn b :=
  ⟨h.arg.below hb, h.res.below hb, h.one.below hb, below_next h.below hb, Nat.le_trans h.size hb.size⟩
/-- Write's answer, in its parts. -/
theorem write_parts (cs fs : List Cl) (dn : Bool) (nm by' : List UInt8) (r my : Bool) (hr : r = rightS ⟨cs, fs, dn⟩) (hm : my = mayB ⟨nm, by'⟩) :
    writeO ⟨cs, fs, dn⟩ nm by' = if r = false then (zS, 1) else if my = false then (zS, 1) else if dn then (zS, 170) else if fs.length = 64 then (zS, 3) else (⟨cs, fs ++ [⟨nm, by'⟩], false⟩, 0) := by
  unfold writeO
  rw [← hr, ← hm]
  cases r <;> cases my <;> simp
theorem write_ret {w wF : World} {R p q : Nat} {o : Sr} {z : Int} {A : Option Addr} {c : Nat} {B : Option Addr} {d : Nat} {act : Act} (ht : act.tmps.getD 6 undef = .pointer (some ⟨R, 0, none⟩)) (he : act.tmps.getD 7 undef = .int .i64 z) (hd : act.defers = [])
    (hL : Lies R #[.slice A p c, .slice B q d, .bool o.down] 24 wF) (h1 : Row wF A (clc o.cells)) (h2 : Row wF B (clc o.fresh)) (h3 : p ≤ c) (h4 : q ≤ d) (hB : Below w.heap.size w wF) :
    bodyPost Try.prog Try.f11 (GivesSr o p q z w) .ret act wF := by
  have c0 := hL.cell (j := 0) rfl
  have c1 := hL.cell (j := 1) rfl
  have c2 := hL.cell (j := 2) rfl
  refine bodyPost_ret (v := .tuple #[srV A p c B q d o.down, .int .i64 z]) ?_ hd ⟨A, c, B, d, rfl, h1, h2, h3, h4, hB⟩
  have ht2 : act.tmps[6]?.getD undef = .pointer (some ⟨R, 0, none⟩) := by simpa using ht
  have he2 : act.tmps[7]?.getD undef = .int .i64 z := by simpa using he
  simp [results, Try.results11, go_sem, ht2, he2, c0, c1, c2]
set_option maxRecDepth 100000 in
set_option maxHeartbeats 1000000 in
theorem rfWrite (cs fs : List Cl) (n m : Nat) (dn : Bool) (hn : n = cs.length) (hm : m = fs.length) (nm by' : List UInt8) (o : Sr × Int) (ho : o = writeO ⟨cs, fs, dn⟩ nm by') (p q : Nat) (hp : p = o.1.cells.length) (hq : q = o.1.fresh.length) (A : Option Addr) (c : Nat) (B : Option Addr) (d : Nat) (w : World) (hA : Row w A (clc cs)) (hB : Row w B (clc fs)) (hc : n ≤ c) (hl : n ≤ 100000) (hl2 : m ≤ 100000) :
    Calls Try.prog 11 #[srV A n c B m d dn, .string (kS nm), .string (kS by')] w (GivesSr o.1 p q o.2 w) := by
  obtain ⟨r, hr⟩ : ∃ r, r = rightS ⟨cs, fs, dn⟩ := ⟨_, rfl⟩
  obtain ⟨my, hmy⟩ : ∃ r, r = mayB ⟨nm, by'⟩ := ⟨_, rfl⟩
  have HRT := Lib.hid (fun w' (hb : Below w.heap.size w w') => rfRight cs fs n m dn r hn hm hr A c B d w' (hA.below hb) (hB.below hb) (by omega) (by omega))
  have HMY := Lib.hid (fun w' => rfMay ⟨nm, by'⟩ my hmy w')
  simp only [clC] at HMY
  have HO : Hid (o = if r = false then (zS, 1) else if my = false then (zS, 1) else if dn then (zS, 170) else if m = 64 then (zS, 3) else (⟨cs, fs ++ [⟨nm, by'⟩], false⟩, 0)) := Lib.hid (by rw [ho, write_parts cs fs dn nm by' r my hr hmy, hm])
  have HP := Lib.hid hp
  have HQ := Lib.hid hq
  have HRA := Lib.hid hA
  have HRB := Lib.hid hB
  have HN := Lib.hid hn
  have HM := Lib.hid hm
  have HC := Lib.hid hc
  have WZ : Hid (WzAt w ⟨nm, by'⟩ A n c B m d dn (((w.alloc (.cells #[.slice A n c, .slice B m d, .bool dn] 24)).alloc (.cells #[.slice none 0 0, .slice none 0 0, .bool false] 24)).alloc (.cells #[.string (kS nm), .string (kS by')] 43))) := Lib.hid
    ⟨((Lies.new w _ _).al).al, (Gen.lies_new1 w _ _ _).al, Gen.lies_new2 w _ _ _ _, below_al (below_al (below_al (Below.refl _ _))), by simp⟩
  clear hA hB hn hm ho hp hq hr hmy hl hc
  go_enter Try.func11, Try.ntmps11
  go_upto_region 2 with fail
  obtain ⟨W, hW⟩ : ∃ W, W = ((w.alloc (.cells #[.slice A n c, .slice B m d, .bool dn] 24)).alloc (.cells #[.slice none 0 0, .slice none 0 0, .bool false] 24)).alloc (.cells #[.string (kS nm), .string (kS by')] 43) := ⟨_, rfl⟩
  rw [← hW] at WZ ⊢
  clear hW
  have x0 := WZ.out.arg.cell (j := 0) rfl; have x1 := WZ.out.arg.cell (j := 1) rfl; have x2 := WZ.out.arg.cell (j := 2) rfl
  go_wp2_with fail
  refine (HRT.out _ WZ.out.below).mono ?_
  rintro e w1 ⟨rfl, hb1⟩
  have WZ1 := Lib.hid (WZ.out.next hb1)
  clear hb1 x0 x1 x2 WZ
  cases r
  · have e1 : o = (zS, 1) := HO.out
    have LR1 := Lib.hid WZ1.out.res
    have HB1 := Lib.hid WZ1.out.below
    have y0 := LR1.out.cell (j := 0) rfl; have y1 := LR1.out.cell (j := 1) rfl; have y2 := LR1.out.cell (j := 2) rfl
    have z0 := LR1.out.free 0; have z1 := LR1.out.free 1; have z2 := LR1.out.free 2
    have hp0 : p = 0 := by rw [HP.out, e1]; rfl
    have hq0 : q = 0 := by rw [HQ.out, e1]; rfl
    subst e1
    subst hp0 hq0
    clear HO HP HQ
    go_wp2_with fail
    exact write_ret (o := zS) rfl rfl rfl (lies_set3O LR1.out _ _ _) (.inl rfl) (.inl rfl) (Nat.le_refl _) (Nat.le_refl _) (below_set3O HB1.out (Nat.le_succ _) _ _ _)
  · have x0 := WZ1.out.one.cell (j := 0) rfl; have x1 := WZ1.out.one.cell (j := 1) rfl
    go_wp2_with fail
    refine (HMY.out _).mono ?_
    rintro e w2 ⟨rfl, hb2⟩
    have WZ2 := Lib.hid (WZ1.out.next hb2)
    clear hb2 x0 x1 WZ1
    cases my
    · have e1 : o = (zS, 1) := HO.out
      have LR1 := Lib.hid WZ2.out.res
      have HB1 := Lib.hid WZ2.out.below
      have y0 := LR1.out.cell (j := 0) rfl; have y1 := LR1.out.cell (j := 1) rfl; have y2 := LR1.out.cell (j := 2) rfl
      have z0 := LR1.out.free 0; have z1 := LR1.out.free 1; have z2 := LR1.out.free 2
      have hp0 : p = 0 := by rw [HP.out, e1]; rfl
      have hq0 : q = 0 := by rw [HQ.out, e1]; rfl
      subst e1
      subst hp0 hq0
      clear HO HP HQ
      go_wp2_with fail
      exact write_ret (o := zS) rfl rfl rfl (lies_set3O LR1.out _ _ _) (.inl rfl) (.inl rfl) (Nat.le_refl _) (Nat.le_refl _) (below_set3O HB1.out (Nat.le_succ _) _ _ _)
    · have x2 := WZ2.out.arg.cell (j := 2) rfl
      cases dn
      · have x1 := WZ2.out.arg.cell (j := 1) rfl
        by_cases h64 : m = 64
        · have g1 : ((m : Int) == (64 : Int)) = true := eq_b (by omega)
          have e1 : o = (zS, 3) := by rw [HO.out, if_neg (by simp), if_neg (by simp), if_neg (by simp), if_pos h64]
          have LR1 := Lib.hid WZ2.out.res
          have HB1 := Lib.hid WZ2.out.below
          clear h64
          have y0 := LR1.out.cell (j := 0) rfl; have y1 := LR1.out.cell (j := 1) rfl; have y2 := LR1.out.cell (j := 2) rfl
          have z0 := LR1.out.free 0; have z1 := LR1.out.free 1; have z2 := LR1.out.free 2
          have hp0 : p = 0 := by rw [HP.out, e1]; rfl
          have hq0 : q = 0 := by rw [HQ.out, e1]; rfl
          subst e1
          subst hp0 hq0
          clear HO HP HQ
          go_wp2_with fail
          exact write_ret (o := zS) rfl rfl rfl (lies_set3O LR1.out _ _ _) (.inl rfl) (.inl rfl) (Nat.le_refl _) (Nat.le_refl _) (below_set3O HB1.out (Nat.le_succ _) _ _ _)
        · have g1 : ((m : Int) == (64 : Int)) = false := ne_b (by omega)
          have e1 : o = (⟨cs, fs ++ [⟨nm, by'⟩], false⟩, 0) := by rw [HO.out, if_neg (by simp), if_neg (by simp), if_neg (by simp), if_neg h64]
          have hp0 : p = n := by rw [HP.out, e1, HN.out]
          have hq0 : q = m + 1 := by rw [HQ.out, e1, HM.out]; simp
          subst e1
          subst hp0 hq0
          have x0 := WZ2.out.arg.cell (j := 0) rfl
          clear h64 HO HP HQ
          go_upto_region 9 with fail
          obtain ⟨b9, hb9⟩ : ∃ b, b = w2.heap.size := ⟨_, rfl⟩
          have WY : Hid (WyAt w ⟨nm, by'⟩ b9 A p c (.slice none 0 0) 0 [] (w2.alloc (.cells #[.slice A p c, .slice none 0 0, .bool false] 24))) := Lib.hid
            ⟨WZ2.out.res.al, WZ2.out.one.al, by rw [hb9]; exact Lies.new _ _ _, own_none, below_al WZ2.out.below, by rw [hb9]; simp, by rw [hb9]; exact WZ2.out.size⟩
          have LA3 := Lib.hid (WZ2.out.arg.al (o := .cells #[.slice A p c, .slice none 0 0, .bool false] 24))
          obtain ⟨W3, hW3⟩ : ∃ W, W = w2.alloc (.cells #[.slice A p c, .slice none 0 0, .bool false] 24) := ⟨_, rfl⟩
          rw [← hW3] at WY LA3 ⊢
          rw [← hb9]
          clear hW3 hb9 x0 x1 x2 WZ2 g1
          have x1 := LA3.out.cell (j := 1) rfl
          go_wp2_with fail
          clear x1 LA3
          go_loopw [38] (fun i wr => ∃ (k : Nat) (v : Value) (us : List Cl), i = .int .i64 k ∧ k ≤ m ∧ us = fs.take k ∧ k = us.length ∧ WyAt w ⟨nm, by'⟩ b9 A p c v k us wr) (fun i _ => m - (intOf i).toNat)
          case atStart => exact ⟨0, _, [], rfl, Nat.zero_le _, rfl, rfl, WY.out⟩
          case round =>
            clear WY
            obtain ⟨k, v, us, rfl, hk, hus, hkl, hAT⟩ := hrel
            have AT := Lib.hid hAT
            have HUS := Lib.hid hus
            have HKL := Lib.hid hkl
            clear hAT hus hkl
            by_cases hlt : k < m
            · obtain ⟨y, hy⟩ : ∃ y, fs[k]? = some y := ⟨_, List.getElem?_eq_getElem (by rw [← HM.out]; exact hlt)⟩
              obtain ⟨bq, off, hB1, d0, d1⟩ := cell_row (HRB.out.below AT.out.below) hy
              subst hB1
              have HST : Hid (us ++ [y] = fs.take (k + 1)) := Lib.hid (by rw [HUS.out, List.take_add_one, hy]; rfl)
              have hki : (k : Int) < (m : Int) := by omega
              have hw := wrapKO (k := k) (by omega)
              have HKM := Lib.hid hlt
              clear hy hlt hk
              obtain ⟨yn, yb⟩ := y
              simp only at d0 d1
              go_upto_region 12 with fail
              clear d0 d1
              have A1 := Lib.hid (AT.out.next (below_al (o := .cells #[.string (kS yn), .string (kS yb)] 43) (Below.refl wr.heap.size wr)))
              have LY := Lib.hid (Lies.new wr #[.string (kS yn), .string (kS yb)] 43)
              obtain ⟨b1, hb1⟩ : ∃ b, b = wr.heap.size := ⟨_, rfl⟩
              obtain ⟨W1, hW1⟩ : ∃ W, W = wr.alloc (.cells #[.string (kS yn), .string (kS yb)] 43) := ⟨_, rfl⟩
              rw [← hW1] at A1 LY ⊢
              rw [← hb1] at LY ⊢
              clear hW1 hb1 AT
              have o1 := A1.out.out.cell (j := 1) rfl
              have y0 := LY.out.cell (j := 0) rfl; have y1 := LY.out.cell (j := 1) rfl
              go_wp2_with (at_builtin; refine hold_mk ?_)
              refine hold_out ?_
              have hro := one_rowC W1 ⟨yn, yb⟩
              have A2 := Lib.hid (A1.out.next (below_al (o := .cells #[.string (kS yn), .string (kS yb)] 43) (Below.refl W1.heap.size W1)))
              refine wpPushC rfl _ _ rfl v us rfl HKL.out A2.out.own A2.out.size _ 1 ⟨yn, yb⟩ rfl hro (by omega) ?_
              intro v9 w9 bt9 hg9
              obtain ⟨V9, c9, rfl, _⟩ := own_form bt9 (by omega)
              have A9 := Lib.hid (A2.out.put hg9 bt9)
              have LO := Lib.hid (A2.out.lies hg9)
              clear bt9 hg9 hro o1 y0 y1
              have f1 := LO.out.free 1
              have o1 := LO.out.cell (j := 1) rfl
              go_wp2_with fail
              go_roundw
              case rel => exact ⟨k + 1, _, us ++ [⟨yn, yb⟩], rfl, HKM.out, HST.out, by rw [List.length_append, ← HKL.out]; rfl, A9.out⟩
              case measure => simp [intOf]; have := HKM.out; omega
            · have hki : ¬ (k : Int) < (m : Int) := by omega
              have hkm : k = m := by omega
              have HUF : Hid (us = fs) := Lib.hid (by rw [HUS.out, hkm, HM.out, List.take_length])
              subst hkm
              have o1 := AT.out.out.cell (j := 1) rfl
              have y0 := AT.out.one.cell (j := 0) rfl; have y1 := AT.out.one.cell (j := 1) rfl
              go_wp2_with (at_builtin; refine hold_mk ?_)
              refine hold_out ?_
              have hro := one_rowC wr ⟨nm, by'⟩
              have A2 := Lib.hid (AT.out.next (below_al (o := .cells #[.string (kS nm), .string (kS by')] 43) (Below.refl wr.heap.size wr)))
              refine wpPushC rfl _ _ rfl v us rfl HKL.out A2.out.own A2.out.size _ 1 ⟨nm, by'⟩ rfl hro (by omega) ?_
              intro v9 w9 bt9 hg9
              obtain ⟨V9, c9, rfl, _⟩ := own_form bt9 (by omega)
              have A9 := Lib.hid (A2.out.put hg9 bt9)
              have LO := Lib.hid (A2.out.lies hg9)
              clear bt9 hg9 hro o1 y0 y1
              have f1 := LO.out.free 1
              have o1 := LO.out.cell (j := 1) rfl
              go_upto_region 15 with fail
              clear f1 o1 LO
              obtain ⟨W5, hW5⟩ : ∃ W, W = w9.setCell ⟨b9, 1, none⟩ (.slice V9 (k + 1) c9) := ⟨_, rfl⟩
              rw [← hW5] at A9 ⊢
              clear hW5
              have o0 := A9.out.out.cell (j := 0) rfl; have o1 := A9.out.out.cell (j := 1) rfl; have o2 := A9.out.out.cell (j := 2) rfl
              have y0 := A9.out.res.cell (j := 0) rfl; have y1 := A9.out.res.cell (j := 1) rfl; have y2 := A9.out.res.cell (j := 2) rfl
              have z0 := A9.out.res.free 0; have z1 := A9.out.res.free 1; have z2 := A9.out.res.free 2
              have hr9 := own_rowO A9.out.own
              have HR9 := Lib.hid hr9
              clear hr9
              go_wp2_with fail
              have hL := lies_set3O A9.out.res (.slice A p c) (.slice V9 (k + 1) c9) (.bool false)
              have h1 := row_set3O (HRA.out.below A9.out.below) A9.out.res (.slice A p c) (.slice V9 (k + 1) c9) (.bool false)
              have h2 := row_set3O (u0 := .slice A p c) (u1 := .slice V9 (k + 1) c9) (u2 := .bool false) HR9.out.1 A9.out.res
              rw [HUF.out] at h2
              have h3 := HR9.out.2.1
              have hB := below_set3O A9.out.below (Nat.le_succ _) (.slice A p c) (.slice V9 (k + 1) c9) (.bool false)
              refine write_ret (o := ⟨cs, fs ++ [⟨nm, by'⟩], false⟩) (R := w.heap.size + 1) (A := A) (c := c) (B := V9) (d := c9) ?_ ?_ ?_ hL h1 h2 HC.out h3 hB <;> rfl
      · have e1 : o = (zS, 170) := HO.out
        have LR1 := Lib.hid WZ2.out.res
        have HB1 := Lib.hid WZ2.out.below
        have y0 := LR1.out.cell (j := 0) rfl; have y1 := LR1.out.cell (j := 1) rfl; have y2 := LR1.out.cell (j := 2) rfl
        have z0 := LR1.out.free 0; have z1 := LR1.out.free 1; have z2 := LR1.out.free 2
        have hp0 : p = 0 := by rw [HP.out, e1]; rfl
        have hq0 : q = 0 := by rw [HQ.out, e1]; rfl
        subst e1
        subst hp0 hq0
        clear HO HP HQ
        go_wp2_with fail
        exact write_ret (o := zS) rfl rfl rfl (lies_set3O LR1.out _ _ _) (.inl rfl) (.inl rfl) (Nat.le_refl _) (Nat.le_refl _) (below_set3O HB1.out (Nat.le_succ _) _ _ _)
end So
end Go.Proofs.Ytpjgdpdgfchhkaa
