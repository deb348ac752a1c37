/- The reference's Count, Commit, Read. -/
import Derived.Test.YtpjgdpdgfchhkaaStoreW
namespace Go.Proofs.Ytpjgdpdgfchhkaa
open Go.ChangeShapes Go.WideShapes Go.ChangeAt Go.RowKit
set_option linter.unusedVariables false
set_option maxRecDepth 8000
namespace So
open Gen (TellsB row_one flat_len flat_get)
/-- A row. -/
def GivesRC (m : Nat) (ms : List Cl) (w : World) (e : Ending) (w' : World) : Prop := ∃ A c, e = .returned (.slice A m c) ∧ Row w' A (clc ms) ∧ m ≤ c ∧ Below w.heap.size w w'
set_option maxHeartbeats 1000000 in
theorem rfCount (cs fs : List Cl) (n m : Nat) (hn : n = cs.length) (hm : m = fs.length) (ms : List Cl) (hms : ms = count cs fs) (p : Nat) (hp : p = ms.length) (A : Option Addr) (c : Nat) (B : Option Addr) (d : Nat) (w : World) (hA : Row w A (clc cs)) (hB : Row w B (clc fs)) (hc : n ≤ c) (hl : n + m ≤ 100000) :
    Calls Try.prog 24 #[.slice A n c, .slice B m d] w (GivesRC p ms w) := by
  have HW := Lib.hid (fun l x n hn ms hms m hm A c w' h hl => rfWith l x n hn ms hms m hm A c w' h hl)
  have HB := Lib.hid hB
  have HM := Lib.hid hm
  have HN := Lib.hid hn
  have HMS := Lib.hid hms
  have HP := Lib.hid hp
  have R0 : Hid (Row w A (clc (count cs (fs.take 0)))) := Lib.hid hA
  have N0 : Hid (n = (count cs (fs.take 0)).length) := Lib.hid hn
  clear hA hB hn hm hms hp
  go_enter Try.func24, Try.ntmps24
  go_wp2_with fail
  go_loopw [0, 9] (fun s0 s9 wr => ∃ (k j : Nat) (A' : Option Addr) (c' : Nat) (us : List Cl), s0 = .slice A' j c' ∧ s9 = .int .i64 k ∧ k ≤ m ∧ us = count cs (fs.take k) ∧ j = us.length ∧ j ≤ n + k ∧ j ≤ c' ∧ Row wr A' (clc us) ∧ Below w.heap.size w wr) (fun _ s9 _ => m - (intOf s9).toNat)
  case atStart => exact ⟨0, n, A, c, _, rfl, rfl, Nat.zero_le _, rfl, N0.out, Nat.le_refl _, hc, R0.out, Below.refl _ _⟩
  case round =>
    clear R0 N0
    obtain ⟨k, j, A', c', us, rfl, rfl, hk, hus, hj, hjn, hjc, hrow, hb⟩ := hrel
    have HUS := Lib.hid hus; have HJ := Lib.hid hj; have HJN := Lib.hid hjn; have HJC := Lib.hid hjc; have HROW := Lib.hid hrow; have HBR := Lib.hid hb
    clear hus hj hjn hjc hrow hb
    by_cases hlt : k < m
    · obtain ⟨x, hx⟩ : ∃ x, fs[k]? = some x := ⟨_, List.getElem?_eq_getElem (by rw [← HM.out]; exact hlt)⟩
      obtain ⟨b, off, hB1, c0, c1⟩ := cell_row (HB.out.below HBR.out) hx
      subst hB1
      have hki : (k : Int) < (m : Int) := by omega
      have hw := wrapKO (k := k) (by omega)
      have HKM := Lib.hid hlt
      have HNX : Hid (count cs (fs.take (k + 1)) = withC us x) := Lib.hid (by rw [HUS.out]; exact count_next hx)
      obtain ⟨vs, hvs⟩ : ∃ vs, vs = withC us x := ⟨_, rfl⟩
      obtain ⟨q, hq⟩ : ∃ q, q = vs.length := ⟨_, rfl⟩
      have HQN : Hid (q ≤ n + (k + 1)) := Lib.hid (by have := with_len us x; have := HJ.out; have := HJN.out; rw [hq, hvs]; omega)
      have HCALL := Lib.hid (fun w' (hb : Below wr.heap.size wr w') => HW.out us x j HJ.out vs hvs q hq A' c' w' (HROW.out.below hb) (by have := HJN.out; omega))
      have HVS := Lib.hid hvs
      have HQ := Lib.hid hq
      clear hx hvs hq hlt hk
      obtain ⟨xn, xb⟩ := x
      simp only [clC] at HCALL
      simp only at c0 c1
      go_upto_region 4 with fail
      clear c0 c1
      have hbx := below_al (o := .cells #[.string (kS xn), .string (kS xb)] 43) (Below.refl wr.heap.size wr)
      have B1 := Lib.hid hbx
      have L1 := Lib.hid (Lies.new wr #[.string (kS xn), .string (kS xb)] 43)
      obtain ⟨b1, hb1⟩ : ∃ b, b = wr.heap.size := ⟨_, rfl⟩
      obtain ⟨W1, hW1⟩ : ∃ W, W = wr.alloc (.cells #[.string (kS xn), .string (kS xb)] 43) := ⟨_, rfl⟩
      rw [← hW1] at B1 L1 ⊢
      rw [← hb1] at L1 ⊢
      clear hW1 hb1 hbx
      have x0 := L1.out.cell (j := 0) rfl; have x1 := L1.out.cell (j := 1) rfl
      go_wp2_with fail
      refine (HCALL.out _ B1.out).mono ?_
      rintro e w2 ⟨A2, c2, rfl, ho2, hb2⟩
      have HO2 := Lib.hid (own_rowO ho2)
      have HB2 := Lib.hid (below_next (below_next HBR.out B1.out) hb2)
      clear ho2 hb2 x0 x1
      go_wp2_with fail
      go_roundw
      case rel => exact ⟨k + 1, q, A2, c2, vs, rfl, rfl, HKM.out, by rw [HNX.out]; exact HVS.out, HQ.out, HQN.out, HO2.out.2.1, HO2.out.1, HB2.out⟩
      case measure => simp [intOf]; have := HKM.out; omega
    · have hki : ¬ (k : Int) < (m : Int) := by omega
      have HE : Hid (us = ms) := Lib.hid (by rw [HUS.out, HMS.out, List.take_of_length_le (by rw [← HM.out]; omega)])
      have HJP : Hid (j = p) := Lib.hid (by rw [HJ.out, HE.out, HP.out])
      have hjp := HJP.out
      subst hjp
      go_wp2_with fail
      go_ret
      exact ⟨A', c', rfl, by rw [← HE.out]; exact HROW.out, HJC.out, HBR.out⟩
/-- A store, an error. -/
def GivesSr (o : Sr) (p q : Nat) (z : Int) (w : World) (e : Ending) (w' : World) : Prop :=
  ∃ A c B d, e = .returned (.tuple #[srV A p c B q d o.down, .int .i64 z]) ∧ Row w' A (clc o.cells) ∧ Row w' B (clc o.fresh) ∧ p ≤ c ∧ q ≤ d ∧ Below w.heap.size w w'
theorem row_ne_st {w : World} {A : Option Addr} {l : List Cl} {b : Nat} {v0 v1 : Option Addr} {n0 c0 n1 c1 : Nat} {dn : Bool} {T : TypeId} (h : Row w A (clc l)) (hl : Lies b #[.slice v0 n0 c0, .slice v1 n1 c1, .bool dn] T w) : clc l = [] ∨ ∀ a, A = some a → a.block ≠ b := by
  cases l with
  | nil => exact .inl rfl
  | cons x r =>
    right
    intro a ha e
    obtain ⟨q, off, hA, k0, k1⟩ := cell_row h (k := 0) (x := x) rfl
    rw [ha] at hA
    cases hA
    simp only at e
    subst e
    unfold Lies at hl
    unfold World.cell? at k0
    simp only [hl] at k0
    rcases off with _ | _ | _ | off
    · simp at k0
    · simp at k0
    · simp at k0
    · simp at k0
theorem row_putO {w : World} {A : Option Addr} {l : List Cl} {p : Addr} (h : Row w A (clc l)) (hp : clc l = [] ∨ ∀ a, A = some a → a.block ≠ p.block) (v : Value) : Row (w.setCell p v) A (clc l) := by
  rcases h with h | ⟨b, off, rfl, hc⟩
  · exact .inl h
  · rcases hp with hp | hp
    · exact .inl hp
    · refine .inr ⟨b, off, rfl, fun j u hu => ?_⟩
      rw [World.cell?_setCell_far _ _ _ _ (by exact fun e => hp _ rfl e.symm)]
      exact hc j u hu
/-- Three cells are laid. -/
def set3O (w : World) (b : Nat) (v0 v1 v2 : Value) : World := ((w.setCell ⟨b, 0, none⟩ v0).setCell ⟨b, 1, none⟩ v1).setCell ⟨b, 2, none⟩ v2
theorem lies_set3O {w : World} {b : Nat} {u0 u1 u2 : Value} {T : TypeId} (h : Lies b #[u0, u1, u2] T w) (v0 v1 v2 : Value) : Lies b #[v0, v1, v2] T (set3O w b v0 v1 v2) := by
  have := ((h.set 0 v0).set 1 v1).set 2 v2
  unfold set3O
  simpa using this
theorem below_set3O {w0 w : World} {b : Nat} (h : Below w0.heap.size w0 w) (hb : w0.heap.size ≤ b) (v0 v1 v2 : Value) : Below w0.heap.size w0 (set3O w b v0 v1 v2) :=
  ((h.setCell (p := ⟨b, 0, none⟩) hb v0).setCell (p := ⟨b, 1, none⟩) hb v1).setCell (p := ⟨b, 2, none⟩) hb v2
theorem row_set3O {w : World} {A : Option Addr} {l : List Cl} {b : Nat} {v0 v1 : Option Addr} {n0 c0 n1 c1 : Nat} {dn : Bool} {T : TypeId} (h : Row w A (clc l)) (hl : Lies b #[.slice v0 n0 c0, .slice v1 n1 c1, .bool dn] T w) (u0 u1 u2 : Value) : Row (set3O w b u0 u1 u2) A (clc l) :=
  row_putO (p := ⟨b, 2, none⟩) (row_putO (p := ⟨b, 1, none⟩) (row_putO (p := ⟨b, 0, none⟩) h (row_ne_st h hl) _) (row_ne_st h hl) _) (row_ne_st h hl) _
theorem commit_ret {w wF : World} {R p q : Nat} {o : Sr} {z : Int} {A : Option Addr} {c : Nat} {B : Option Addr} {d : Nat} {act : Act} (ht : act.tmps.getD 2 undef = .pointer (some ⟨R, 0, none⟩)) (he : act.tmps.getD 3 undef = .int .i64 z) (hd : act.defers = [])
    (hL : Lies R #[.slice A p c, .slice B q d, .bool o.down] 24 wF) (h1 : Row wF A (clc o.cells)) (h2 : Row wF B (clc o.fresh)) (h3 : p ≤ c) (h4 : q ≤ d) (hB : Below w.heap.size w wF) :
    bodyPost Try.prog Try.f13 (GivesSr o p q z w) .ret act wF := by
  have c0 := hL.cell (j := 0) rfl
  have c1 := hL.cell (j := 1) rfl
  have c2 := hL.cell (j := 2) rfl
  refine bodyPost_ret (v := .tuple #[srV A p c B q d o.down, .int .i64 z]) ?_ hd ⟨A, c, B, d, rfl, h1, h2, h3, h4, hB⟩
  have ht2 : act.tmps[2]?.getD undef = .pointer (some ⟨R, 0, none⟩) := by simpa using ht
  have he2 : act.tmps[3]?.getD undef = .int .i64 z := by simpa using he
  simp [results, Try.results13, go_sem, ht2, he2, c0, c1, c2]
set_option maxRecDepth 100000 in
set_option maxHeartbeats 1000000 in
theorem rfCommit (cs fs : List Cl) (n m : Nat) (dn : Bool) (hn : n = cs.length) (hm : m = fs.length) (o : Sr × Int) (ho : o = commitO ⟨cs, fs, dn⟩) (p q : Nat) (hp : p = o.1.cells.length) (hq : q = o.1.fresh.length) (A : Option Addr) (c : Nat) (B : Option Addr) (d : Nat) (w : World) (hA : Row w A (clc cs)) (hB : Row w B (clc fs)) (hc : n ≤ c) (hl : n + m ≤ 100000) :
    Calls Try.prog 13 #[srV A n c B m d dn] w (GivesSr o.1 p q o.2 w) := by
  obtain ⟨r, hr⟩ : ∃ r, r = rightS ⟨cs, fs, dn⟩ := ⟨_, rfl⟩
  obtain ⟨ms, hms⟩ : ∃ ms, ms = count cs fs := ⟨_, rfl⟩
  obtain ⟨g, hg⟩ : ∃ g, g = ms.length := ⟨_, rfl⟩
  have HRT := Lib.hid (fun w' (hb : Below w.heap.size w w') => rfRight cs fs n m dn r hn hm hr A c B d w' (hA.below hb) (hB.below hb) (by omega) (by omega))
  have HCT := Lib.hid (fun w' (hb : Below w.heap.size w w') => rfCount cs fs n m hn hm ms hms g hg A c B d w' (hA.below hb) (hB.below hb) hc hl)
  have HO : Hid (o = if r = false then (zS, 1) else if dn then (zS, 170) else if 64 < g then (zS, 3) else (⟨ms, [], false⟩, 0)) := Lib.hid (by rw [ho, hr, hg, hms]; rfl)
  have HP := Lib.hid hp
  have HQ := Lib.hid hq
  have HG := Lib.hid hg
  have HB := Lib.hid (below_al (o := .cells #[.slice none 0 0, .slice none 0 0, .bool false] 24) (below_al (o := .cells #[.slice A n c, .slice B m d, .bool dn] 24) (Below.refl w.heap.size w)))
  have LA := Lib.hid ((Lies.new w #[.slice A n c, .slice B m d, .bool dn] 24).al (o := .cells #[.slice none 0 0, .slice none 0 0, .bool false] 24))
  have LR := Lib.hid (Gen.lies_new1 w (.cells #[.slice A n c, .slice B m d, .bool dn] 24) #[.slice none 0 0, .slice none 0 0, .bool false] 24)
  clear hA hB hn hm ho hp hq hr hms hg hc hl
  go_enter Try.func13, Try.ntmps13
  go_upto_region 1 with fail
  obtain ⟨W, hW⟩ : ∃ W, W = (w.alloc (.cells #[.slice A n c, .slice B m d, .bool dn] 24)).alloc (.cells #[.slice none 0 0, .slice none 0 0, .bool false] 24) := ⟨_, rfl⟩
  rw [← hW] at LA LR HB ⊢
  clear hW
  have x0 := LA.out.cell (j := 0) rfl; have x1 := LA.out.cell (j := 1) rfl; have x2 := LA.out.cell (j := 2) rfl
  go_wp2_with fail
  refine (HRT.out _ HB.out).mono ?_
  rintro e w1 ⟨rfl, hb1⟩
  have HB1 := Lib.hid (below_next HB.out hb1)
  have LA1 := Lib.hid (LA.out.below hb1)
  have LR1 := Lib.hid (LR.out.below hb1)
  clear hb1 x0 x1 x2 LA LR HB
  cases r
  · have e1 : o = (zS, 1) := HO.out
    have y0 := LR1.out.cell (j := 0) rfl; have y1 := LR1.out.cell (j := 1) rfl; have y2 := LR1.out.cell (j := 2) rfl
    have z0 := LR1.out.free 0; have z1 := LR1.out.free 1; have z2 := LR1.out.free 2
    have hp0 : p = 0 := by rw [HP.out, e1]; rfl
    have hq0 : q = 0 := by rw [HQ.out, e1]; rfl
    subst e1
    subst hp0 hq0
    clear HO HP HQ
    go_wp2_with fail
    exact commit_ret (o := zS) rfl rfl rfl (lies_set3O LR1.out _ _ _) (.inl rfl) (.inl rfl) (Nat.le_refl _) (Nat.le_refl _) (below_set3O HB1.out (Nat.le_succ _) _ _ _)
  · have x2 := LA1.out.cell (j := 2) rfl
    cases dn
    · have x0 := LA1.out.cell (j := 0) rfl; have x1 := LA1.out.cell (j := 1) rfl
      go_wp2_with fail
      refine (HCT.out _ HB1.out).mono ?_
      rintro e w2 ⟨A2, c2, rfl, hr2, hc2, hb2⟩
      have HB2 := Lib.hid (below_next HB1.out hb2)
      have LR2 := Lib.hid (LR1.out.below hb2)
      have HR2 := Lib.hid hr2
      have HC2 := Lib.hid hc2
      clear hb2 hr2 hc2 x0 x1 x2 LA1 LR1 HB1
      by_cases h64 : 64 < g
      · have g1 : decide ((64 : Int) < (g : Int)) = true := decide_eq_true (by omega)
        have e1 : o = (zS, 3) := by rw [HO.out, if_neg (by simp), if_neg (by simp), if_pos h64]
        clear h64
        have y0 := LR2.out.cell (j := 0) rfl; have y1 := LR2.out.cell (j := 1) rfl; have y2 := LR2.out.cell (j := 2) rfl
        have z0 := LR2.out.free 0; have z1 := LR2.out.free 1; have z2 := LR2.out.free 2
        have hp0 : p = 0 := by rw [HP.out, e1]; rfl
        have hq0 : q = 0 := by rw [HQ.out, e1]; rfl
        subst e1
        subst hp0 hq0
        clear HO HP HQ
        go_wp2_with fail
        exact commit_ret (o := zS) rfl rfl rfl (lies_set3O LR2.out _ _ _) (.inl rfl) (.inl rfl) (Nat.le_refl _) (Nat.le_refl _) (below_set3O HB2.out (Nat.le_succ _) _ _ _)
      · have g1 : decide ((64 : Int) < (g : Int)) = false := decide_eq_false (by omega)
        have e1 : o = (⟨ms, [], false⟩, 0) := by rw [HO.out, if_neg (by simp), if_neg (by simp), if_neg h64]
        have hp0 : p = g := by rw [HP.out, e1, HG.out]
        have hq0 : q = 0 := by rw [HQ.out, e1]; rfl
        subst e1
        subst hp0 hq0
        clear h64 HO HP HQ HG
        have y0 := LR2.out.cell (j := 0) rfl; have y1 := LR2.out.cell (j := 1) rfl; have y2 := LR2.out.cell (j := 2) rfl
        have z0 := LR2.out.free 0; have z1 := LR2.out.free 1; have z2 := LR2.out.free 2
        go_wp2_with fail
        exact commit_ret (o := ⟨ms, [], false⟩) rfl rfl rfl (lies_set3O LR2.out _ _ _) (row_set3O HR2.out LR2.out _ _ _) (.inl rfl) HC2.out (Nat.le_refl _) (below_set3O HB2.out (Nat.le_succ _) _ _ _)
    · have e1 : o = (zS, 170) := HO.out
      have y0 := LR1.out.cell (j := 0) rfl; have y1 := LR1.out.cell (j := 1) rfl; have y2 := LR1.out.cell (j := 2) rfl
      have z0 := LR1.out.free 0; have z1 := LR1.out.free 1; have z2 := LR1.out.free 2
      have hp0 : p = 0 := by rw [HP.out, e1]; rfl
      have hq0 : q = 0 := by rw [HQ.out, e1]; rfl
      subst e1
      subst hp0 hq0
      clear HO HP HQ
      go_wp2_with fail
      exact commit_ret (o := zS) rfl rfl rfl (lies_set3O LR1.out _ _ _) (.inl rfl) (.inl rfl) (Nat.le_refl _) (Nat.le_refl _) (below_set3O HB1.out (Nat.le_succ _) _ _ _)
/-- Bytes, an error. -/
def GivesB (b : List UInt8) (z : Int) (w : World) (e : Ending) (w' : World) : Prop := e = .returned (.tuple #[.string (kS b), .int .i64 z]) ∧ Below w.heap.size w w'
theorem find_at {l : List Cl} {k : Nat} {y : Cl} {m : List UInt8} (h : ∀ (i : Nat) (x : Cl), i < k → l[i]? = some x → x.n ≠ m) (hy : l[k]? = some y) (hm : y.n = m) : l.find? (fun c => decide (c.n = m)) = some y := by
  induction l generalizing k with
  | nil => simp at hy
  | cons a r ih =>
    rw [List.find?_cons]
    cases k with
    | zero =>
      rw [List.getElem?_cons_zero] at hy
      cases hy
      rw [decide_eq_true hm]
    | succ k =>
      rw [List.getElem?_cons_succ] at hy
      rw [decide_eq_false (h 0 a (by omega) rfl)]
      exact ih (fun i x hi hx => h (i + 1) x (by omega) (by rw [List.getElem?_cons_succ]; exact hx)) hy
set_option maxRecDepth 100000 in
set_option maxHeartbeats 1000000 in
theorem rfRead (cs fs : List Cl) (n m : Nat) (dn : Bool) (hn : n = cs.length) (hm : m = fs.length) (nm : List UInt8) (o : List UInt8 × Int) (ho : o = readO ⟨cs, fs, dn⟩ nm) (A : Option Addr) (c : Nat) (B : Option Addr) (d : Nat) (w : World) (hA : Row w A (clc cs)) (hB : Row w B (clc fs)) (hl : n ≤ 100000) (hl2 : m ≤ 100000) :
    Calls Try.prog 15 #[srV A n c B m d dn, .string (kS nm)] w (GivesB o.1 o.2 w) := by
  obtain ⟨r, hr⟩ : ∃ r, r = rightS ⟨cs, fs, dn⟩ := ⟨_, rfl⟩
  have HRT := Lib.hid (fun w' (hb : Below w.heap.size w w') => rfRight cs fs n m dn r hn hm hr A c B d w' (hA.below hb) (hB.below hb) (by omega) (by omega))
  have HO : Hid (o = if r = false then (([], 1) : List UInt8 × Int) else if dn then (([], 170) : List UInt8 × Int) else match cs.find? (fun c => decide (c.n = nm)) with | some c => (c.b, 0) | none => (([], 171) : List UInt8 × Int)) := Lib.hid (by rw [ho, hr]; rfl)
  have HA := Lib.hid hA
  have HN := Lib.hid hn
  have HB := Lib.hid (below_al (o := .cells #[.slice A n c, .slice B m d, .bool dn] 24) (Below.refl w.heap.size w))
  have LA := Lib.hid (Lies.new w #[.slice A n c, .slice B m d, .bool dn] 24)
  clear hA hB hn hm ho hr hl2
  go_enter Try.func15, Try.ntmps15
  go_upto_region 1 with fail
  obtain ⟨tb, htb⟩ : ∃ b, b = w.heap.size := ⟨_, rfl⟩
  obtain ⟨W, hW⟩ : ∃ W, W = w.alloc (.cells #[.slice A n c, .slice B m d, .bool dn] 24) := ⟨_, rfl⟩
  rw [← hW] at LA HB ⊢
  rw [← htb] at LA ⊢
  clear hW htb
  have x0 := LA.out.cell (j := 0) rfl; have x1 := LA.out.cell (j := 1) rfl; have x2 := LA.out.cell (j := 2) rfl
  go_wp2_with fail
  refine (HRT.out _ HB.out).mono ?_
  rintro e w1 ⟨rfl, hb1⟩
  have HB1 := Lib.hid (below_next HB.out hb1)
  have LA1 := Lib.hid (LA.out.below hb1)
  clear hb1 x0 x1 x2 LA HB
  cases r
  · have e1 : o = (([], 1) : List UInt8 × Int) := HO.out
    subst e1
    go_wp2_with fail
    go_ret2
    exact ⟨rfl, HB1.out⟩
  · have x2 := LA1.out.cell (j := 2) rfl
    cases dn
    · have x0 := LA1.out.cell (j := 0) rfl
      go_wp2_with fail
      clear x0 x2
      go_loopw [16] (fun i wr => ∃ k : Nat, i = .int .i64 k ∧ k ≤ n ∧ (∀ (i : Nat) (x : Cl), i < k → cs[i]? = some x → x.n ≠ nm) ∧ Below w.heap.size w wr) (fun i _ => n - (intOf i).toNat)
      case atStart => exact ⟨0, rfl, Nat.zero_le _, fun i x h => by omega, HB1.out⟩
      case round =>
        obtain ⟨k, rfl, hk, hno, hb⟩ := hrel
        have HNO := Lib.hid hno
        have HBR := Lib.hid hb
        clear hno hb
        by_cases hlt : k < n
        · obtain ⟨y, hy⟩ : ∃ y, cs[k]? = some y := ⟨_, List.getElem?_eq_getElem (by rw [← HN.out]; exact hlt)⟩
          obtain ⟨b, off, hA1, c0, c1⟩ := cell_row (HA.out.below HBR.out) hy
          subst hA1
          have HY := Lib.hid hy
          have hki : (k : Int) < (n : Int) := by omega
          have hw := wrapKO (k := k) (by omega)
          have HBX := Lib.hid (below_next HBR.out (below_al (o := .cells (clC y) 43) (Below.refl wr.heap.size wr)))
          clear hy
          obtain ⟨yn, yb⟩ := y
          simp only [clC] at HBX
          simp only at c0 c1
          by_cases he : yn = nm
          · have hq : ((kS yn).toList == (kS nm).toList) = true := by rw [kS_list, kS_list, he]; simp
            have e1 : o = (yb, 0) := by rw [HO.out, if_neg (by simp), if_neg (by simp), find_at HNO.out HY.out he]
            subst e1
            clear he
            go_wp2_with fail
            go_ret2
            exact ⟨rfl, HBX.out⟩
          · have hq : ((kS yn).toList == (kS nm).toList) = false := by rw [kS_list, kS_list, beq_eq_false_iff_ne]; exact he
            have HE := Lib.hid he
            clear he
            go_wp2_with fail
            go_roundw
            case rel => exact ⟨k + 1, rfl, by omega, fun i x hi hx => by
              by_cases e : i = k
              · subst e; rw [HY.out] at hx; cases hx; exact HE.out
              · exact HNO.out i x (by omega) hx, HBX.out⟩
            case measure => simp [intOf]; omega
        · have hki : ¬ (k : Int) < (n : Int) := by omega
          have e1 : o = (([], 171) : List UInt8 × Int) := by
            rw [HO.out, if_neg (by simp), if_neg (by simp), find_none fun c hc => by
              obtain ⟨i, hi⟩ := List.getElem?_of_mem hc
              exact HNO.out i c (by have := (List.getElem?_eq_some_iff.1 hi).1; have := HN.out; omega) hi]
          subst e1
          go_wp2_with fail
          go_ret2
          exact ⟨rfl, HBR.out⟩
    · have e1 : o = (([], 170) : List UInt8 × Int) := HO.out
      subst e1
      go_wp2_with fail
      go_ret2
      exact ⟨rfl, HB1.out⟩
end So
end Go.Proofs.Ytpjgdpdgfchhkaa
