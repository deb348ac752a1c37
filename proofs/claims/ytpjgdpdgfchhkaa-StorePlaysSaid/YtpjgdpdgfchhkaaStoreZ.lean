/- The reference's Batch. -/
import Derived.Test.YtpjgdpdgfchhkaaStoreY
namespace Go.Proofs.Ytpjgdpdgfchhkaa
open Go.ChangeShapes Go.WideShapes Go.ChangeAt Go.RowKit
set_option linter.unusedVariables false
set_option maxRecDepth 8000
namespace So
open Gen (TellsB row_one flat_len flat_get)
/-- The blocks of Batch. -/
structure BtAt (w0 : World) (A : Option Addr) (n c : Nat) (B : Option Addr) (m d : Nat) (dn : Bool) (a : World) : Prop where
  box : Lies w0.heap.size #[.slice A n c, .slice B m d, .bool dn] 24 a
  res : Lies (w0.heap.size + 1) #[.slice none 0 0, .slice none 0 0, .bool false] 24 a
  below : Below w0.heap.size w0 a
theorem BtAt.next {w0 : World} {A : Option Addr} {n c : Nat} {B : Option Addr} {m d : Nat} {dn : Bool} {a b : World} (h : BtAt w0 A n c B m d dn a) (hb : Below a.heap.size a b) : BtAt w0 A n c B m d dn b :=
  ⟨h.box.below hb, h.res.below hb, below_next h.below hb⟩
theorem BtAt.set {w0 : World} {A : Option Addr} {n c : Nat} {B : Option Addr} {m d : Nat} {dn : Bool} {a : World} (h : BtAt w0 A n c B m d dn a) (A' : Option Addr) (n' c' : Nat) (B' : Option Addr) (m' d' : Nat) (dn' : Bool) :
    BtAt w0 A' n' c' B' m' d' dn' (set3O a w0.heap.size (.slice A' n' c') (.slice B' m' d') (.bool dn')) := by
  refine ⟨lies_set3O h.box _ _ _, ?_, below_set3O h.below (Nat.le_refl _) _ _ _⟩
  unfold set3O
  exact ((h.res.other (by omega) _ _).other (by omega) _ _).other (by omega) _ _
theorem BtAt.down {w0 : World} {A : Option Addr} {n c : Nat} {B : Option Addr} {m d : Nat} {dn : Bool} {a : World} (h : BtAt w0 A n c B m d dn a) (dn' : Bool) :
    BtAt w0 A n c B m d dn' (a.setCell ⟨w0.heap.size, 2, none⟩ (.bool dn')) := by
  refine ⟨by have := h.box.set 2 (.bool dn'); simpa using this, h.res.other (by omega) _ _, h.below.setCell (p := ⟨w0.heap.size, 2, none⟩) (Nat.le_refl _) _⟩
theorem write_next {s : Sr} {n b : List UInt8} (h : (writeO s n b).2 = 0) : (writeO s n b).1.cells = s.cells ∧ (writeO s n b).1.fresh.length ≤ 64 ∧ (writeO s n b).1.down = false := by
  unfold writeO at h ⊢
  split at h
  · cases h
  · rename_i h1
    split at h
    · cases h
    · rename_i h2
      split at h
      · cases h
      · rename_i h3
        rw [if_neg h1, if_neg h2, if_neg h3]
        have hk := (ok_iff s).1 (by cases hr : rightS s with | true => rfl | false => exact absurd (.inl hr) h1)
        have := hk.len.2
        refine ⟨rfl, ?_, rfl⟩
        simp only [List.length_append, List.length_cons, List.length_nil]
        omega
theorem runB_cons (s : Sr) (x : Cl) (r : List Cl) (left : Int) : runB s (x :: r) left = if left = 0 then (⟨s.cells, s.fresh, true⟩, 170) else if (writeO s x.n x.b).2 = 0 then runB (writeO s x.n x.b).1 r (left - 1) else (zS, (writeO s x.n x.b).2) := rfl
theorem runB_nil (s : Sr) (left : Int) : runB s [] left = if left = 0 then (⟨s.cells, s.fresh, true⟩, 170) else commitO s := rfl
theorem batch_ret {w wF : World} {R p q : Nat} {o : Sr} {z : Int} {A : Option Addr} {c : Nat} {B : Option Addr} {d : Nat} {act : Act} (ht : act.tmps.getD 6 undef = .pointer (some ⟨R, 0, none⟩)) (he : act.tmps.getD 7 undef = .int .i64 z) (hd : act.defers = [])
    (hL : Lies R #[.slice A p c, .slice B q d, .bool o.down] 24 wF) (h1 : Row wF A (clc o.cells)) (h2 : Row wF B (clc o.fresh)) (h3 : p ≤ c) (h4 : q ≤ d) (hB : Below w.heap.size w wF) :
    bodyPost Try.prog Try.f22 (GivesSr o p q z w) .ret act wF := by
  have c0 := hL.cell (j := 0) rfl
  have c1 := hL.cell (j := 1) rfl
  have c2 := hL.cell (j := 2) rfl
  refine bodyPost_ret (v := .tuple #[srV A p c B q d o.down, .int .i64 z]) ?_ hd ⟨A, c, B, d, rfl, h1, h2, h3, h4, hB⟩
  have ht2 : act.tmps[6]?.getD undef = .pointer (some ⟨R, 0, none⟩) := by simpa using ht
  have he2 : act.tmps[7]?.getD undef = .int .i64 z := by simpa using he
  simp [results, Try.results22, go_sem, ht2, he2, c0, c1, c2]
set_option maxRecDepth 100000 in
set_option maxHeartbeats 2000000 in
theorem rfBatch (cs fs xs : List Cl) (n m g : Nat) (dn : Bool) (left : Int) (hn : n = cs.length) (hm : m = fs.length) (hg : g = xs.length) (o : Sr × Int) (ho : o = batchO ⟨cs, fs, dn⟩ xs left) (p q : Nat) (hp : p = o.1.cells.length) (hq : q = o.1.fresh.length) (A : Option Addr) (c : Nat) (B : Option Addr) (d : Nat) (C : Option Addr) (e : Nat) (w : World) (hA : Row w A (clc cs)) (hB : Row w B (clc fs)) (hC : Row w C (clc xs)) (hc : n ≤ c) (hd : m ≤ d) (hl : n ≤ 100000) (hl2 : m ≤ 100000) (hl3 : g ≤ 100000) :
    Calls Try.prog 22 #[srV A n c B m d dn, .slice C g e, .int .i64 left] w (GivesSr o.1 p q o.2 w) := by
  obtain ⟨r, hr⟩ : ∃ r, r = rightS ⟨cs, fs, dn⟩ := ⟨_, rfl⟩
  have HRT := Lib.hid (fun w' (hb : Below w.heap.size w w') => rfRight cs fs n m dn r hn hm hr A c B d w' (hA.below hb) (hB.below hb) (by omega) (by omega))
  have HMY := Lib.hid (fun x w' => rfMay x (mayB x) rfl w')
  have HO : Hid (o = if xs.all mayB = false then (zS, 1) else if r = false then (zS, 1) else if dn then (zS, 170) else runB ⟨cs, fs, false⟩ xs left) := Lib.hid (by
    rw [ho, hr]
    unfold batchO
    cases dn <;> rfl)
  have HP := Lib.hid hp
  have HQ := Lib.hid hq
  have HRA := Lib.hid hA
  have HRB := Lib.hid hB
  have HRC := Lib.hid hC
  have HN := Lib.hid hn
  have HM := Lib.hid hm
  have HG := Lib.hid hg
  have HC := Lib.hid hc
  have HD := Lib.hid hd
  have H64 : Hid (r = true → n ≤ 64 ∧ m ≤ 64) := Lib.hid (by
    intro h
    have := ((ok_iff _).1 (hr.symm.trans h)).len
    simp only at this
    omega)
  have BT : Hid (BtAt w A n c B m d dn ((w.alloc (.cells #[.slice A n c, .slice B m d, .bool dn] 24)).alloc (.cells #[.slice none 0 0, .slice none 0 0, .bool false] 24))) := Lib.hid
    ⟨(Lies.new w _ _).al, Gen.lies_new1 w _ _ _, below_al (below_al (Below.refl _ _))⟩
  clear hA hB hC hn hm hg ho hp hq hr hl hl2 hc hd
  go_enter Try.func22, Try.ntmps22
  go_upto_region 1 with fail
  obtain ⟨W, hW⟩ : ∃ W, W = (w.alloc (.cells #[.slice A n c, .slice B m d, .bool dn] 24)).alloc (.cells #[.slice none 0 0, .slice none 0 0, .bool false] 24) := ⟨_, rfl⟩
  rw [← hW] at BT ⊢
  clear hW
  go_wp2_with fail
  go_loopw [16] (fun i wr => ∃ k : Nat, i = .int .i64 k ∧ k ≤ g ∧ (∀ (i : Nat) (x : Cl), i < k → xs[i]? = some x → mayB x = true) ∧ BtAt w A n c B m d dn wr) (fun i _ => g - (intOf i).toNat)
  case atStart => exact ⟨0, rfl, Nat.zero_le _, fun i x h => by omega, BT.out⟩
  case round =>
    clear BT
    obtain ⟨k, rfl, hk, hall, hAT⟩ := hrel
    have HALL := Lib.hid hall
    have AT := Lib.hid hAT
    clear hall hAT
    by_cases hlt : k < g
    · obtain ⟨y, hy⟩ : ∃ y, xs[k]? = some y := ⟨_, List.getElem?_eq_getElem (by rw [← HG.out]; exact hlt)⟩
      obtain ⟨bq, off, hC1, d0, d1⟩ := cell_row (HRC.out.below AT.out.below) hy
      subst hC1
      have hki : (k : Int) < (g : Int) := by omega
      have hw := wrapKO (k := k) (by omega)
      have HKM := Lib.hid hlt
      have HY := Lib.hid hy
      have HMYK := Lib.hid (HMY.out y)
      obtain ⟨my, hmy⟩ : ∃ r, r = mayB y := ⟨_, rfl⟩
      rw [← hmy] at HMYK
      have HMYE := Lib.hid hmy
      clear hy hlt hk hmy
      obtain ⟨yn, yb⟩ := y
      simp only [clC] at HMYK
      simp only at d0 d1
      go_upto_region 4 with fail
      clear d0 d1
      have A1 := Lib.hid (AT.out.next (below_al (o := .cells #[.string (kS yn), .string (kS yb)] 43) (Below.refl wr.heap.size wr)))
      have LY := Lib.hid (Lies.new wr #[.string (kS yn), .string (kS yb)] 43)
      obtain ⟨b1, hb1⟩ : ∃ b, b = wr.heap.size := ⟨_, rfl⟩
      obtain ⟨W1, hW1⟩ : ∃ W, W = wr.alloc (.cells #[.string (kS yn), .string (kS yb)] 43) := ⟨_, rfl⟩
      rw [← hW1] at A1 LY ⊢
      rw [← hb1] at LY ⊢
      clear hW1 hb1 AT
      have y0 := LY.out.cell (j := 0) rfl; have y1 := LY.out.cell (j := 1) rfl
      go_wp2_with fail
      refine (HMYK.out _).mono ?_
      rintro e w2 ⟨rfl, hb2⟩
      have A2 := Lib.hid (A1.out.next hb2)
      clear hb2 y0 y1 LY A1
      cases my
      · have e1 : o = (zS, 1) := by
          rw [HO.out, if_pos]
          rw [List.all_eq_false]
          exact ⟨_, List.mem_of_getElem? HY.out, by rw [← HMYE.out]; simp⟩
        have LR1 := Lib.hid A2.out.res
        have HB1 := Lib.hid A2.out.below
        have y0 := LR1.out.cell (j := 0) rfl; have y1 := LR1.out.cell (j := 1) rfl; have y2 := LR1.out.cell (j := 2) rfl
        have z0 := LR1.out.free 0; have z1 := LR1.out.free 1; have z2' := LR1.out.free 2
        have hp0 : p = 0 := by rw [HP.out, e1]; rfl
        have hq0 : q = 0 := by rw [HQ.out, e1]; rfl
        subst e1
        subst hp0 hq0
        clear HP HQ
        go_wp2_with fail
        refine batch_ret (o := zS) (R := w.heap.size + 1) ?_ ?_ ?_ (lies_set3O LR1.out _ _ _) (.inl rfl) (.inl rfl) (Nat.le_refl _) (Nat.le_refl _) (below_set3O HB1.out (Nat.le_succ _) _ _ _) <;> rfl
      · go_wp2_with fail
        go_roundw
        case rel => exact ⟨k + 1, rfl, HKM.out, fun i x hi hx => by
          by_cases e : i = k
          · subst e; rw [HY.out] at hx; cases hx; exact HMYE.out.symm
          · exact HALL.out i x (by omega) hx, A2.out⟩
        case measure => simp [intOf]; have := HKM.out; omega
    · have hki : ¬ (k : Int) < (g : Int) := by omega
      have HO1 : Hid (o = if r = false then (zS, 1) else if dn then (zS, 170) else runB ⟨cs, fs, false⟩ xs left) := Lib.hid (by
        rw [HO.out, if_neg]
        rw [Bool.not_eq_false, List.all_eq_true]
        intro x hx
        obtain ⟨i, hi⟩ := List.getElem?_of_mem hx
        exact HALL.out i x (by have := (List.getElem?_eq_some_iff.1 hi).1; have := HG.out; omega) hi)
      clear HO HALL hk hlt
      have x0 := AT.out.box.cell (j := 0) rfl; have x1 := AT.out.box.cell (j := 1) rfl; have x2 := AT.out.box.cell (j := 2) rfl
      go_wp2_with fail
      refine (HRT.out _ AT.out.below).mono ?_
      rintro e w1 ⟨rfl, hb1⟩
      have A1 := Lib.hid (AT.out.next hb1)
      clear hb1 x0 x1 x2 AT
      cases r
      · have e1 : o = (zS, 1) := HO1.out
        have LR1 := Lib.hid A1.out.res
        have HB1 := Lib.hid A1.out.below
        have y0 := LR1.out.cell (j := 0) rfl; have y1 := LR1.out.cell (j := 1) rfl; have y2 := LR1.out.cell (j := 2) rfl
        have z0 := LR1.out.free 0; have z1 := LR1.out.free 1; have z2' := LR1.out.free 2
        have hp0 : p = 0 := by rw [HP.out, e1]; rfl
        have hq0 : q = 0 := by rw [HQ.out, e1]; rfl
        subst e1
        subst hp0 hq0
        clear HP HQ
        go_wp2_with fail
        refine batch_ret (o := zS) (R := w.heap.size + 1) ?_ ?_ ?_ (lies_set3O LR1.out _ _ _) (.inl rfl) (.inl rfl) (Nat.le_refl _) (Nat.le_refl _) (below_set3O HB1.out (Nat.le_succ _) _ _ _) <;> rfl
      · have x2 := A1.out.box.cell (j := 2) rfl
        cases dn
        · have HO2 : Hid (o = runB ⟨cs, fs, false⟩ xs left) := HO1
          clear HO1
          go_wp2_with fail
          clear x2 hki
          go_loopw [34] (fun i wr => ∃ (k : Nat) (A' : Option Addr) (n' c' : Nat) (B' : Option Addr) (m' d' : Nat) (us vs : List Cl), i = .int .i64 k ∧ k ≤ g ∧ n' = us.length ∧ m' = vs.length ∧ n' ≤ c' ∧ m' ≤ d' ∧ n' ≤ 64 ∧ m' ≤ 64 ∧ Row wr A' (clc us) ∧ Row wr B' (clc vs) ∧ o = runB ⟨us, vs, false⟩ (xs.drop k) (left - k) ∧ BtAt w A' n' c' B' m' d' false wr) (fun i _ => g - (intOf i).toNat)
          case atStart => exact ⟨0, A, n, c, B, m, d, cs, fs, rfl, Nat.zero_le _, HN.out, HM.out, HC.out, HD.out, (H64.out (by trivial)).1, (H64.out (by trivial)).2, HRA.out.below A1.out.below, HRB.out.below A1.out.below, by rw [HO2.out]; simp, A1.out⟩
          case round =>
            clear HO2 A1
            obtain ⟨k, A', n', c', B', m', d', us, vs, rfl, hk, hn', hm', hc', hd', hl', hl2', hru, hrv, ho', hAT⟩ := hrel
            have AT := Lib.hid hAT
            have HU := Lib.hid hru
            have HV := Lib.hid hrv
            have HN' := Lib.hid hn'
            have HM' := Lib.hid hm'
            have HC' := Lib.hid hc'
            have HD' := Lib.hid hd'
            have HO' := Lib.hid ho'
            have HL' := Lib.hid hl'
            have HL2' := Lib.hid hl2'
            clear hAT hru hrv hn' hm' hc' hd' ho' hl' hl2'
            by_cases hlt : k < g
            · obtain ⟨y, hy⟩ : ∃ y, xs[k]? = some y := ⟨_, List.getElem?_eq_getElem (by rw [← HG.out]; exact hlt)⟩
              obtain ⟨bq, off, hC1, d0, d1⟩ := cell_row (HRC.out.below AT.out.below) hy
              subst hC1
              have hki : (k : Int) < (g : Int) := by omega
              have hw := wrapKO (k := k) (by omega)
              have HKM := Lib.hid hlt
              have HST : Hid (o = if left - (k : Int) = 0 then (⟨us, vs, true⟩, 170) else if (writeO ⟨us, vs, false⟩ y.n y.b).2 = 0 then runB (writeO ⟨us, vs, false⟩ y.n y.b).1 (xs.drop (k + 1)) (left - (k : Int) - 1) else (zS, (writeO ⟨us, vs, false⟩ y.n y.b).2)) := Lib.hid (by rw [HO'.out, drop_get hy, runB_cons])
              clear hy hlt hk
              obtain ⟨yn, yb⟩ := y
              simp only at d0 d1
              go_upto_region 14 with fail
              clear d0 d1
              have A1 := Lib.hid (AT.out.next (below_al (o := .cells #[.string (kS yn), .string (kS yb)] 43) (Below.refl wr.heap.size wr)))
              have LY := Lib.hid (Lies.new wr #[.string (kS yn), .string (kS yb)] 43)
              have B1 := Lib.hid (below_al (o := .cells #[.string (kS yn), .string (kS yb)] 43) (Below.refl wr.heap.size wr))
              obtain ⟨b1, hb1⟩ : ∃ b, b = wr.heap.size := ⟨_, rfl⟩
              obtain ⟨W1, hW1⟩ : ∃ W, W = wr.alloc (.cells #[.string (kS yn), .string (kS yb)] 43) := ⟨_, rfl⟩
              rw [← hW1] at A1 LY B1 ⊢
              rw [← hb1] at LY ⊢
              clear hW1 hb1 AT
              by_cases hkl : (k : Int) = left
              · have g1 : ((k : Int) == left) = true := eq_b hkl
                have e1 : o = (⟨us, vs, true⟩, 170) := by rw [HST.out, if_pos (by omega)]
                clear hkl
                have f2 := A1.out.box.free 2; have q2 := A1.out.box.cell (j := 2) rfl
                have hp0 : p = n' := by rw [HP.out, e1, HN'.out]
                have hq0 : q = m' := by rw [HQ.out, e1, HM'.out]
                subst e1
                subst hp0 hq0
                clear HP HQ
                have RU := Lib.hid (row_putO (p := ⟨w.heap.size, 2, none⟩) (HU.out.below B1.out) (row_ne_st (HU.out.below B1.out) A1.out.box) (.bool true))
                have RV := Lib.hid (row_putO (p := ⟨w.heap.size, 2, none⟩) (HV.out.below B1.out) (row_ne_st (HV.out.below B1.out) A1.out.box) (.bool true))
                have AD := Lib.hid (A1.out.down true)
                go_upto_region 16 with fail
                clear f2 q2
                obtain ⟨W5, hW5⟩ : ∃ W, W = World.setCell W1 ⟨w.heap.size, 2, none⟩ (.bool true) := ⟨_, rfl⟩
                rw [← hW5] at RU RV AD ⊢
                clear hW5
                have x0 := AD.out.box.cell (j := 0) rfl; have x1 := AD.out.box.cell (j := 1) rfl; have x2 := AD.out.box.cell (j := 2) rfl
                have y0 := AD.out.res.cell (j := 0) rfl; have y1 := AD.out.res.cell (j := 1) rfl; have y2 := AD.out.res.cell (j := 2) rfl
                have z0 := AD.out.res.free 0; have z1 := AD.out.res.free 1; have z2' := AD.out.res.free 2
                go_wp2_with fail
                refine batch_ret (o := ⟨us, vs, true⟩) (R := w.heap.size + 1) ?_ ?_ ?_ (lies_set3O AD.out.res _ _ _) (row_set3O RU.out AD.out.res _ _ _) (row_set3O RV.out AD.out.res _ _ _) HC'.out HD'.out (below_set3O AD.out.below (Nat.le_succ _) _ _ _) <;> rfl
              · have g1 : ((k : Int) == left) = false := ne_b hkl
                have HS2 : Hid (o = if (writeO ⟨us, vs, false⟩ yn yb).2 = 0 then runB (writeO ⟨us, vs, false⟩ yn yb).1 (xs.drop (k + 1)) (left - (k : Int) - 1) else (zS, (writeO ⟨us, vs, false⟩ yn yb).2)) := Lib.hid (by rw [HST.out, if_neg (by omega)])
                clear hkl HST
                obtain ⟨o2, ho2⟩ : ∃ o2, o2 = writeO ⟨us, vs, false⟩ yn yb := ⟨_, rfl⟩
                obtain ⟨p2, hp2⟩ : ∃ p2, p2 = o2.1.cells.length := ⟨_, rfl⟩
                obtain ⟨q2, hq2⟩ : ∃ q2, q2 = o2.1.fresh.length := ⟨_, rfl⟩
                have HWR := Lib.hid (rfWrite us vs n' m' false HN'.out HM'.out yn yb o2 ho2 p2 q2 hp2 hq2 A' c' B' d' W1 (HU.out.below B1.out) (HV.out.below B1.out) HC'.out (by have := HL'.out; omega) (by have := HL2'.out; omega))
                rw [← ho2] at HS2
                have HNX : Hid (o2.2 = 0 → o2.1.cells = us ∧ o2.1.fresh.length ≤ 64 ∧ o2.1.down = false) := Lib.hid (by rw [ho2]; exact write_next)
                have HP2 := Lib.hid hp2
                have HQ2 := Lib.hid hq2
                clear ho2 hp2 hq2
                have x0 := A1.out.box.cell (j := 0) rfl; have x1 := A1.out.box.cell (j := 1) rfl; have x2 := A1.out.box.cell (j := 2) rfl
                have y0 := LY.out.cell (j := 0) rfl; have y1 := LY.out.cell (j := 1) rfl
                go_wp2_with fail
                refine HWR.out.mono ?_
                rintro e w2 ⟨A2, c2, B2, d2, rfl, r1, r2, h1, h2, hb2⟩
                have AT2 := Lib.hid (A1.out.next hb2)
                have R1 := Lib.hid r1
                have R2 := Lib.hid r2
                have H1 := Lib.hid h1
                have H2 := Lib.hid h2
                clear hb2 r1 r2 h1 h2 x0 x1 x2 y0 y1 A1 LY HWR
                obtain ⟨⟨us2, vs2, dn2⟩, z2⟩ := o2
                simp only at HNX HP2 HQ2 HS2 R1 R2 ⊢
                by_cases hz : z2 = 0
                · subst hz
                  obtain ⟨eu, hv, ed⟩ := HNX.out rfl
                  subst ed
                  have HV2 := Lib.hid hv
                  have HO3 : Hid (o = runB ⟨us2, vs2, false⟩ (xs.drop (k + 1)) (left - (k : Int) - 1)) := Lib.hid (by rw [HS2.out, if_pos rfl])
                  have HUE := Lib.hid eu
                  clear eu hv HS2 HNX
                  go_upto_region 18 with fail
                  have A3 := Lib.hid (AT2.out.next (below_al (o := .cells #[.slice A2 p2 c2, .slice B2 q2 d2, .bool false] 24) (Below.refl w2.heap.size w2)))
                  have B3 := Lib.hid (below_al (o := .cells #[.slice A2 p2 c2, .slice B2 q2 d2, .bool false] 24) (Below.refl w2.heap.size w2))
                  have LX := Lib.hid (Lies.new w2 #[.slice A2 p2 c2, .slice B2 q2 d2, .bool false] 24)
                  obtain ⟨b3, hb3⟩ : ∃ b, b = w2.heap.size := ⟨_, rfl⟩
                  obtain ⟨W3, hW3⟩ : ∃ W, W = w2.alloc (.cells #[.slice A2 p2 c2, .slice B2 q2 d2, .bool false] 24) := ⟨_, rfl⟩
                  rw [← hW3] at A3 LX B3 ⊢
                  rw [← hb3] at LX ⊢
                  clear hW3 hb3 AT2
                  have x0 := LX.out.cell (j := 0) rfl; have x1 := LX.out.cell (j := 1) rfl; have x2 := LX.out.cell (j := 2) rfl
                  have y0 := A3.out.box.cell (j := 0) rfl; have y1 := A3.out.box.cell (j := 1) rfl; have y2 := A3.out.box.cell (j := 2) rfl
                  have z0 := A3.out.box.free 0; have z1 := A3.out.box.free 1; have z2 := A3.out.box.free 2
                  go_wp2_with fail
                  go_roundw
                  case rel => exact ⟨k + 1, A2, p2, c2, B2, q2, d2, us2, vs2, rfl, HKM.out, HP2.out, HQ2.out, H1.out, H2.out, by rw [HP2.out, HUE.out, ← HN'.out]; exact HL'.out, by rw [HQ2.out]; exact HV2.out, row_set3O (R1.out.below B3.out) A3.out.box _ _ _, row_set3O (R2.out.below B3.out) A3.out.box _ _ _, by rw [HO3.out]; congr 1; omega, A3.out.set _ _ _ _ _ _ _⟩
                  case measure => simp [intOf]; have := HKM.out; omega
                · have g2 : (z2 == (0 : Int)) = false := ne_b hz
                  have e1 : o = (zS, z2) := by rw [HS2.out, if_neg hz]
                  clear hz HNX HS2
                  go_upto_region 18 with fail
                  have A3 := Lib.hid (AT2.out.next (below_al (o := .cells #[.slice A2 p2 c2, .slice B2 q2 d2, .bool dn2] 24) (Below.refl w2.heap.size w2)))
                  obtain ⟨b3, hb3⟩ : ∃ b, b = w2.heap.size := ⟨_, rfl⟩
                  obtain ⟨W3, hW3⟩ : ∃ W, W = w2.alloc (.cells #[.slice A2 p2 c2, .slice B2 q2 d2, .bool dn2] 24) := ⟨_, rfl⟩
                  rw [← hW3] at A3 ⊢
                  rw [← hb3]
                  clear hW3 hb3 AT2
                  have LR1 := Lib.hid A3.out.res
                  have HB1 := Lib.hid A3.out.below
                  have y0 := LR1.out.cell (j := 0) rfl; have y1 := LR1.out.cell (j := 1) rfl; have y2 := LR1.out.cell (j := 2) rfl
                  have z0 := LR1.out.free 0; have z1 := LR1.out.free 1; have z2' := LR1.out.free 2
                  have hp0 : p = 0 := by rw [HP.out, e1]; rfl
                  have hq0 : q = 0 := by rw [HQ.out, e1]; rfl
                  subst e1
                  subst hp0 hq0
                  clear HP HQ
                  go_wp2_with fail
                  refine batch_ret (o := zS) (R := w.heap.size + 1) ?_ ?_ ?_ (lies_set3O LR1.out _ _ _) (.inl rfl) (.inl rfl) (Nat.le_refl _) (Nat.le_refl _) (below_set3O HB1.out (Nat.le_succ _) _ _ _) <;> rfl
            · have hki : ¬ (k : Int) < (g : Int) := by omega
              have hkg : k = g := by omega
              have HO3 : Hid (o = if left - (g : Int) = 0 then (⟨us, vs, true⟩, 170) else commitO ⟨us, vs, false⟩) := Lib.hid (by rw [HO'.out, List.drop_of_length_le (by rw [← HG.out]; omega), runB_nil, hkg])
              clear HO' hlt hk hkg
              by_cases hkl : left = (g : Int)
              · have g1 : (left == (g : Int)) = true := eq_b hkl
                have e1 : o = (⟨us, vs, true⟩, 170) := by rw [HO3.out, if_pos (by omega)]
                clear hkl
                have f2 := AT.out.box.free 2; have q2 := AT.out.box.cell (j := 2) rfl
                have hp0 : p = n' := by rw [HP.out, e1, HN'.out]
                have hq0 : q = m' := by rw [HQ.out, e1, HM'.out]
                subst e1
                subst hp0 hq0
                clear HP HQ
                have RU := Lib.hid (row_putO (p := ⟨w.heap.size, 2, none⟩) HU.out (row_ne_st HU.out AT.out.box) (.bool true))
                have RV := Lib.hid (row_putO (p := ⟨w.heap.size, 2, none⟩) HV.out (row_ne_st HV.out AT.out.box) (.bool true))
                have AD := Lib.hid (AT.out.down true)
                go_upto_region 24 with fail
                clear f2 q2
                obtain ⟨W5, hW5⟩ : ∃ W, W = World.setCell wr ⟨w.heap.size, 2, none⟩ (.bool true) := ⟨_, rfl⟩
                rw [← hW5] at RU RV AD ⊢
                clear hW5
                have x0 := AD.out.box.cell (j := 0) rfl; have x1 := AD.out.box.cell (j := 1) rfl; have x2 := AD.out.box.cell (j := 2) rfl
                have y0 := AD.out.res.cell (j := 0) rfl; have y1 := AD.out.res.cell (j := 1) rfl; have y2 := AD.out.res.cell (j := 2) rfl
                have z0 := AD.out.res.free 0; have z1 := AD.out.res.free 1; have z2' := AD.out.res.free 2
                go_wp2_with fail
                refine batch_ret (o := ⟨us, vs, true⟩) (R := w.heap.size + 1) ?_ ?_ ?_ (lies_set3O AD.out.res _ _ _) (row_set3O RU.out AD.out.res _ _ _) (row_set3O RV.out AD.out.res _ _ _) HC'.out HD'.out (below_set3O AD.out.below (Nat.le_succ _) _ _ _) <;> rfl
              · have g1 : (left == (g : Int)) = false := ne_b hkl
                have HO4 : Hid (o = commitO ⟨us, vs, false⟩) := Lib.hid (by rw [HO3.out, if_neg (by omega)])
                clear hkl HO3
                have HCM := Lib.hid (rfCommit us vs n' m' false HN'.out HM'.out o HO4.out p q HP.out HQ.out A' c' B' d' wr HU.out HV.out HC'.out (by have := HL'.out; have := HL2'.out; omega))
                obtain ⟨⟨us2, vs2, dn2⟩, z2⟩ := o
                have x0 := AT.out.box.cell (j := 0) rfl; have x1 := AT.out.box.cell (j := 1) rfl; have x2 := AT.out.box.cell (j := 2) rfl
                go_wp2_with fail
                refine HCM.out.mono ?_
                rintro e w2 ⟨A2, c2, B2, d2, rfl, r1, r2, h1, h2, hb2⟩
                have AT2 := Lib.hid (AT.out.next hb2)
                have R1 := Lib.hid r1
                have R2 := Lib.hid r2
                have H1 := Lib.hid h1
                have H2 := Lib.hid h2
                clear hb2 r1 r2 h1 h2 x0 x1 x2 AT HCM HO4
                have y0 := AT2.out.res.cell (j := 0) rfl; have y1 := AT2.out.res.cell (j := 1) rfl; have y2 := AT2.out.res.cell (j := 2) rfl
                have z0 := AT2.out.res.free 0; have z1 := AT2.out.res.free 1; have z2' := AT2.out.res.free 2
                go_wp2_with fail
                have hL := lies_set3O AT2.out.res (.slice A2 p c2) (.slice B2 q d2) (.bool dn2)
                have h1 := row_set3O R1.out AT2.out.res (.slice A2 p c2) (.slice B2 q d2) (.bool dn2)
                have h2 := row_set3O R2.out AT2.out.res (.slice A2 p c2) (.slice B2 q d2) (.bool dn2)
                have hB := below_set3O AT2.out.below (Nat.le_succ _) (.slice A2 p c2) (.slice B2 q d2) (.bool dn2)
                refine batch_ret (R := w.heap.size + 1) (A := A2) (c := c2) (B := B2) (d := d2) ?_ ?_ ?_ hL h1 h2 H1.out H2.out hB <;> rfl
        · have e1 : o = (zS, 170) := HO1.out
          have LR1 := Lib.hid A1.out.res
          have HB1 := Lib.hid A1.out.below
          have y0 := LR1.out.cell (j := 0) rfl; have y1 := LR1.out.cell (j := 1) rfl; have y2 := LR1.out.cell (j := 2) rfl
          have z0 := LR1.out.free 0; have z1 := LR1.out.free 1; have z2' := LR1.out.free 2
          have hp0 : p = 0 := by rw [HP.out, e1]; rfl
          have hq0 : q = 0 := by rw [HQ.out, e1]; rfl
          subst e1
          subst hp0 hq0
          clear HP HQ
          go_wp2_with fail
          refine batch_ret (o := zS) (R := w.heap.size + 1) ?_ ?_ ?_ (lies_set3O LR1.out _ _ _) (.inl rfl) (.inl rfl) (Nat.le_refl _) (Nat.le_refl _) (below_set3O HB1.out (Nat.le_succ _) _ _ _) <;> rfl
end So
end Go.Proofs.Ytpjgdpdgfchhkaa
