/- The code's calls: Write, Commit, Read, Start. -/
import Derived.Test.YtpjgdpdgfchhkaaStoreCh
namespace Go.Proofs.Ytpjgdpdgfchhkaa
open Go.ChangeShapes Go.WideShapes Go.ChangeAt Go.RowKit
set_option linter.unusedVariables false
set_option maxRecDepth 8000
namespace So
open Gen (TellsB TellsI row_one flat_len flat_get Mine)
theorem open_ok {r q dn : Bool} (h : openO r q dn = 0) : r = true ∧ q = true ∧ dn = false := by
  unfold openO at h
  cases r <;> cases q <;> cases dn <;> simp at h <;> exact ⟨rfl, rfl, rfl⟩
theorem ck_write_ret {w wF : World} {R p q : Nat} {o : Sr} {z : Int} {A : Option Addr} {c : Nat} {B : Option Addr} {d : Nat} {act : Act} (ht : act.tmps.getD 6 undef = .pointer (some ⟨R, 0, none⟩)) (he : act.tmps.getD 7 undef = .int .i64 z) (hd : act.defers = [])
    (hL : Lies R #[.slice A p c, .slice B q d, .bool o.down] 24 wF) (h1 : Row wF A (clc o.cells)) (h2 : Row wF B (clc o.fresh)) (h3 : p ≤ c) (h4 : q ≤ d) (hB : Below w.heap.size w wF) :
    bodyPost Try.prog Try.f10 (GivesSr o p q z w) .ret act wF := by
  have c0 := hL.cell (j := 0) rfl
  have c1 := hL.cell (j := 1) rfl
  have c2 := hL.cell (j := 2) rfl
  refine bodyPost_ret (v := .tuple #[srV A p c B q d o.down, .int .i64 z]) ?_ hd ⟨A, c, B, d, rfl, h1, h2, h3, h4, hB⟩
  have ht2 : act.tmps[6]?.getD undef = .pointer (some ⟨R, 0, none⟩) := by simpa using ht
  have he2 : act.tmps[7]?.getD undef = .int .i64 z := by simpa using he
  simp [results, Try.results10, go_sem, ht2, he2, c0, c1, c2]
set_option maxRecDepth 100000 in
set_option maxHeartbeats 1000000 in
theorem ckWrite (cs fs : List Cl) (n m : Nat) (dn : Bool) (hn : n = cs.length) (hm : m = fs.length) (nm by' : List UInt8) (o : Sr × Int) (ho : o = writeO ⟨cs, fs, dn⟩ nm by') (p q : Nat) (hp : p = o.1.cells.length) (hq : q = o.1.fresh.length) (A : Option Addr) (c : Nat) (B : Option Addr) (d : Nat) (w : World) (hA : Row w A (clc cs)) (hB : Row w B (clc fs)) (hc : n ≤ c) (hl : n ≤ 100000) (hl2 : m ≤ 100000) :
    Calls Try.prog 10 #[srV A n c B m d dn, .string (kS nm), .string (kS by')] w (GivesSr o.1 p q o.2 w) := by
  obtain ⟨r, hr⟩ : ∃ r, r = rightS ⟨cs, fs, dn⟩ := ⟨_, rfl⟩
  obtain ⟨my, hmy⟩ : ∃ r, r = [(⟨nm, by'⟩ : Cl)].all mayB := ⟨_, rfl⟩
  have hmy1 : my = mayB ⟨nm, by'⟩ := by rw [hmy]; simp
  obtain ⟨z, hz⟩ : ∃ z, z = openO r my dn := ⟨_, rfl⟩
  have HO : Hid (o = if r = false then (zS, 1) else if my = false then (zS, 1) else if dn then (zS, 170) else if m = 64 then (zS, 3) else (⟨cs, fs ++ [⟨nm, by'⟩], false⟩, 0)) := Lib.hid (by rw [ho, write_parts cs fs dn nm by' r my hr hmy1, hm])
  have HOZ : Hid (z ≠ 0 → o = (zS, z)) := Lib.hid (fun h0 => by rw [HO.out]; rw [hz] at h0 ⊢; unfold openO at h0 ⊢; cases r <;> cases my <;> cases dn <;> simp at h0 ⊢)
  have HP := Lib.hid hp
  have HQ := Lib.hid hq
  have HRA := Lib.hid hA
  have HRB := Lib.hid hB
  have HN := Lib.hid hn
  have HM := Lib.hid hm
  have HL2 := Lib.hid hl2
  have HZ := Lib.hid hz
  have BT : Hid (BtAt w A n c B m d dn ((w.alloc (.cells #[.slice A n c, .slice B m d, .bool dn] 24)).alloc (.cells #[.slice none 0 0, .slice none 0 0, .bool false] 24))) := Lib.hid
    ⟨(Lies.new w _ _).al, Gen.lies_new1 w _ _ _, below_al (below_al (Below.refl _ _))⟩
  have HNO := Lib.hid (fun (w' : World) (hb : Below w.heap.size w w') (hz0 : z ≠ 0) C (hC : Row w' C (clc [⟨nm, by'⟩])) => ckBegin_no cs fs [⟨nm, by'⟩] n m 1 dn r my hn hm rfl hr hmy z hz hz0 A c B d C 1 w' (hA.below hb) (hB.below hb) hC hl hl2 (by omega))
  have HYES := Lib.hid (fun (w' : World) (hb : Below w.heap.size w w') (hz0 : z = 0) C (hC : Row w' C (clc [⟨nm, by'⟩])) => ckBegin_ok cs fs [⟨nm, by'⟩] n m 1 dn r my hn hm rfl hr hmy (by rw [← hz, hz0]) A c B d C 1 w' (hA.below hb) (hB.below hb) hC hl hl2 (by omega))
  clear hA hB hn hm ho hp hq hr hmy hmy1 hl hl2 hc hz
  go_enter Try.func10, Try.ntmps10
  go_upto_region 1 with fail
  obtain ⟨W, hW⟩ : ∃ W, W = (w.alloc (.cells #[.slice A n c, .slice B m d, .bool dn] 24)).alloc (.cells #[.slice none 0 0, .slice none 0 0, .bool false] 24) := ⟨_, rfl⟩
  rw [← hW] at BT ⊢
  clear hW
  have hbx := below_al (o := .cells #[.string (kS nm), .string (kS by')] 43) (Below.refl W.heap.size W)
  have B1 := Lib.hid (BT.out.next hbx)
  have HROW := Lib.hid (one_rowC W ⟨nm, by'⟩)
  simp only [clC] at HROW
  clear hbx
  have x0 := BT.out.box.cell (j := 0) rfl; have x1 := BT.out.box.cell (j := 1) rfl; have x2 := BT.out.box.cell (j := 2) rfl
  by_cases hz0 : z = 0
  · have HB1 := Lib.hid (HYES.out _ B1.out.below hz0 _ HROW.out)
    obtain ⟨hr1, hm1, hd1⟩ := open_ok (HZ.out.symm.trans hz0)
    subst hr1 hm1 hd1
    clear HNO HYES HOZ HZ
    go_wp2_with fail
    refine HB1.out.mono ?_
    rintro e w2 ⟨b, A2, c2, B2, d2, rfl, hba⟩
    have BA := Lib.hid hba
    have LR := Lib.hid (B1.out.res.below hba.below)
    have HBW := Lib.hid (below_next B1.out.below hba.below)
    clear hba x0 x1 x2
    by_cases h64 : m = 64
    · have e1 : o = (zS, 3) := by rw [HO.out, if_neg (by simp), if_neg (by simp), if_neg (by simp), if_pos h64]
      have HWF := Lib.hid (ckWriteB_full BA.out h64)
      have HEN := Lib.hid (fun w' => ckEnd_err (.pointer (some ⟨b, 0, none⟩)) 3 (by decide) w')
      clear h64 HO
      go_wp2_with fail
      refine HWF.out.mono ?_
      rintro e w3 ⟨rfl, rfl⟩
      go_wp2_with fail
      refine (HEN.out _).mono ?_
      rintro e w4 ⟨rfl, hb4⟩
      have LR4 := Lib.hid (LR.out.below hb4)
      have HB4 := Lib.hid (below_next HBW.out hb4)
      clear hb4 HWF HEN
      have hp0 : p = 0 := by rw [HP.out, e1]; rfl
      have hq0 : q = 0 := by rw [HQ.out, e1]; rfl
      subst e1
      subst hp0 hq0
      clear HP HQ
      have y0 := LR4.out.cell (j := 0) rfl; have y1 := LR4.out.cell (j := 1) rfl; have y2 := LR4.out.cell (j := 2) rfl
      have z0 := LR4.out.free 0; have z1 := LR4.out.free 1; have z2 := LR4.out.free 2
      go_wp2_with fail
      refine ck_write_ret (o := zS) (R := w.heap.size + 1) ?_ ?_ ?_ (lies_set3O LR4.out _ _ _) (.inl rfl) (.inl rfl) (Nat.le_refl _) (Nat.le_refl _) (below_set3O HB4.out (Nat.le_succ _) _ _ _) <;> rfl
    · have e1 : o = (⟨cs, fs ++ [⟨nm, by'⟩], false⟩, 0) := by rw [HO.out, if_neg (by simp), if_neg (by simp), if_neg (by simp), if_neg h64]
      have HWO := Lib.hid (ckWriteB_ok (r := []) BA.out h64 HL2.out HM.out HROW.out rfl (Nat.le_refl _))
      have hp0 : p = n := by rw [HP.out, e1, HN.out]
      have hq0 : q = m + 1 := by rw [HQ.out, e1, HM.out]; simp
      subst e1
      subst hp0 hq0
      clear h64 HO HP HQ
      go_wp2_with fail
      refine HWO.out.mono ?_
      rintro e w3 ⟨B3, d3, C3, e3, rfl, hba3, _, _⟩
      have BA3 := Lib.hid hba3
      clear hba3 HWO
      have HEN := Lib.hid (ckEnd_ok BA3.out)
      go_wp2_with fail
      refine HEN.out.mono ?_
      rintro e w4 ⟨rfl, hb4⟩
      have BA4 := Lib.hid (BA3.out.next hb4)
      have LR4 := Lib.hid (B1.out.res.below BA4.out.below)
      have HB4 := Lib.hid (below_next B1.out.below BA4.out.below)
      have HRA4 := Lib.hid (own_rowO BA4.out.oa)
      have HRB4 := Lib.hid (own_rowO BA4.out.ob)
      clear hb4 HEN BA3 BA LR HBW
      have y0 := LR4.out.cell (j := 0) rfl; have y1 := LR4.out.cell (j := 1) rfl; have y2 := LR4.out.cell (j := 2) rfl
      have z0 := LR4.out.free 0; have z1 := LR4.out.free 1; have z2 := LR4.out.free 2
      go_wp2_with fail
      refine ck_write_ret (o := ⟨cs, fs ++ [⟨nm, by'⟩], false⟩) (R := w.heap.size + 1) ?_ ?_ ?_ (lies_set3O LR4.out _ _ _) (row_set3O HRA4.out.1 LR4.out _ _ _) (row_set3O HRB4.out.1 LR4.out _ _ _) HRA4.out.2.1 HRB4.out.2.1 (below_set3O HB4.out (Nat.le_succ _) _ _ _) <;> rfl
  · have e1 : o = (zS, z) := HOZ.out hz0
    have HB1 := Lib.hid (HNO.out _ B1.out.below hz0 _ HROW.out)
    have g1 : (z != 0) = true := nb hz0
    clear HNO HYES HOZ HO HZ hz0
    go_wp2_with fail
    refine HB1.out.mono ?_
    rintro e w2 ⟨rfl, hb2⟩
    have LR := Lib.hid (B1.out.res.below hb2)
    have HBW := Lib.hid (below_next B1.out.below hb2)
    clear hb2 x0 x1 x2 HB1
    have hp0 : p = 0 := by rw [HP.out, e1]; rfl
    have hq0 : q = 0 := by rw [HQ.out, e1]; rfl
    subst e1
    subst hp0 hq0
    clear HP HQ
    have y0 := LR.out.cell (j := 0) rfl; have y1 := LR.out.cell (j := 1) rfl; have y2 := LR.out.cell (j := 2) rfl
    have z0 := LR.out.free 0; have z1 := LR.out.free 1; have z2 := LR.out.free 2
    go_wp2_with fail
    refine ck_write_ret (o := zS) (R := w.heap.size + 1) ?_ ?_ ?_ (lies_set3O LR.out _ _ _) (.inl rfl) (.inl rfl) (Nat.le_refl _) (Nat.le_refl _) (below_set3O HBW.out (Nat.le_succ _) _ _ _) <;> rfl
theorem ck_commit_ret {w wF : World} {R p q : Nat} {o : Sr} {z : Int} {A : Option Addr} {c : Nat} {B : Option Addr} {d : Nat} {act : Act} (ht : act.tmps.getD 2 undef = .pointer (some ⟨R, 0, none⟩)) (he : act.tmps.getD 3 undef = .int .i64 z) (hd : act.defers = [])
    (hL : Lies R #[.slice A p c, .slice B q d, .bool o.down] 24 wF) (h1 : Row wF A (clc o.cells)) (h2 : Row wF B (clc o.fresh)) (h3 : p ≤ c) (h4 : q ≤ d) (hB : Below w.heap.size w wF) :
    bodyPost Try.prog Try.f12 (GivesSr o p q z w) .ret act wF := by
  have c0 := hL.cell (j := 0) rfl
  have c1 := hL.cell (j := 1) rfl
  have c2 := hL.cell (j := 2) rfl
  refine bodyPost_ret (v := .tuple #[srV A p c B q d o.down, .int .i64 z]) ?_ hd ⟨A, c, B, d, rfl, h1, h2, h3, h4, hB⟩
  have ht2 : act.tmps[2]?.getD undef = .pointer (some ⟨R, 0, none⟩) := by simpa using ht
  have he2 : act.tmps[3]?.getD undef = .int .i64 z := by simpa using he
  simp [results, Try.results12, go_sem, ht2, he2, c0, c1, c2]
set_option maxRecDepth 100000 in
set_option maxHeartbeats 1000000 in
theorem ckCommit (cs fs : List Cl) (n m : Nat) (dn : Bool) (hn : n = cs.length) (hm : m = fs.length) (o : Sr × Int) (ho : o = commitO ⟨cs, fs, dn⟩) (p q : Nat) (hp : p = o.1.cells.length) (hq : q = o.1.fresh.length) (A : Option Addr) (c : Nat) (B : Option Addr) (d : Nat) (w : World) (hA : Row w A (clc cs)) (hB : Row w B (clc fs)) (hc : n ≤ c) (hl : n + m ≤ 100000) :
    Calls Try.prog 12 #[srV A n c B m d dn] w (GivesSr o.1 p q o.2 w) := by
  obtain ⟨r, hr⟩ : ∃ r, r = rightS ⟨cs, fs, dn⟩ := ⟨_, rfl⟩
  obtain ⟨my, hmy⟩ : ∃ r, r = ([] : List Cl).all mayB := ⟨_, rfl⟩
  have hmy1 : my = true := hmy
  obtain ⟨z, hz⟩ : ∃ z, z = openO r my dn := ⟨_, rfl⟩
  obtain ⟨us, hus⟩ : ∃ us, us = count cs fs := ⟨_, rfl⟩
  obtain ⟨k, hk⟩ : ∃ k, k = us.length := ⟨_, rfl⟩
  have HO : Hid (o = if r = false then (zS, 1) else if dn then (zS, 170) else if 64 < k then (zS, 3) else (⟨us, [], false⟩, 0)) := Lib.hid (by rw [ho, hr, hk, hus]; unfold commitO; cases dn <;> rfl)
  have HOZ : Hid (z ≠ 0 → o = (zS, z)) := Lib.hid (fun h0 => by rw [HO.out]; rw [hz, hmy1] at h0 ⊢; unfold openO at h0 ⊢; cases r <;> cases dn <;> simp at h0 ⊢)
  have HOK : Hid (r = true → Good cs ∧ ∀ x ∈ fs, mayB x = true) := Lib.hid (fun h => by have := (ok_iff _).1 (hr.symm.trans h); exact ⟨this.good, this.fresh⟩)
  have HP := Lib.hid hp
  have HQ := Lib.hid hq
  have HRA := Lib.hid hA
  have HRB := Lib.hid hB
  have HN := Lib.hid hn
  have HM := Lib.hid hm
  have HZ := Lib.hid hz
  have HUS := Lib.hid hus
  have HK := Lib.hid hk
  have HL := Lib.hid hl
  have BT : Hid (BtAt w A n c B m d dn ((w.alloc (.cells #[.slice A n c, .slice B m d, .bool dn] 24)).alloc (.cells #[.slice none 0 0, .slice none 0 0, .bool false] 24))) := Lib.hid
    ⟨(Lies.new w _ _).al, Gen.lies_new1 w _ _ _, below_al (below_al (Below.refl _ _))⟩
  have HNO := Lib.hid (fun (w' : World) (hb : Below w.heap.size w w') (hz0 : z ≠ 0) => ckBegin_no cs fs [] n m 0 dn r my hn hm rfl hr hmy z hz hz0 A c B d none 0 w' (hA.below hb) (hB.below hb) (.inl rfl) (by omega) (by omega) (by omega))
  have HYES := Lib.hid (fun (w' : World) (hb : Below w.heap.size w w') (hz0 : z = 0) => ckBegin_ok cs fs [] n m 0 dn r my hn hm rfl hr hmy (by rw [← hz, hz0]) A c B d none 0 w' (hA.below hb) (hB.below hb) (.inl rfl) (by omega) (by omega) (by omega))
  clear hA hB hn hm ho hp hq hr hmy hmy1 hl hc hz hus hk
  go_enter Try.func12, Try.ntmps12
  go_upto_region 1 with fail
  obtain ⟨W, hW⟩ : ∃ W, W = (w.alloc (.cells #[.slice A n c, .slice B m d, .bool dn] 24)).alloc (.cells #[.slice none 0 0, .slice none 0 0, .bool false] 24) := ⟨_, rfl⟩
  rw [← hW] at BT ⊢
  clear hW
  have x0 := BT.out.box.cell (j := 0) rfl; have x1 := BT.out.box.cell (j := 1) rfl; have x2 := BT.out.box.cell (j := 2) rfl
  by_cases hz0 : z = 0
  · have HB1 := Lib.hid (HYES.out _ BT.out.below hz0)
    obtain ⟨hr1, hm1, hd1⟩ := open_ok (HZ.out.symm.trans hz0)
    subst hr1 hm1 hd1
    clear HNO HYES HOZ HZ
    go_wp2_with fail
    refine HB1.out.mono ?_
    rintro e w2 ⟨b, A2, c2, B2, d2, rfl, hba⟩
    have BA := Lib.hid hba
    clear hba x0 x1 x2
    by_cases h64 : 64 < k
    · have e1 : o = (zS, 3) := by rw [HO.out, if_neg (by simp), if_neg (by simp), if_pos h64]
      have HCM := Lib.hid (ckCommitB BA.out (HOK.out (by trivial)).1 (HOK.out (by trivial)).2 HN.out HM.out HL.out us HUS.out k HK.out 3 (if_pos h64).symm)
      have HEN := Lib.hid (fun w' => ckEnd_err (.pointer (some ⟨b, 0, none⟩)) 3 (by decide) w')
      clear h64 HO
      go_wp2_with fail
      refine HCM.out.mono ?_
      rintro e w3 ⟨A3, c3, rfl, hba3⟩
      have LR := Lib.hid (BT.out.res.below hba3.below)
      have HBW := Lib.hid (below_next BT.out.below hba3.below)
      clear hba3 HCM
      go_wp2_with fail
      refine (HEN.out _).mono ?_
      rintro e w4 ⟨rfl, hb4⟩
      have LR4 := Lib.hid (LR.out.below hb4)
      have HB4 := Lib.hid (below_next HBW.out hb4)
      clear hb4 HEN
      have hp0 : p = 0 := by rw [HP.out, e1]; rfl
      have hq0 : q = 0 := by rw [HQ.out, e1]; rfl
      subst e1
      subst hp0 hq0
      clear HP HQ
      have y0 := LR4.out.cell (j := 0) rfl; have y1 := LR4.out.cell (j := 1) rfl; have y2 := LR4.out.cell (j := 2) rfl
      have z0 := LR4.out.free 0; have z1 := LR4.out.free 1; have z2 := LR4.out.free 2
      go_wp2_with fail
      refine ck_commit_ret (o := zS) (R := w.heap.size + 1) ?_ ?_ ?_ (lies_set3O LR4.out _ _ _) (.inl rfl) (.inl rfl) (Nat.le_refl _) (Nat.le_refl _) (below_set3O HB4.out (Nat.le_succ _) _ _ _) <;> rfl
    · have e1 : o = (⟨us, [], false⟩, 0) := by rw [HO.out, if_neg (by simp), if_neg (by simp), if_neg h64]
      have HCM := Lib.hid (ckCommitB BA.out (HOK.out (by trivial)).1 (HOK.out (by trivial)).2 HN.out HM.out HL.out us HUS.out k HK.out 0 (if_neg h64).symm)
      have hp0 : p = k := by rw [HP.out, e1, HK.out]
      have hq0 : q = 0 := by rw [HQ.out, e1]; rfl
      subst e1
      subst hp0 hq0
      clear h64 HO HP HQ
      go_wp2_with fail
      refine HCM.out.mono ?_
      rintro e w3 ⟨A3, c3, rfl, hba3⟩
      have BA3 := Lib.hid hba3
      clear hba3 HCM
      have HEN := Lib.hid (ckEnd_ok BA3.out)
      go_wp2_with fail
      refine HEN.out.mono ?_
      rintro e w4 ⟨rfl, hb4⟩
      have BA4 := Lib.hid (BA3.out.next hb4)
      have LR4 := Lib.hid (BT.out.res.below BA4.out.below)
      have HB4 := Lib.hid (below_next BT.out.below BA4.out.below)
      have HRA4 := Lib.hid (own_rowO BA4.out.oa)
      clear hb4 HEN BA3 BA
      have y0 := LR4.out.cell (j := 0) rfl; have y1 := LR4.out.cell (j := 1) rfl; have y2 := LR4.out.cell (j := 2) rfl
      have z0 := LR4.out.free 0; have z1 := LR4.out.free 1; have z2 := LR4.out.free 2
      go_wp2_with fail
      refine ck_commit_ret (o := ⟨us, [], false⟩) (R := w.heap.size + 1) ?_ ?_ ?_ (lies_set3O LR4.out _ _ _) (row_set3O HRA4.out.1 LR4.out _ _ _) (.inl rfl) HRA4.out.2.1 (Nat.le_refl _) (below_set3O HB4.out (Nat.le_succ _) _ _ _) <;> rfl
  · have e1 : o = (zS, z) := HOZ.out hz0
    have HB1 := Lib.hid (HNO.out _ BT.out.below hz0)
    have g1 : (z != 0) = true := nb hz0
    clear HNO HYES HOZ HO HZ hz0
    go_wp2_with fail
    refine HB1.out.mono ?_
    rintro e w2 ⟨rfl, hb2⟩
    have LR := Lib.hid (BT.out.res.below hb2)
    have HBW := Lib.hid (below_next BT.out.below hb2)
    clear hb2 x0 x1 x2 HB1
    have hp0 : p = 0 := by rw [HP.out, e1]; rfl
    have hq0 : q = 0 := by rw [HQ.out, e1]; rfl
    subst e1
    subst hp0 hq0
    clear HP HQ
    have y0 := LR.out.cell (j := 0) rfl; have y1 := LR.out.cell (j := 1) rfl; have y2 := LR.out.cell (j := 2) rfl
    have z0 := LR.out.free 0; have z1 := LR.out.free 1; have z2 := LR.out.free 2
    go_wp2_with fail
    refine ck_commit_ret (o := zS) (R := w.heap.size + 1) ?_ ?_ ?_ (lies_set3O LR.out _ _ _) (.inl rfl) (.inl rfl) (Nat.le_refl _) (Nat.le_refl _) (below_set3O HBW.out (Nat.le_succ _) _ _ _) <;> rfl
theorem find_pl {l : List Cl} {nm : List UInt8} {p : Nat} (H : PlAt l nm p true) : ∃ y, l[p]? = some y ∧ l.find? (fun c => decide (c.n = nm)) = some y := by
  obtain ⟨y, hy, hn⟩ := H.at_ rfl
  exact ⟨y, hy, find_at (fun i x hi hx => less_ne (H.lo i x hi hx)) hy hn⟩
theorem find_npl {l : List Cl} {nm : List UInt8} {p : Nat} (H : PlAt l nm p false) : l.find? (fun c => decide (c.n = nm)) = none :=
  find_none fun c hc => by
    obtain ⟨i, hi⟩ := List.getElem?_of_mem hc
    by_cases h : i < p
    · exact less_ne (H.lo i c h hi)
    · exact (less_ne (H.hi i c (by simpa using h) hi)).symm
set_option maxRecDepth 100000 in
set_option maxHeartbeats 1000000 in
theorem ckRead (cs fs : List Cl) (n m : Nat) (dn : Bool) (hn : n = cs.length) (hm : m = fs.length) (nm : List UInt8) (o : List UInt8 × Int) (ho : o = readO ⟨cs, fs, dn⟩ nm) (A : Option Addr) (c : Nat) (B : Option Addr) (d : Nat) (w : World) (hA : Row w A (clc cs)) (hB : Row w B (clc fs)) (hl : n ≤ 100000) (hl2 : m ≤ 100000) :
    Calls Try.prog 14 #[srV A n c B m d dn, .string (kS nm)] w (GivesB o.1 o.2 w) := by
  obtain ⟨r, hr⟩ : ∃ r, r = rightS ⟨cs, fs, dn⟩ := ⟨_, rfl⟩
  obtain ⟨z, hz⟩ : ∃ z, z = openO r true dn := ⟨_, rfl⟩
  have HO : Hid (o = if r = false then (([], 1) : List UInt8 × Int) else if dn then (([], 170) : List UInt8 × Int) else match cs.find? (fun c => decide (c.n = nm)) with | some c => (c.b, 0) | none => (([], 171) : List UInt8 × Int)) := Lib.hid (by rw [ho, hr]; rfl)
  have HOZ : Hid (z ≠ 0 → o = ([], z)) := Lib.hid (fun h0 => by rw [HO.out]; rw [hz] at h0 ⊢; unfold openO at h0 ⊢; cases r <;> cases dn <;> simp at h0 ⊢)
  have HOK : Hid (r = true → Up cs) := Lib.hid (fun h => ((ok_iff _).1 (hr.symm.trans h)).good.rise)
  have hb0 := below_al (o := .cells (srC A n c B m d dn) 24) (Below.refl w.heap.size w)
  have HOP := Lib.hid (fun w' (hb : Below w.heap.size w w') => ckOpen cs fs [] n m 0 dn r true hn hm rfl hr rfl z hz A c B d none 0 w' (hA.below hb) (hB.below hb) (.inl rfl) (by omega) (by omega) (by omega))
  have HFD := Lib.hid (fun (hu : Up cs) w' (hb : Below w.heap.size w w') => ckFind cs nm n hn hu A c w' (hA.below hb) (by omega))
  have HRA := Lib.hid hA
  have HN := Lib.hid hn
  have HZ := Lib.hid hz
  have HB := Lib.hid hb0
  have L := Lib.hid (Lies.new w (srC A n c B m d dn) 24)
  clear hA hB hn hm ho hr hl hl2 hz hb0
  simp only [srC] at L HB
  go_enter Try.func14, Try.ntmps14
  go_upto_region 1 with fail
  obtain ⟨tb, htb⟩ : ∃ b, b = w.heap.size := ⟨_, rfl⟩
  obtain ⟨W, hW⟩ : ∃ W, W = w.alloc (.cells #[.slice A n c, .slice B m d, .bool dn] 24) := ⟨_, rfl⟩
  rw [← hW] at L HB ⊢
  rw [← htb] at L ⊢
  clear hW htb
  have x0 := L.out.cell (j := 0) rfl; have x1 := L.out.cell (j := 1) rfl; have x2 := L.out.cell (j := 2) rfl
  go_wp2_with fail
  refine (HOP.out _ HB.out).mono ?_
  rintro e w1 ⟨rfl, hb1⟩
  have HB1 := Lib.hid (below_next HB.out hb1)
  have L1 := Lib.hid (L.out.below hb1)
  clear hb1 x0 x1 x2
  by_cases hz0 : z = 0
  · obtain ⟨hr1, _, hd1⟩ := open_ok (HZ.out.symm.trans hz0)
    subst hz0
    subst hr1 hd1
    have x0 := L1.out.cell (j := 0) rfl
    go_wp2_with fail
    refine (HFD.out (HOK.out (by trivial)) _ HB1.out).mono ?_
    rintro e w2 ⟨p, is, rfl, hp, hb2⟩
    have HB2 := Lib.hid (below_next HB1.out hb2)
    have L2 := Lib.hid (L1.out.below hb2)
    have HP := Lib.hid hp
    clear hb2 x0 hp
    cases is
    · have e1 : o = ([], 171) := by rw [HO.out, if_neg (by simp), if_neg (by simp), find_npl HP.out]
      subst e1
      clear HO
      go_wp2_with fail
      go_ret2
      exact ⟨rfl, HB2.out⟩
    · obtain ⟨y, hy, hf⟩ := find_pl HP.out
      have e1 : o = (y.b, 0) := by rw [HO.out, if_neg (by simp), if_neg (by simp), hf]
      obtain ⟨bq, off, hA1, c0, c1⟩ := cell_row (HRA.out.below HB2.out) hy
      subst hA1
      have hpn : (p : Int) < (n : Int) := by have := (List.getElem?_eq_some_iff.1 hy).1; have := HN.out; omega
      subst e1
      clear HO hf hy
      have x0 := L2.out.cell (j := 0) rfl
      obtain ⟨yn, yb⟩ := y
      simp only at c0 c1
      go_wp2_with fail
      go_ret2
      exact ⟨rfl, HB2.out⟩
  · have e1 : o = ([], z) := HOZ.out hz0
    have g1 : (z != 0) = true := nb hz0
    subst e1
    clear HO HOZ hz0
    go_wp2_with fail
    go_ret2
    exact ⟨rfl, HB1.out⟩
/-- A store in memory: the start's. -/
theorem start_ret {w wF : World} {R p q : Nat} {o : Sr} {z : Int} {A : Option Addr} {c : Nat} {B : Option Addr} {d : Nat} {act : Act} (ht : act.tmps.getD 2 undef = .pointer (some ⟨R, 0, none⟩)) (he : act.tmps.getD 3 undef = .int .i64 z) (hd : act.defers = [])
    (hL : Lies R #[.slice A p c, .slice B q d, .bool o.down] 24 wF) (h1 : Row wF A (clc o.cells)) (h2 : Row wF B (clc o.fresh)) (h3 : p ≤ c) (h4 : q ≤ d) (hB : Below w.heap.size w wF) :
    bodyPost Try.prog Try.f20 (GivesSr o p q z w) .ret act wF := by
  have c0 := hL.cell (j := 0) rfl
  have c1 := hL.cell (j := 1) rfl
  have c2 := hL.cell (j := 2) rfl
  refine bodyPost_ret (v := .tuple #[srV A p c B q d o.down, .int .i64 z]) ?_ hd ⟨A, c, B, d, rfl, h1, h2, h3, h4, hB⟩
  have ht2 : act.tmps[2]?.getD undef = .pointer (some ⟨R, 0, none⟩) := by simpa using ht
  have he2 : act.tmps[3]?.getD undef = .int .i64 z := by simpa using he
  simp [results, Try.results20, go_sem, ht2, he2, c0, c1, c2]
set_option maxRecDepth 100000 in
theorem ckStart (cs fs : List Cl) (n m : Nat) (dn : Bool) (hn : n = cs.length) (hm : m = fs.length) (o : Sr × Int) (ho : o = startO ⟨cs, fs, dn⟩) (p q : Nat) (hp : p = o.1.cells.length) (hq : q = o.1.fresh.length) (A : Option Addr) (c : Nat) (B : Option Addr) (d : Nat) (w : World) (hA : Row w A (clc cs)) (hB : Row w B (clc fs)) (hc : n ≤ c) (hl : n ≤ 100000) (hl2 : m ≤ 100000) :
    Calls Try.prog 20 #[srV A n c B m d dn] w (GivesSr o.1 p q o.2 w) := by
  obtain ⟨r, hr⟩ : ∃ r, r = rightS ⟨cs, fs, dn⟩ := ⟨_, rfl⟩
  have HRT := Lib.hid (fun w' (hb : Below w.heap.size w w') => ckRight cs fs n m dn r hn hm hr A c B d w' (hA.below hb) (hB.below hb) (by omega) (by omega))
  have HKA := Lib.hid (fun w' (hb : Below w.heap.size w w') => ckClone cs n hn A c w' (hA.below hb) hl)
  have HO : Hid (o = if r = false then (zS, 1) else (⟨cs, [], false⟩, 0)) := Lib.hid (by rw [ho, hr]; rfl)
  have HP := Lib.hid hp
  have HQ := Lib.hid hq
  have HN := Lib.hid hn
  have BT : Hid (BtAt w A n c B m d dn ((w.alloc (.cells #[.slice A n c, .slice B m d, .bool dn] 24)).alloc (.cells #[.slice none 0 0, .slice none 0 0, .bool false] 24))) := Lib.hid
    ⟨(Lies.new w _ _).al, Gen.lies_new1 w _ _ _, below_al (below_al (Below.refl _ _))⟩
  clear hA hB hn hm ho hp hq hr hc hl hl2
  go_enter Try.func20, Try.ntmps20
  go_upto_region 1 with fail
  obtain ⟨W, hW⟩ : ∃ W, W = (w.alloc (.cells #[.slice A n c, .slice B m d, .bool dn] 24)).alloc (.cells #[.slice none 0 0, .slice none 0 0, .bool false] 24) := ⟨_, rfl⟩
  rw [← hW] at BT ⊢
  clear hW
  have x0 := BT.out.box.cell (j := 0) rfl; have x1 := BT.out.box.cell (j := 1) rfl; have x2 := BT.out.box.cell (j := 2) rfl
  go_wp2_with fail
  refine (HRT.out _ BT.out.below).mono ?_
  rintro e w1 ⟨rfl, hb1⟩
  have B1 := Lib.hid (BT.out.next hb1)
  clear hb1 x0 x1 x2 BT
  cases r
  · have e1 : o = (zS, 1) := HO.out
    have LR := Lib.hid B1.out.res
    have HBW := Lib.hid B1.out.below
    clear HO
    have hp0 : p = 0 := by rw [HP.out, e1]; rfl
    have hq0 : q = 0 := by rw [HQ.out, e1]; rfl
    subst e1
    subst hp0 hq0
    clear HP HQ
    have y0 := LR.out.cell (j := 0) rfl; have y1 := LR.out.cell (j := 1) rfl; have y2 := LR.out.cell (j := 2) rfl
    have z0 := LR.out.free 0; have z1 := LR.out.free 1; have z2 := LR.out.free 2
    go_wp2_with fail
    refine start_ret (o := zS) (R := w.heap.size + 1) ?_ ?_ ?_ (lies_set3O LR.out _ _ _) (.inl rfl) (.inl rfl) (Nat.le_refl _) (Nat.le_refl _) (below_set3O HBW.out (Nat.le_succ _) _ _ _) <;> rfl
  · have e1 : o = (⟨cs, [], false⟩, 0) := HO.out
    have x0 := B1.out.box.cell (j := 0) rfl
    have hp0 : p = n := by rw [HP.out, e1, HN.out]
    have hq0 : q = 0 := by rw [HQ.out, e1]; rfl
    subst e1
    subst hp0 hq0
    clear HO HP HQ
    go_wp2_with fail
    refine (HKA.out _ B1.out.below).mono ?_
    rintro e w2 ⟨A2, c2, rfl, ho2, hb2⟩
    have B2 := Lib.hid (B1.out.next hb2)
    have HRO := Lib.hid (own_rowO ho2)
    have LR := Lib.hid B2.out.res
    have HBW := Lib.hid B2.out.below
    clear ho2 hb2 x0
    have y0 := LR.out.cell (j := 0) rfl; have y1 := LR.out.cell (j := 1) rfl; have y2 := LR.out.cell (j := 2) rfl
    have z0 := LR.out.free 0; have z1 := LR.out.free 1; have z2 := LR.out.free 2
    go_wp2_with fail
    refine start_ret (o := ⟨cs, [], false⟩) (R := w.heap.size + 1) ?_ ?_ ?_ (lies_set3O LR.out _ _ _) (row_set3O HRO.out.1 LR.out _ _ _) (.inl rfl) HRO.out.2.1 (Nat.le_refl _) (below_set3O HBW.out (Nat.le_succ _) _ _ _) <;> rfl
end So
end Go.Proofs.Ytpjgdpdgfchhkaa
