/- The code's Batch. -/
import Derived.Test.YtpjgdpdgfchhkaaStoreCi
namespace Go.Proofs.Ytpjgdpdgfchhkaa
open Go.ChangeShapes Go.WideShapes Go.ChangeAt Go.RowKit
set_option linter.unusedVariables false
set_option maxRecDepth 8000
namespace So
open Gen (TellsB TellsI row_one flat_len flat_get Mine)
/-- Behind k writes. -/
def MidAt (W0 : World) (b : Nat) (A : Option Addr) (n c m g : Nat) (cs fs xs : List Cl) (left : Int) (o : Sr × Int) (k : Nat) (w : World) : Prop :=
  ∃ B d C e, BaAt W0 b A n c B (m + k) d false C (g - k) e cs (fs ++ xs.take k) w ∧ Row W0 C (clc (xs.drop k)) ∧ g - k ≤ e ∧ m + k ≤ 64 ∧ o = runB ⟨cs, fs ++ xs.take k, false⟩ (xs.drop k) (left - k)
/-- Behind the commit. -/
def EndAt (W0 : World) (b : Nat) (o : Sr × Int) (w : World) : Prop :=
  ∃ A p c C e us, p = us.length ∧ BaAt W0 b A p c none 0 0 false C 0 e us [] w ∧ o = (⟨us, [], false⟩, 0)
theorem take_next {xs : List Cl} {k : Nat} {y : Cl} (h : xs[k]? = some y) (fs : List Cl) : fs ++ xs.take (k + 1) = fs ++ xs.take k ++ [y] := by
  rw [List.take_add_one, h, List.append_assoc]; rfl
theorem ck_batch_ret {w wF : World} {R p q : Nat} {o : Sr} {z : Int} {A : Option Addr} {c : Nat} {B : Option Addr} {d : Nat} {act : Act} (ht : act.tmps.getD 6 undef = .pointer (some ⟨R, 0, none⟩)) (he : act.tmps.getD 7 undef = .int .i64 z) (hd : act.defers = [])
    (hL : Lies R #[.slice A p c, .slice B q d, .bool o.down] 24 wF) (h1 : Row wF A (clc o.cells)) (h2 : Row wF B (clc o.fresh)) (h3 : p ≤ c) (h4 : q ≤ d) (hB : Below w.heap.size w wF) :
    bodyPost Try.prog Try.f21 (GivesSr o p q z w) .ret act wF := by
  have c0 := hL.cell (j := 0) rfl
  have c1 := hL.cell (j := 1) rfl
  have c2 := hL.cell (j := 2) rfl
  refine bodyPost_ret (v := .tuple #[srV A p c B q d o.down, .int .i64 z]) ?_ hd ⟨A, c, B, d, rfl, h1, h2, h3, h4, hB⟩
  have ht2 : act.tmps[6]?.getD undef = .pointer (some ⟨R, 0, none⟩) := by simpa using ht
  have he2 : act.tmps[7]?.getD undef = .int .i64 z := by simpa using he
  simp [results, Try.results21, go_sem, ht2, he2, c0, c1, c2]
set_option maxRecDepth 100000 in
set_option maxHeartbeats 4000000 in
theorem ckBatch (cs fs xs : List Cl) (n m g : Nat) (dn : Bool) (left : Int) (hn : n = cs.length) (hm : m = fs.length) (hg : g = xs.length) (o : Sr × Int) (ho : o = batchO ⟨cs, fs, dn⟩ xs left) (p q : Nat) (hp : p = o.1.cells.length) (hq : q = o.1.fresh.length) (A : Option Addr) (c : Nat) (B : Option Addr) (d : Nat) (C : Option Addr) (e : Nat) (w : World) (hA : Row w A (clc cs)) (hB : Row w B (clc fs)) (hC : Row w C (clc xs)) (hc : n ≤ c) (hd : m ≤ d) (hl : n ≤ 100000) (hl2 : m ≤ 100000) (hl3 : g ≤ 100000) (hce : g ≤ e) :
    Calls Try.prog 21 #[srV A n c B m d dn, .slice C g e, .int .i64 left] w (GivesSr o.1 p q o.2 w) := by
  obtain ⟨r, hr⟩ : ∃ r, r = rightS ⟨cs, fs, dn⟩ := ⟨_, rfl⟩
  obtain ⟨my, hmy⟩ : ∃ r, r = xs.all mayB := ⟨_, rfl⟩
  obtain ⟨z, hz⟩ : ∃ z, z = openO r my dn := ⟨_, rfl⟩
  have HO : Hid (o = if my = false then (zS, 1) else if r = false then (zS, 1) else if dn then (zS, 170) else runB ⟨cs, fs, false⟩ xs left) := Lib.hid (by
    rw [ho, hr, hmy]
    unfold batchO
    cases dn <;> rfl)
  have HOZ : Hid (z ≠ 0 → o = (zS, z)) := Lib.hid (fun h0 => by rw [HO.out]; rw [hz] at h0 ⊢; unfold openO at h0 ⊢; cases r <;> cases my <;> cases dn <;> simp at h0 ⊢)
  have HOK : Hid (r = true → Good cs ∧ (∀ x ∈ fs, mayB x = true) ∧ n ≤ 64 ∧ m ≤ 64) := Lib.hid (fun h => by have := (ok_iff _).1 (hr.symm.trans h); have h2 := this.len; simp only at h2; exact ⟨this.good, this.fresh, by omega, by omega⟩)
  have HXK : Hid (my = true → ∀ x ∈ xs, mayB x = true) := Lib.hid (fun h => List.all_eq_true.1 (hmy.symm.trans h))
  have HP := Lib.hid hp
  have HQ := Lib.hid hq
  have HN := Lib.hid hn
  have HM := Lib.hid hm
  have HG := Lib.hid hg
  have HZ := Lib.hid hz
  have HRC := Lib.hid hC
  have BT : Hid (BtAt w A n c B m d dn ((w.alloc (.cells #[.slice A n c, .slice B m d, .bool dn] 24)).alloc (.cells #[.slice none 0 0, .slice none 0 0, .bool false] 24))) := Lib.hid
    ⟨(Lies.new w _ _).al, Gen.lies_new1 w _ _ _, below_al (below_al (Below.refl _ _))⟩
  have HGE : Hid (my = my) := Lib.hid rfl
  have HNO := Lib.hid (fun (w' : World) (hb : Below w.heap.size w w') (hz0 : z ≠ 0) => ckBegin_no cs fs xs n m g dn r my hn hm hg hr hmy z hz hz0 A c B d C e w' (hA.below hb) (hB.below hb) (hC.below hb) hl hl2 hl3)
  have HYES := Lib.hid (fun (w' : World) (hb : Below w.heap.size w w') (hz0 : z = 0) => ckBegin_ok cs fs xs n m g dn r my hn hm hg hr hmy (by rw [← hz, hz0]) A c B d C e w' (hA.below hb) (hB.below hb) (hC.below hb) hl hl2 hl3)
  have HCE := Lib.hid hce
  have HL3 := Lib.hid hl3
  clear hA hB hC hn hm hg ho hp hq hr hmy hl hl2 hc hd hz HGE hce
  go_enter Try.func21, Try.ntmps21
  go_upto_region 1 with fail
  obtain ⟨W, hW⟩ : ∃ W, W = (w.alloc (.cells #[.slice A n c, .slice B m d, .bool dn] 24)).alloc (.cells #[.slice none 0 0, .slice none 0 0, .bool false] 24) := ⟨_, rfl⟩
  rw [← hW] at BT ⊢
  clear hW
  have x0 := BT.out.box.cell (j := 0) rfl; have x1 := BT.out.box.cell (j := 1) rfl; have x2 := BT.out.box.cell (j := 2) rfl
  by_cases hz0 : z = 0
  · have HB1 := Lib.hid (HYES.out _ BT.out.below hz0)
    obtain ⟨hr1, hm1, hd1⟩ := open_ok (HZ.out.symm.trans hz0)
    subst hr1 hm1 hd1
    have HRUN : Hid (o = runB ⟨cs, fs, false⟩ xs left) := Lib.hid (by rw [HO.out, if_neg (by simp), if_neg (by simp), if_neg (by simp)])
    clear HNO HYES HOZ HZ HO
    have hwg : IntKind.i64.wrap ((g : Int) + 1) = (g : Int) + 1 := wrapO (by omega) (by omega)
    go_wp2_with fail
    refine HB1.out.mono ?_
    rintro e1 w2 ⟨b, A2, c2, B2, d2, rfl, hba⟩
    have M0 : Hid (MidAt W b A2 n c2 m g cs fs xs left o 0 w2) := Lib.hid ⟨B2, d2, C, e, by simpa using hba, by simpa using HRC.out.below BT.out.below, by have := HCE.out; omega, by have := (HOK.out (by trivial)).2.2.2; omega, by simpa using HRUN.out⟩
    clear hba x0 x1 x2 HB1 HRUN hz0
    go_wp2_with fail
    clear hwg
    go_loopw [24, 9] (fun s24 s9 wr => ∃ k : Nat, s24 = .int .i64 k ∧ s9 = .int .i64 0 ∧ ((k ≤ g ∧ MidAt W b A2 n c2 m g cs fs xs left o k wr) ∨ (k = g + 1 ∧ EndAt W b o wr))) (fun s24 _ _ => g + 2 - (intOf s24).toNat)
    case atStart => exact ⟨0, rfl, rfl, .inl ⟨Nat.zero_le _, M0.out⟩⟩
    case round =>
      clear M0
      obtain ⟨k, rfl, rfl, hway⟩ := hrel
      rcases hway with ⟨hk, hmid⟩ | ⟨hk, hend⟩
      · obtain ⟨B3, d3, C3, e3, hba, hrow, hge, hmk, hrun⟩ := hmid
        have BA := Lib.hid hba
        have HRW := Lib.hid hrow
        have HGE := Lib.hid hge
        have HMK := Lib.hid hmk
        have HRUN := Lib.hid hrun
        have HK := Lib.hid hk
        have hki : (k : Int) < (g : Int) + 1 := by omega
        have hw := wrapKO (k := k) (by omega)
        clear hba hrow hge hmk hrun hk
        by_cases hkl : (k : Int) = left
        · have g1 : ((k : Int) == left) = true := eq_b hkl
          have e1 : o = (⟨cs, fs ++ xs.take k, true⟩, 170) := by
            rw [HRUN.out]
            cases hd : xs.drop k with
            | nil => rw [runB_nil, if_pos (by omega)]
            | cons y r => rw [runB_cons, if_pos (by omega)]
          have hp0 : p = n := by rw [HP.out, e1, HN.out]
          have hq0 : q = m + k := by
            have h1 := (own_rowO BA.out.ob).2.2
            rw [HQ.out, e1, h1]
          have HFL := Lib.hid (ckFail BA.out)
          subst e1
          subst hp0 hq0
          clear hkl HP HQ HRUN
          go_wp2_with fail
          refine HFL.out.mono ?_
          rintro e w3 ⟨rfl, hba3⟩
          have LR4 := Lib.hid (BT.out.res.below hba3.below)
          have HB4 := Lib.hid (below_next BT.out.below hba3.below)
          have HRA4 := Lib.hid (own_rowO hba3.oa)
          have HRB4 := Lib.hid (own_rowO hba3.ob)
          clear hba3 HFL BA
          have y0 := LR4.out.cell (j := 0) rfl; have y1 := LR4.out.cell (j := 1) rfl; have y2 := LR4.out.cell (j := 2) rfl
          have z0 := LR4.out.free 0; have z1 := LR4.out.free 1; have z2 := LR4.out.free 2
          go_wp2_with fail
          refine ck_batch_ret (o := ⟨cs, fs ++ xs.take k, true⟩) (R := w.heap.size + 1) ?_ ?_ ?_ (lies_set3O LR4.out _ _ _) (row_set3O HRA4.out.1 LR4.out _ _ _) (row_set3O HRB4.out.1 LR4.out _ _ _) HRA4.out.2.1 HRB4.out.2.1 (below_set3O HB4.out (Nat.le_succ _) _ _ _) <;> rfl
        · have g1 : ((k : Int) == left) = false := ne_b hkl
          have HKL := Lib.hid hkl
          clear hkl
          by_cases hkg : k < g
          · obtain ⟨y, hy⟩ : ∃ y, xs[k]? = some y := ⟨_, List.getElem?_eq_getElem (by rw [← HG.out]; exact hkg)⟩
            have HDR := Lib.hid (drop_get hy)
            have HMY := Lib.hid (HXK.out (by trivial) y (List.mem_of_getElem? hy))
            have HTK := Lib.hid (take_next hy fs)
            obtain ⟨j, hj⟩ : ∃ j, g - k = j + 1 := ⟨g - k - 1, by omega⟩
            have HJ := Lib.hid hj
            rw [hj] at BA HGE
            have HOKS : Hid (Ok ⟨cs, fs ++ xs.take k, false⟩) := Lib.hid ⟨(HOK.out (by trivial)).1, fun x hx => (List.mem_append.1 hx).elim ((HOK.out (by trivial)).2.1 x) fun h => HXK.out (by trivial) x (List.mem_of_mem_take h), by have h1 := (own_rowO BA.out.ob).2.2; have h2 := (HOK.out (by trivial)).2.2.1; have h3 := HMK.out; have h4 := HN.out; simp only; omega⟩
            have HLK : Hid (m + k = (fs ++ xs.take k).length) := Lib.hid (own_rowO BA.out.ob).2.2
            have HST : Hid (o = if (writeO ⟨cs, fs ++ xs.take k, false⟩ y.n y.b).2 = 0 then runB (writeO ⟨cs, fs ++ xs.take k, false⟩ y.n y.b).1 (xs.drop (k + 1)) (left - k - 1) else (zS, (writeO ⟨cs, fs ++ xs.take k, false⟩ y.n y.b).2)) := Lib.hid (by rw [HRUN.out, HDR.out, runB_cons, if_neg (by have := HKL.out; omega)])
            have HNX := Lib.hid (ckNext_write BA.out)
            have HKG := Lib.hid hkg
            clear hy hj HRUN hkg
            by_cases h64 : m + k = 64
            · have e1 : o = (zS, 3) := by
                rw [HST.out, write_full HOKS.out HMY.out rfl (by rw [← HLK.out]; exact h64), if_neg (by decide)]
              have HWF := Lib.hid (ckWriteB_full BA.out h64)
              have HEN := Lib.hid (fun w' => ckEnd_err (.pointer (some ⟨b, 0, none⟩)) 3 (by decide) w')
              have LR := Lib.hid (BT.out.res.below BA.out.below)
              have HBW := Lib.hid (below_next BT.out.below BA.out.below)
              clear h64 HST
              go_wp2_with fail
              refine HNX.out.mono ?_
              rintro e w3 ⟨rfl, rfl⟩
              go_wp2_with fail
              refine HWF.out.mono ?_
              rintro e w3 ⟨rfl, rfl⟩
              go_wp2_with fail
              refine (HEN.out _).mono ?_
              rintro e w4 ⟨rfl, hb4⟩
              have LR4 := Lib.hid (LR.out.below hb4)
              have HB4 := Lib.hid (below_next HBW.out hb4)
              clear hb4 HWF HEN HNX
              have hp0 : p = 0 := by rw [HP.out, e1]; rfl
              have hq0 : q = 0 := by rw [HQ.out, e1]; rfl
              subst e1
              subst hp0 hq0
              clear HP HQ
              have y0 := LR4.out.cell (j := 0) rfl; have y1 := LR4.out.cell (j := 1) rfl; have y2 := LR4.out.cell (j := 2) rfl
              have z0 := LR4.out.free 0; have z1 := LR4.out.free 1; have z2 := LR4.out.free 2
              go_wp2_with fail
              refine ck_batch_ret (o := zS) (R := w.heap.size + 1) ?_ ?_ ?_ (lies_set3O LR4.out _ _ _) (.inl rfl) (.inl rfl) (Nat.le_refl _) (Nat.le_refl _) (below_set3O HB4.out (Nat.le_succ _) _ _ _) <;> rfl
            · have HWO := Lib.hid (ckWriteB_ok (x := y) (r := xs.drop (k + 1)) BA.out h64 (by have := HMK.out; omega) HLK.out (by rw [← HDR.out]; exact HRW.out) (by rw [List.length_drop, ← HG.out]; have := HJ.out; omega) HGE.out)
              have HRUN2 : Hid (o = runB ⟨cs, fs ++ xs.take (k + 1), false⟩ (xs.drop (k + 1)) (left - ((k + 1 : Nat) : Int))) := Lib.hid (by
                rw [HST.out, write_eq HOKS.out HMY.out rfl (by rw [← HLK.out]; exact h64), if_pos rfl, HTK.out]
                congr 1
                omega)
              have HM64 : Hid (m + (k + 1) ≤ 64) := Lib.hid (by have := HMK.out; omega)
              clear h64 HST
              go_wp2_with fail
              refine HNX.out.mono ?_
              rintro e w3 ⟨rfl, rfl⟩
              go_wp2_with fail
              refine HWO.out.mono ?_
              rintro e w3 ⟨B5, d5, C5, e5, rfl, hba5, hr5, hg5⟩
              have MID : Hid (MidAt W b A2 n c2 m g cs fs xs left o (k + 1) w3) := Lib.hid (by
                have hgj : g - (k + 1) = j := by have := HJ.out; omega
                refine ⟨B5, d5, C5, e5, ?_, hr5, by rw [hgj]; exact hg5, HM64.out, HRUN2.out⟩
                rw [hgj, HTK.out, show m + (k + 1) = m + k + 1 by omega]
                exact hba5)
              clear hba5 hr5 hg5 HWO HNX BA
              go_wp2_with fail
              go_roundw
              case rel => exact ⟨k + 1, rfl, rfl, .inl ⟨HKG.out, MID.out⟩⟩
              case measure => simp [intOf]; have := HKG.out; omega
          · have hkg2 : k = g := by have := HK.out; omega
            subst hkg2
            have hdn : xs.drop k = [] := List.drop_of_length_le (by rw [← HG.out]; exact Nat.le_refl _)
            have htk : xs.take k = xs := List.take_of_length_le (by rw [← HG.out]; exact Nat.le_refl _)
            have HCO : Hid (o = commitO ⟨cs, fs ++ xs.take k, false⟩) := Lib.hid (by rw [HRUN.out, hdn, runB_nil, if_neg (by have := HKL.out; omega)])
            have HMAY : Hid (∀ x ∈ fs ++ xs.take k, mayB x = true) := Lib.hid (fun x hx => (List.mem_append.1 hx).elim ((HOK.out (by trivial)).2.1 x) fun h => HXK.out (by trivial) x (List.mem_of_mem_take h))
            rw [Nat.sub_self] at BA
            have HLK : Hid (m + k = (fs ++ xs.take k).length) := Lib.hid (own_rowO BA.out.ob).2.2
            have HOKS : Hid (Ok ⟨cs, fs ++ xs.take k, false⟩) := Lib.hid ⟨(HOK.out (by trivial)).1, HMAY.out, by have h1 := HLK.out; have h2 := (HOK.out (by trivial)).2.2.1; have h3 := HMK.out; have h4 := HN.out; simp only; omega⟩
            obtain ⟨us, hus⟩ : ∃ us, us = count cs (fs ++ xs.take k) := ⟨_, rfl⟩
            obtain ⟨t, ht⟩ : ∃ t, t = us.length := ⟨_, rfl⟩
            have HCE2 : Hid (o = if 64 < t then (zS, 3) else (⟨us, [], false⟩, 0)) := Lib.hid (by rw [HCO.out, ht, hus]; unfold commitO; rw [(ok_iff _).2 HOKS.out, if_neg (by simp), if_neg (by simp)])
            have HNX := Lib.hid (ckNext_commit BA.out)
            have HT := Lib.hid ht
            have HCM := Lib.hid (fun z hz => ckCommitB BA.out (HOK.out (by trivial)).1 HMAY.out HN.out HLK.out (by have h2 := (HOK.out (by trivial)).2.2.1; have h3 := HMK.out; omega) us hus t ht z hz)
            clear hkg hdn htk HCO HRUN hus ht
            by_cases h64 : 64 < t
            · have e1 : o = (zS, 3) := by rw [HCE2.out, if_pos h64]
              have HC1 := Lib.hid (HCM.out 3 (if_pos h64).symm)
              have HEN := Lib.hid (fun w' => ckEnd_err (.pointer (some ⟨b, 0, none⟩)) 3 (by decide) w')
              clear h64 HCM HCE2
              go_wp2_with fail
              refine HNX.out.mono ?_
              rintro e w3 ⟨rfl, rfl⟩
              go_wp2_with fail
              refine HC1.out.mono ?_
              rintro e w3 ⟨A5, c5, rfl, hba5⟩
              have LR := Lib.hid (BT.out.res.below hba5.below)
              have HBW := Lib.hid (below_next BT.out.below hba5.below)
              clear hba5 HC1 HNX
              go_wp2_with fail
              refine (HEN.out _).mono ?_
              rintro e w4 ⟨rfl, hb4⟩
              have LR4 := Lib.hid (LR.out.below hb4)
              have HB4 := Lib.hid (below_next HBW.out hb4)
              clear hb4 HEN
              have hp0 : p = 0 := by rw [HP.out, e1]; rfl
              have hq0 : q = 0 := by rw [HQ.out, e1]; rfl
              subst e1
              subst hp0 hq0
              clear HP HQ
              have y0 := LR4.out.cell (j := 0) rfl; have y1 := LR4.out.cell (j := 1) rfl; have y2 := LR4.out.cell (j := 2) rfl
              have z0 := LR4.out.free 0; have z1 := LR4.out.free 1; have z2 := LR4.out.free 2
              go_wp2_with fail
              refine ck_batch_ret (o := zS) (R := w.heap.size + 1) ?_ ?_ ?_ (lies_set3O LR4.out _ _ _) (.inl rfl) (.inl rfl) (Nat.le_refl _) (Nat.le_refl _) (below_set3O HB4.out (Nat.le_succ _) _ _ _) <;> rfl
            · have e1 : o = (⟨us, [], false⟩, 0) := by rw [HCE2.out, if_neg h64]
              have HC1 := Lib.hid (HCM.out 0 (if_neg h64).symm)
              have HE1 := Lib.hid e1
              clear h64 HCM HCE2 e1
              go_wp2_with fail
              refine HNX.out.mono ?_
              rintro e w3 ⟨rfl, rfl⟩
              go_wp2_with fail
              refine HC1.out.mono ?_
              rintro e w3 ⟨A5, c5, rfl, hba5⟩
              have EN : Hid (EndAt W b o w3) := Lib.hid ⟨A5, t, c5, _, _, us, HT.out, hba5, HE1.out⟩
              clear hba5 HC1 HNX
              go_wp2_with fail
              go_roundw
              case rel => exact ⟨k + 1, rfl, rfl, .inr ⟨rfl, EN.out⟩⟩
              case measure => simp [intOf]
      · subst hk
        obtain ⟨A5, t, c5, C5, e5, us, ht, hba, he⟩ := hend
        have BA := Lib.hid hba
        have HT := Lib.hid ht
        have hki : ¬ ((g + 1 : Nat) : Int) < (g : Int) + 1 := by omega
        have hp0 : p = t := by rw [HP.out, he, HT.out]
        have hq0 : q = 0 := by rw [HQ.out, he]; rfl
        subst he
        subst hp0 hq0
        have HEN := Lib.hid (ckEnd_ok BA.out)
        clear hba ht HP HQ
        go_wp2_with fail
        refine HEN.out.mono ?_
        rintro e w4 ⟨rfl, hb4⟩
        have BA4 := Lib.hid (BA.out.next hb4)
        have LR4 := Lib.hid (BT.out.res.below BA4.out.below)
        have HB4 := Lib.hid (below_next BT.out.below BA4.out.below)
        have HRA4 := Lib.hid (own_rowO BA4.out.oa)
        clear hb4 HEN BA
        have y0 := LR4.out.cell (j := 0) rfl; have y1 := LR4.out.cell (j := 1) rfl; have y2 := LR4.out.cell (j := 2) rfl
        have z0 := LR4.out.free 0; have z1 := LR4.out.free 1; have z2 := LR4.out.free 2
        go_wp2_with fail
        refine ck_batch_ret (o := ⟨us, [], false⟩) (R := w.heap.size + 1) ?_ ?_ ?_ (lies_set3O LR4.out _ _ _) (row_set3O HRA4.out.1 LR4.out _ _ _) (.inl rfl) HRA4.out.2.1 (Nat.le_refl _) (below_set3O HB4.out (Nat.le_succ _) _ _ _) <;> rfl
  · have e1 : o = (zS, z) := HOZ.out hz0
    have HB1 := Lib.hid (HNO.out _ BT.out.below hz0)
    have g1 : (z != 0) = true := nb hz0
    clear HNO HYES HOZ HO HZ hz0
    go_wp2_with fail
    refine HB1.out.mono ?_
    rintro e w2 ⟨rfl, hb2⟩
    have LR := Lib.hid (BT.out.res.below hb2)
    have HBW := Lib.hid (below_next BT.out.below hb2)
    clear hb2 x0 x1 x2 HB1
    have hp0 : p = 0 := by rw [HP.out, e1]; rfl
    have hq0 : q = 0 := by rw [HQ.out, e1]; rfl
    subst e1
    subst hp0 hq0
    clear HP HQ
    have y0 := LR.out.cell (j := 0) rfl; have y1 := LR.out.cell (j := 1) rfl; have y2 := LR.out.cell (j := 2) rfl
    have z0 := LR.out.free 0; have z1 := LR.out.free 1; have z2 := LR.out.free 2
    go_wp2_with fail
    refine ck_batch_ret (o := zS) (R := w.heap.size + 1) ?_ ?_ ?_ (lies_set3O LR.out _ _ _) (.inl rfl) (.inl rfl) (Nat.le_refl _) (Nat.le_refl _) (below_set3O HBW.out (Nat.le_succ _) _ _ _) <;> rfl
end So
end Go.Proofs.Ytpjgdpdgfchhkaa
