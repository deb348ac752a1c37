/- The walk of the law RingKeeps. -/
import Derived.Test.YtgpcbiballdioaaDoorLawsRingE
import Derived.Test.YtgpcbiballdioaaDoorRingWo
import Derived.Test.YtgpcbiballdioaaDoorRingMovC
namespace Go.Proofs.YtgpcbiballdioaaDoor
open Go.ChangeShapes Go.WideShapes Go.ChangeAt Go.RowKit
set_option linter.unusedVariables false
set_option maxRecDepth 8000
namespace Rg
theorem movesFrom_mem : ∀ (g : Nat) (a b : List Int) (v : Mv), v ∈ movesFrom g a b → ∃ i : Nat, a[i]? = some v.src ∧ b[i]? = some v.to ∧ v.src ≠ v.to
  | _, [], m, v, h => by cases m <;> simp [movesFrom] at h
  | _, _ :: _, [], v, h => by simp [movesFrom] at h
  | g, x :: l, y :: m, v, h => by
    have ih := movesFrom_mem (g + 1) l m v
    simp only [movesFrom] at h
    split at h
    · obtain ⟨i, h1, h2, h3⟩ := ih h
      exact ⟨i + 1, h1, h2, h3⟩
    · rename_i hne
      rcases List.mem_cons.1 h with rfl | h
      · exact ⟨0, rfl, rfl, hne⟩
      · obtain ⟨i, h1, h2, h3⟩ := ih h
        exact ⟨i + 1, h1, h2, h3⟩
theorem owners_some {l : List Int} {n i : Nat} {x : Int} (h : (owners l n)[i]? = some x) : i < n ∧ x = owner l i := by
  have hi : i < n := by have := (List.getElem?_eq_some_iff.1 h).1; rwa [owners_len] at this
  rw [owners_at hi] at h
  exact ⟨hi, by injection h with h; exact h.symm⟩
/-- k brought into the list. -/
theorem into {k : Int} {n : Nat} (h : 0 < n) : ∃ K : Nat, K < n ∧ (k.tmod n + n).tmod n = (K : Int) ∧ -(n : Int) < k.tmod n ∧ k.tmod n < n := by
  have h1 : k.tmod n < n := Int.tmod_lt_of_pos k (by omega)
  have h2 : -(n : Int) < k.tmod n := by
    have := Int.lt_tmod_of_pos k (show (0 : Int) < n by omega)
    omega
  have h3 : 0 ≤ k.tmod n + n := by omega
  refine ⟨((k.tmod n + n).tmod n).toNat, ?_, ?_, h2, h1⟩
  · have h4 := Int.tmod_lt_of_pos (k.tmod n + n) (show (0 : Int) < n by omega)
    omega
  · have h5 := Int.tmod_nonneg (n : Int) h3
    omega
set_option maxRecDepth 100000 in
set_option maxHeartbeats 2000000 in
theorem walkRingKeeps_no (l : List Int) (k groups : Int) (A : Option Addr) (c : Nat) (w : World) (hA : Row w A (iv l)) (hl : l.length ≤ 9223372036854775807) (hno : right l = false ∨ l.length < 2 ∨ groups < 1 ∨ 32 < groups) :
    Calls Tryd.prog 4 #[.slice A l.length c, .int .i64 k, .int .i64 groups] w (TellsR true w) := by
  have HR := Lib.hid (ckRight l A c w hA hl)
  have HA := Lib.hid (fun w => lawAliveR w)
  obtain ⟨r, hr⟩ : ∃ r, r = right l := ⟨_, rfl⟩
  rw [← hr] at HR
  have hway : r = false ∨ (r = true ∧ (l.length : Int) < 2) ∨ (r = true ∧ ¬ (l.length : Int) < 2 ∧ groups < 1) ∨ (r = true ∧ ¬ (l.length : Int) < 2 ∧ ¬ groups < 1 ∧ 32 < groups) := by
    cases r
    · exact .inl rfl
    · rw [← hr] at hno
      by_cases g1 : (l.length : Int) < 2
      · exact .inr (.inl ⟨rfl, g1⟩)
      · by_cases g2 : groups < 1
        · exact .inr (.inr (.inl ⟨rfl, g1, g2⟩))
        · refine .inr (.inr (.inr ⟨rfl, g1, g2, ?_⟩))
          rcases hno with h | h | h | h
          · cases h
          · omega
          · exact absurd h g2
          · exact h
  clear hr hno hA
  rcases hway with rfl | ⟨rfl, a1⟩ | ⟨rfl, a1, a2⟩ | ⟨rfl, a1, a2, a3⟩
  all_goals (
    go_enter Tryd.func4, Tryd.ntmps4
    go_wp2_with fail
    refine HR.out.mono ?_
    rintro e w1 ⟨rfl, rfl⟩
    go_wp2_with fail
    refine (HA.out _).mono ?_
    rintro e w2 ⟨rfl, hb2⟩
    have B2 := Lib.hid hb2
    clear hb2
    go_wp2_with fail
    go_ret
    exact ⟨rfl, B2.out⟩)
set_option maxRecDepth 100000 in
set_option maxHeartbeats 4000000 in
theorem walkRingKeeps_ok (l : List Int) (k : Int) (n : Nat) (A : Option Addr) (c : Nat) (w : World) (hA : Row w A (iv l)) (hlc : l.length ≤ c) (hcm : c ≤ maxLen) (hr : right l = true) (hl2 : 2 ≤ l.length) (h1 : 1 ≤ n) (h2 : n ≤ 32) :
    Calls Tryd.prog 4 #[.slice A l.length c, .int .i64 k, .int .i64 n] w (TellsR true w) := by
  have hr2 := hr
  unfold right at hr2
  rw [Bool.and_eq_true, decide_eq_true_eq] at hr2
  have hl8 := hr2.1.2
  obtain ⟨K, hK, hKe, hq1, hq2⟩ := into (k := k) (n := l.length) (by omega)
  obtain ⟨q, hq⟩ : ∃ q, k.tmod l.length = q := ⟨_, rfl⟩
  rw [hq] at hKe hq1 hq2
  have hwq : IntKind.i64.wrap (q + (l.length : Int)) = q + (l.length : Int) := wrap64_in (by omega) (by omega)
  obtain ⟨wk, hwk⟩ : ∃ x, l[K]? = some x := ⟨_, List.getElem?_eq_getElem hK⟩
  obtain ⟨fl, hfl⟩ : ∃ fl, fl = l.eraseIdx K := ⟨_, rfl⟩
  have hrf : right fl = true := by rw [hfl]; exact right_less hr hl2 K
  have HKP := Lib.hid (fun g => show (owner l g = wk ↔ owner l g ≠ owner fl g) ∧ (owner fl g ≠ owner l g → owner l g = wk) by rw [hfl]; exact keeps hr hl2 hwk g)
  have HR := Lib.hid (ckRight l A c w hA (by omega))
  have HA := Lib.hid (fun w => lawAliveR w)
  have RA := Lib.hid hA
  have HC := Lib.hid (fun w' (hb : Below w.heap.size w w') => ckAssign_ok l n A c w' (hA.below hb) (by omega) hr h1 h2)
  obtain ⟨b, off, rfl⟩ : ∃ b off, A = some ⟨b, off, none⟩ := by
    obtain ⟨b, off, h, _⟩ := row_int hA hwk
    exact ⟨b, off, h⟩
  have HWO := Lib.hid (fun w' (hb : Below w.heap.size w w') => lawWithout l K b off c w' (hA.below hb) hl8 hK hlc hcm)
  rw [← hfl] at HWO
  have hfl8 : fl.length ≤ 9223372036854775807 := by
    have := hrf
    unfold right at this
    rw [Bool.and_eq_true, decide_eq_true_eq] at this
    omega
  have HF := Lib.hid (fun A d w' (h : Row w' A (iv fl)) => ckAssign_ok fl n A d w' h hfl8 hrf h1 h2)
  obtain ⟨us, hus⟩ : ∃ us, us = owners l n := ⟨_, rfl⟩
  obtain ⟨vs, hvs⟩ : ∃ vs, vs = owners fl n := ⟨_, rfl⟩
  have hul : us.length = n := by rw [hus, owners_len]
  have hvl : vs.length = n := by rw [hvs, owners_len]
  have HU := Lib.hid (fun g (hg : g < n) => show us[g]? = some (owner l g) by rw [hus]; exact owners_at hg)
  have HV := Lib.hid (fun g (hg : g < n) => show vs[g]? = some (owner fl g) by rw [hvs]; exact owners_at hg)
  obtain ⟨ms, hms⟩ : ∃ ms, ms = moves vs us := ⟨_, rfl⟩
  have hml : ms.length ≤ 32 := by rw [hms]; have := moves_len vs us; omega
  have HMS := Lib.hid (show ∀ v ∈ ms, v.to = wk from fun v hv => by
    rw [hms] at hv
    obtain ⟨i, i1, i2, i3⟩ := movesFrom_mem 0 vs us v hv
    rw [hvs] at i1; rw [hus] at i2
    obtain ⟨_, e1⟩ := owners_some i1
    obtain ⟨_, e2⟩ := owners_some i2
    rw [e2]
    exact (HKP.out i).2 (by rw [← e1, ← e2]; exact i3))
  have HM := Lib.hid (fun A B c d w' (ha : Row w' A (iv vs)) (hb : Row w' B (iv us)) => ckMoves vs us A B c d w' ha hb (by omega) (by omega) (.inl (by omega)))
  rw [← hus] at HC
  rw [← hvs] at HF
  rw [← hms] at HM
  have HWK := Lib.hid hwk
  rw [hvl] at HM
  rw [hul] at HM
  have HUL := Lib.hid hul; have HVL := Lib.hid hvl
  have e0 := nb0 (rfl : (0 : Int) = 0)
  have en := nb0 (rfl : (n : Int) = (n : Int))
  have k1 : (0 : Int) ≤ (K : Int) := by omega
  have k2 : (K : Int) < (l.length : Int) := by omega
  have k3 : ¬ (l.length : Int) < 2 := by omega
  have k4 := ne_b (show (l.length : Int) ≠ 0 by omega)
  have k5 : ¬ (n : Int) < 1 := by omega
  have k6 : ¬ (32 : Int) < (n : Int) := by omega
  clear hus hvs hms hfl hr2 hA hwk hul hvl
  go_enter Tryd.func4, Tryd.ntmps4
  go_wp2_with fail
  refine HR.out.mono ?_
  rw [hr]
  rintro e w1 ⟨rfl, rfl⟩
  go_wp2_with fail
  refine (HA.out _).mono ?_
  rintro e w2 ⟨rfl, hb2⟩
  have B2 := Lib.hid hb2
  clear hb2
  obtain ⟨b', off', hbo, c0⟩ := row_int (RA.out.below B2.out) HWK.out
  injection hbo with hbo
  injection hbo with hb' ho'
  subst hb' ho'
  go_wp2_with fail
  refine (HC.out _ B2.out).mono ?_
  rintro e w3 ⟨A3, c3, rfl, _, _, r3, hb3⟩
  have B3 := Lib.hid (below_next B2.out hb3); have R3 := Lib.hid r3
  clear hb3 r3
  simp only [HUL.out]
  go_wp2_with fail
  refine (HWO.out _ B3.out).mono ?_
  rintro e w4 ⟨D, dd, rfl, r4, hb4⟩
  have B4 := Lib.hid (below_next B3.out hb4); have R4 := Lib.hid r4; have R34 := Lib.hid (R3.out.below hb4)
  clear hb4 r4
  go_wp2_with fail
  refine (HF.out _ _ _ R4.out).mono ?_
  rintro e w5 ⟨A5, c5, rfl, _, _, r5, hb5⟩
  have B5 := Lib.hid (below_next B4.out hb5); have R5 := Lib.hid r5; have R35 := Lib.hid (R34.out.below hb5)
  clear hb5 r5
  simp only [HVL.out]
  go_wp2_with fail
  refine (HM.out _ _ _ _ _ R5.out R35.out).mono ?_
  rintro e w6 ⟨A6, c6, rfl, _, _, r6, hb6⟩
  have B6 := Lib.hid (below_next B5.out hb6); have R6 := Lib.hid r6; have R56 := Lib.hid (R5.out.below hb6); have R36 := Lib.hid (R35.out.below hb6)
  clear hb6 r6
  go_wp2_with fail
  go_loopw [13, 86] (fun _ s86 wr => ∃ j : Nat, s86 = .int .i64 j ∧ j ≤ ms.length ∧ Below w6.heap.size w6 wr) (fun _ s86 _ => ms.length - (intOf s86).toNat)
  case atStart => exact ⟨0, rfl, Nat.zero_le _, Below.refl _ _⟩
  case round =>
    obtain ⟨j, rfl, hj, hb⟩ := hrel
    have HB := Lib.hid hb
    clear hb
    by_cases hlt : j < ms.length
    · obtain ⟨u, hx⟩ : ∃ u, ms[j]? = some u := ⟨_, List.getElem?_eq_getElem hlt⟩
      have hto := HMS.out u (List.mem_of_getElem? hx)
      obtain ⟨b9, off9, hA6, d0, d1, d2⟩ := row_mv (R6.out.below HB.out) hx
      subst hA6
      obtain ⟨ug, us1, ut⟩ := u
      simp only at hto d0 d1 d2
      subst hto
      have e9 := nb0 (rfl : ut = ut)
      have HBu := Lib.hid (below_next HB.out (al_below wr (.cells (mC ⟨ug, us1, ut⟩) 34)))
      clear hx
      go_wp2_with fail
      go_roundw
      case rel => exact ⟨j + 1, by go_num, by omega, HBu.out⟩
      case measure => simp [intOf]; omega
    · have hge : ms.length ≤ j := by omega
      obtain ⟨w7, hw7⟩ : ∃ w7, w7 = wr := ⟨_, rfl⟩
      rw [← hw7] at HB ⊢
      clear hw7
      have B7 := Lib.hid (below_next B6.out HB.out); have R57 := Lib.hid (R56.out.below HB.out); have R37 := Lib.hid (R36.out.below HB.out)
      go_wp2_with fail
      go_loopw [14, 97] (fun _ s97 wr => ∃ g : Nat, s97 = .int .i64 g ∧ g ≤ n ∧ Below w7.heap.size w7 wr) (fun _ s97 _ => n - (intOf s97).toNat)
      case atStart => exact ⟨0, rfl, Nat.zero_le _, Below.refl _ _⟩
      case round =>
        obtain ⟨g, rfl, hg, hb⟩ := hrel
        have HB7 := Lib.hid hb
        clear hb
        by_cases hgn : g < n
        · obtain ⟨x, hx⟩ : ∃ x, x = owner l g := ⟨_, rfl⟩
          obtain ⟨y, hy⟩ : ∃ y, y = owner fl g := ⟨_, rfl⟩
          have hxu := HU.out g hgn
          have hyv := HV.out g hgn
          have hkp := (HKP.out g).1
          rw [← hx] at hxu hkp
          rw [← hy] at hyv hkp
          obtain ⟨b8, off8, hA3, d3⟩ := row_int (R37.out.below HB7.out) hxu
          subst hA3
          obtain ⟨b9, off9, hA5, d5⟩ := row_int (R57.out.below HB7.out) hyv
          subst hA5
          have g1 : (g : Int) < (n : Int) := by omega
          have g2 : (0 : Int) ≤ (g : Int) := by omega
          clear hx hy hxu hyv
          by_cases hxw : x = wk
          · have e7 := eq_b hxw
            have e8 := nb (hkp.1 hxw)
            clear hkp hxw
            go_wp2_with fail
            go_quiet (fail)
            go_wp2_with fail
            go_roundw
            case rel => exact ⟨g + 1, by go_num, by omega, below_drewN HB7.out⟩
            case measure => simp [intOf]; omega
          · have e7 := ne_b hxw
            have e8 := nb0 (show x = y from Decidable.byContradiction fun h => hxw (hkp.2 h))
            clear hkp hxw
            go_wp2_with fail
            go_quiet (fail)
            go_wp2_with fail
            go_roundw
            case rel => exact ⟨g + 1, by go_num, by omega, below_drewN HB7.out⟩
            case measure => simp [intOf]; omega
        · have hge : n ≤ g := by omega
          go_wp2_with fail
          go_ret
          exact ⟨rfl, below_next B7.out HB7.out⟩
theorem walkRingKeeps (l : List Int) (k groups : Int) (A : Option Addr) (c : Nat) (w : World) (hA : Row w A (iv l)) (hlc : l.length ≤ c) (hcm : c ≤ maxLen) :
    Calls Tryd.prog 4 #[.slice A l.length c, .int .i64 k, .int .i64 groups] w (TellsR true w) := by
  have hl9 : l.length ≤ 9223372036854775807 := by unfold maxLen at hcm; omega
  by_cases hno : right l = false ∨ l.length < 2 ∨ groups < 1 ∨ 32 < groups
  · exact walkRingKeeps_no l k groups A c w hA hl9 hno
  · have h1 : right l = true := by
      cases h : right l
      · exact absurd (.inl h) hno
      · rfl
    obtain ⟨n, rfl⟩ : ∃ n : Nat, groups = n := ⟨groups.toNat, by omega⟩
    exact walkRingKeeps_ok l k n A c w hA hlc hcm h1 (by omega) (by omega) (by omega)
theorem lawRingKeeps : Lift.Owes 4 [22, 3, 3] := by
  intro H enc W base args ds ps hval hA _ _
  obtain ⟨v0, v1, v2, d0, d1, d2, p0, p1, p2, rfl, rfl, rfl, h0, h1, h2⟩ := trodAll_three hA
  obtain ⟨A, c, zs, rfl, hl, hm, hr, _, hd⟩ := openInts Tryd.underlying22 Tryd.underlying3 (by kernel_rfl) (hval 0 _ v0 rfl rfl) h0
  obtain ⟨k, rfl, rfl, rfl, w1⟩ := open_int Tryd.underlying3 (hval 1 _ v1 rfl rfl) h1
  obtain ⟨n, rfl, rfl, rfl, w2⟩ := open_int Tryd.underlying3 (hval 2 _ v2 rfl rfl) h2
  exact walkRingKeeps zs k n A c W hr hl hm
end Rg
theorem lawRingKeeps : Lift.Owes 4 [22, 3, 3] := Rg.lawRingKeeps
end Go.Proofs.YtgpcbiballdioaaDoor
