/- The heap sort of 32-bit numbers. -/
import Derived.Test.YtgpcbiballdioaaDoorSrtLess
namespace Go.Proofs.YtgpcbiballdioaaDoor
open Go.RowKit
set_option linter.unusedVariables false
set_option maxRecDepth 8000
namespace Srt
/-- From lo on no child is above its parent. -/
def Hp (F lo hi : Nat) (d : Fn) : Prop := ∀ i c, lo ≤ i → (c = 2 * i + 1 ∨ c = 2 * i + 2) → c < hi → d (F + c) ≤ d (F + i)
/-- The same, but for what is at root. -/
structure Dn (F lo hi root : Nat) (d : Fn) : Prop where
  rest : ∀ i c, lo ≤ i → (c = 2 * i + 1 ∨ c = 2 * i + 2) → c < hi → i ≠ root → d (F + c) ≤ d (F + i)
  over : ∀ p c, lo ≤ p → (root = 2 * p + 1 ∨ root = 2 * p + 2) → (c = 2 * root + 1 ∨ c = 2 * root + 2) → c < hi → d (F + c) ≤ d (F + p)
theorem Dn.start {F lo hi : Nat} {d : Fn} (h : Hp F (lo + 1) hi d) : Dn F lo hi lo d := ⟨fun i c h1 h2 h3 h4 => h i c (by omega) h2 h3, fun p c h1 h2 _ _ => by omega⟩
/-- q is the greater child of r. -/
def Top (F hi r q : Nat) (d : Fn) : Prop := (q = 2 * r + 1 ∨ q = 2 * r + 2) ∧ ∀ c, (c = 2 * r + 1 ∨ c = 2 * r + 2) → c < hi → d (F + c) ≤ d (F + q)
theorem Dn.next {F lo hi r q : Nat} {d : Fn} (h : Dn F lo hi r d) (hl : lo ≤ r) (hq : q < hi) (ht : Top F hi r q d) (hlt : d (F + r) < d (F + q)) : Dn F lo hi q (sw d (F + r) (F + q)) := by
  obtain ⟨t1, t2⟩ := ht
  have hrq : r ≠ q := by omega
  refine ⟨fun i c h1 h2 h3 h4 => ?_, fun p c h1 h2 h3 h4 => ?_⟩
  · by_cases e1 : i = r
    · subst e1
      rw [sw_i]
      by_cases e2 : c = q
      · subst e2; rw [sw_j]; omega
      · rw [sw_o _ (by omega) (by omega)]; exact t2 c h2 h3
    · rw [sw_o (k := F + i) _ (by omega) (by omega)]
      by_cases e2 : c = r
      · subst e2; rw [sw_i]; exact h.over i q h1 h2 t1 hq
      · rw [sw_o _ (by omega) (by omega)]; exact h.rest i c h1 h2 h3 e1
  · have e1 : p = r := by omega
    subst e1
    rw [sw_i, sw_o _ (by omega) (by omega)]
    exact h.rest q c (by omega) h3 h4 (by omega)
theorem Dn.done {F lo hi r : Nat} {d : Fn} (h : Dn F lo hi r d) (hd : hi ≤ 2 * r + 1 ∨ ∃ q, q < hi ∧ Top F hi r q d ∧ ¬ d (F + r) < d (F + q)) : Hp F lo hi d := by
  intro i c h1 h2 h3
  by_cases e1 : i = r
  · subst e1
    rcases hd with hd | ⟨q, q1, q2, q3⟩
    · omega
    · have := q2.2 c h2 h3; omega
  · exact h.rest i c h1 h2 h3 e1
theorem Hp.top {F hi : Nat} {d : Fn} (h : Hp F 0 hi d) : ∀ c, c < hi → d (F + c) ≤ d (F + 0) := by
  intro c
  induction c using Nat.strongRecOn with
  | _ c ih =>
    intro hc
    by_cases h0 : c = 0
    · subst h0; exact Int.le_refl _
    · have h1 := h ((c - 1) / 2) c (Nat.zero_le _) (by omega) hc
      have h2 := ih ((c - 1) / 2) (by omega) (by omega)
      omega
def GivesH (b off n F lo hi : Nat) (d : Fn) (W0 : World) (e : Ending) (w' : World) : Prop :=
  e = .returned (.tuple #[]) ∧ ∃ d', Sw (F + lo) (F + hi) d d' ∧ Hp F lo hi d' ∧ Rw b off n W0 d' w'
set_option maxRecDepth 100000 in
set_option maxHeartbeats 4000000 in
theorem uSift (b off n cap lo hi F : Nat) (d : Fn) (w : World) (h : At b off n d w) (hlo : lo ≤ hi) (hb : F + hi ≤ n) (hn : n ≤ 1000) (hp : Hp F (lo + 1) hi d) :
    Calls Tryd.prog 54 #[.slice (some ⟨b, off, none⟩) n cap, .int .i64 lo, .int .i64 hi, .int .i64 F] w (GivesH b off n F lo hi d w) := by
  have R0 := Lib.hid (Rw.start h)
  have D0 := Lib.hid (Dn.start hp)
  clear h hp
  go_enter Tryd.func54, Tryd.ntmps54
  go_wp2_with fail
  go_loopw [8, 9] (fun s8 s9 wr => ∃ (r : Nat) (e : Fn), s8 = .int .i64 r ∧ lo ≤ r ∧ r ≤ hi ∧ Sw (F + lo) (F + hi) d e ∧ Dn F lo hi r e ∧ Rw b off n w e wr) (fun s8 _ _ => hi - (intOf s8).toNat)
  case atStart => exact ⟨lo, d, rfl, Nat.le_refl _, hlo, .refl _, D0.out, R0.out⟩
  case round =>
    obtain ⟨r, e, rfl, hlr, hrh, hsw, hdn, hrw⟩ := hrel
    have HSW := Lib.hid hsw; have HDN := Lib.hid hdn; have HRW := Lib.hid hrw
    clear hsw hdn hrw
    obtain ⟨m, hm0⟩ : ∃ m, m = 2 * r + 1 := ⟨_, rfl⟩
    have em : 2 * (r : Int) + 1 = (m : Int) := by omega
    have hm1 : m ≤ 2001 ∧ r < m := by omega
    have HM0 := Lib.hid hm0
    have HQ0 := Lib.hid (show hi ≤ m → hi ≤ 2 * r + 1 by omega)
    clear hm0
    by_cases h0 : hi ≤ m
    · have b1 : (hi : Int) ≤ (m : Int) := by omega
      have HDO := Lib.hid (HDN.out.done (.inl (HQ0.out h0)))
      go_wp2_with fail
      go_end0
      exact ⟨rfl, e, HSW.out, HDO.out, HRW.out⟩
    · have b1 : ¬ (hi : Int) ≤ (m : Int) := by omega
      have i1 : (0 : Int) ≤ (F : Int) + m := by omega
      have i2 : (F : Int) + m < (n : Int) := by omega
      have i3 : (0 : Int) ≤ (F : Int) + r := by omega
      have i4 : (F : Int) + r < (n : Int) := by omega
      by_cases h1 : m + 1 < hi
      · obtain ⟨p, hp0⟩ : ∃ p, p = m + 1 := ⟨_, rfl⟩
        have ep : (m : Int) + 1 = (p : Int) := by omega
        have b2 : (p : Int) < (hi : Int) := by omega
        have i5 : (0 : Int) ≤ (F : Int) + m + 1 := by omega
        have i6 : (F : Int) + m + 1 < (n : Int) := by omega
        have i7 : (0 : Int) ≤ (F : Int) + p := by omega
        have i8 : (F : Int) + p < (n : Int) := by omega
        obtain ⟨x, hx⟩ : ∃ x, e (F + m) = x := ⟨_, rfl⟩
        obtain ⟨y, hy⟩ : ∃ y, e (F + m + 1) = y := ⟨_, rfl⟩
        have c1 := HRW.out.at_.cell (F + m) (by omega)
        have c2 := HRW.out.at_.cell (F + m + 1) (by omega)
        rw [hx] at c1; rw [hy] at c2
        have HX := Lib.hid hx; have HY := Lib.hid hy
        have hm0 := HM0.out
        have hpm : p = 2 * r + 2 := by omega
        clear hx hy
        by_cases hxy : x < y
        · have HL := Lib.hid (fun w => uLessT hxy w)
          have HT := Lib.hid (show Top F hi r p e from ⟨.inr hpm, fun c k1 k2 => by
            rcases k1 with k1 | k1
            · rw [k1, ← hm0, HX.out, hp0, show F + (m + 1) = F + m + 1 by omega, HY.out]; omega
            · rw [k1, ← hpm]; exact Int.le_refl _⟩)
          clear hm0 hp0 hpm
          have hr2 : r < m := by omega
          have hr1 : r < p := by omega
          go_wp2_with fail
          go_quiet (first | (go_at_call 45; refine Calls.quiet_of_same (HL.out _)))
          go_wp2_with fail
          obtain ⟨z, hz⟩ : ∃ z, e (F + r) = z := ⟨_, rfl⟩
          obtain ⟨u, hu⟩ : ∃ u, e (F + p) = u := ⟨_, rfl⟩
          obtain ⟨w2, hw2⟩ : ∃ w2, w2 = wr.drewN nq := ⟨_, rfl⟩
          have HR2 := Lib.hid (show Rw b off n w e w2 from hw2 ▸ HRW.out.drewN nq)
          rw [← hw2]
          clear hw2 c1 c2
          have d1 := HR2.out.at_.cell (F + r) (by omega)
          have d2 := HR2.out.at_.cell (F + p) (by omega)
          rw [hz] at d1; rw [hu] at d2
          have HZ := Lib.hid hz; have HU := Lib.hid hu
          have HG := Lib.hid (HT.out)
          clear hz hu
          by_cases hzu : z < u
          · have HL2 := Lib.hid (fun w => uLessT hzu w)
            have HNX := Lib.hid (HDN.out.next (q := p) (by omega) (by omega) HG.out (by rw [HZ.out, HU.out]; exact hzu))
            revert nq; intro nq1
            go_quiet (first | (go_at_call 45; refine Calls.quiet_of_same (HL2.out _)))
            go_wp2_with fail
            obtain ⟨w3, hw3⟩ : ∃ w3, w3 = w2.drewN nq := ⟨_, rfl⟩
            have HR3 := Lib.hid (show Rw b off n w e w3 from hw3 ▸ HR2.out.drewN nq)
            rw [← hw3]
            clear hw3 d1 d2
            have d1 := HR3.out.at_.cell (F + r) (by omega)
            have d2 := HR3.out.at_.cell (F + p) (by omega)
            have f1 := HR3.out.at_.free (F + r) (by omega)
            have f2 := HR3.out.at_.free (F + p) (by omega)
            rw [HZ.out] at d1; rw [HU.out] at d2
            go_region
            have HS3 := Lib.hid (HR3.out.swap (i := F + r) (j := F + p) (by omega) (by omega) HU.out HZ.out)
            go_wp2_with fail
            go_roundw
            case rel => exact ⟨p, sw e (F + r) (F + p), by go_num, by omega, by omega, HSW.out.trans (Sw.one e (by omega) (by omega) (by omega) (by omega)), HNX.out, HS3.out⟩
            case measure => simp [intOf]; omega
          · have HL2 := Lib.hid (fun w => uLessF hzu w)
            have HDO := Lib.hid (HDN.out.done (.inr ⟨p, by omega, HG.out, by rw [HZ.out, HU.out]; exact hzu⟩))
            revert nq; intro nq1
            go_quiet (first | (go_at_call 45; refine Calls.quiet_of_same (HL2.out _)))
            go_wp2_with fail
            (try simp only [Exit.inBlock, Exit.then])
            refine bodyPost_ret (results_none rfl _ _ _) rfl ?_
            exact ⟨rfl, e, HSW.out, HDO.out, HR2.out.drewN _⟩
        · have HL := Lib.hid (fun w => uLessF hxy w)
          have HT := Lib.hid (show Top F hi r m e from ⟨.inl hm0, fun c k1 k2 => by
            rcases k1 with k1 | k1
            · rw [k1, ← hm0]; exact Int.le_refl _
            · rw [k1, ← hpm, hp0, show F + (m + 1) = F + m + 1 by omega, HY.out, HX.out]; omega⟩)
          clear hm0 hp0 hpm
          have hr2 : r < m := by omega
          go_wp2_with fail
          go_quiet (first | (go_at_call 45; refine Calls.quiet_of_same (HL.out _)))
          go_wp2_with fail
          obtain ⟨z, hz⟩ : ∃ z, e (F + r) = z := ⟨_, rfl⟩
          obtain ⟨u, hu⟩ : ∃ u, e (F + m) = u := ⟨_, rfl⟩
          obtain ⟨w2, hw2⟩ : ∃ w2, w2 = wr.drewN nq := ⟨_, rfl⟩
          have HR2 := Lib.hid (show Rw b off n w e w2 from hw2 ▸ HRW.out.drewN nq)
          rw [← hw2]
          clear hw2 c1 c2
          have d1 := HR2.out.at_.cell (F + r) (by omega)
          have d2 := HR2.out.at_.cell (F + m) (by omega)
          rw [hz] at d1; rw [hu] at d2
          have HZ := Lib.hid hz; have HU := Lib.hid hu
          have HG := Lib.hid (HT.out)
          clear hz hu
          by_cases hzu : z < u
          · have HL2 := Lib.hid (fun w => uLessT hzu w)
            have HNX := Lib.hid (HDN.out.next (q := m) (by omega) (by omega) HG.out (by rw [HZ.out, HU.out]; exact hzu))
            revert nq; intro nq1
            go_quiet (first | (go_at_call 45; refine Calls.quiet_of_same (HL2.out _)))
            go_wp2_with fail
            obtain ⟨w3, hw3⟩ : ∃ w3, w3 = w2.drewN nq := ⟨_, rfl⟩
            have HR3 := Lib.hid (show Rw b off n w e w3 from hw3 ▸ HR2.out.drewN nq)
            rw [← hw3]
            clear hw3 d1 d2
            have d1 := HR3.out.at_.cell (F + r) (by omega)
            have d2 := HR3.out.at_.cell (F + m) (by omega)
            have f1 := HR3.out.at_.free (F + r) (by omega)
            have f2 := HR3.out.at_.free (F + m) (by omega)
            rw [HZ.out] at d1; rw [HU.out] at d2
            go_region
            have HS3 := Lib.hid (HR3.out.swap (i := F + r) (j := F + m) (by omega) (by omega) HU.out HZ.out)
            go_wp2_with fail
            go_roundw
            case rel => exact ⟨m, sw e (F + r) (F + m), by go_num, by omega, by omega, HSW.out.trans (Sw.one e (by omega) (by omega) (by omega) (by omega)), HNX.out, HS3.out⟩
            case measure => simp [intOf]; omega
          · have HL2 := Lib.hid (fun w => uLessF hzu w)
            have HDO := Lib.hid (HDN.out.done (.inr ⟨m, by omega, HG.out, by rw [HZ.out, HU.out]; exact hzu⟩))
            revert nq; intro nq1
            go_quiet (first | (go_at_call 45; refine Calls.quiet_of_same (HL2.out _)))
            go_wp2_with fail
            (try simp only [Exit.inBlock, Exit.then])
            refine bodyPost_ret (results_none rfl _ _ _) rfl ?_
            exact ⟨rfl, e, HSW.out, HDO.out, HR2.out.drewN _⟩
      · have b2 : ¬ (m : Int) + 1 < (hi : Int) := by omega
        have b3 : decide ((m : Int) + 1 < (hi : Int)) = false := decide_eq_false b2
        have hm0 := HM0.out
        have HT := Lib.hid (show Top F hi r m e from ⟨.inl hm0, fun c k1 k2 => by
          rcases k1 with k1 | k1
          · rw [k1, ← hm0]; exact Int.le_refl _
          · omega⟩)
        clear hm0
        go_wp2_with fail
        go_quiet (first | (go_at_call 45; refine Calls.quiet_of_same (uLess _ _ _)))
        go_wp2_with fail
        obtain ⟨z, hz⟩ : ∃ z, e (F + r) = z := ⟨_, rfl⟩
        obtain ⟨u, hu⟩ : ∃ u, e (F + m) = u := ⟨_, rfl⟩
        obtain ⟨w2, hw2⟩ : ∃ w2, w2 = wr.drewN nq := ⟨_, rfl⟩
        have HR2 := Lib.hid (show Rw b off n w e w2 from hw2 ▸ HRW.out.drewN nq)
        rw [← hw2]
        clear hw2
        have d1 := HR2.out.at_.cell (F + r) (by omega)
        have d2 := HR2.out.at_.cell (F + m) (by omega)
        rw [hz] at d1; rw [hu] at d2
        have HZ := Lib.hid hz; have HU := Lib.hid hu
        have HG := Lib.hid (HT.out)
        clear hz hu
        by_cases hzu : z < u
        · have HL2 := Lib.hid (fun w => uLessT hzu w)
          have HNX := Lib.hid (HDN.out.next (q := m) (by omega) (by omega) HG.out (by rw [HZ.out, HU.out]; exact hzu))
          revert nq; intro nq1
          go_quiet (first | (go_at_call 45; refine Calls.quiet_of_same (HL2.out _)))
          go_wp2_with fail
          obtain ⟨w3, hw3⟩ : ∃ w3, w3 = w2.drewN nq := ⟨_, rfl⟩
          have HR3 := Lib.hid (show Rw b off n w e w3 from hw3 ▸ HR2.out.drewN nq)
          rw [← hw3]
          clear hw3 d1 d2
          have d1 := HR3.out.at_.cell (F + r) (by omega)
          have d2 := HR3.out.at_.cell (F + m) (by omega)
          have f1 := HR3.out.at_.free (F + r) (by omega)
          have f2 := HR3.out.at_.free (F + m) (by omega)
          rw [HZ.out] at d1; rw [HU.out] at d2
          go_region
          have HS3 := Lib.hid (HR3.out.swap (i := F + r) (j := F + m) (by omega) (by omega) HU.out HZ.out)
          go_wp2_with fail
          go_roundw
          case rel => exact ⟨m, sw e (F + r) (F + m), by go_num, by omega, by omega, HSW.out.trans (Sw.one e (by omega) (by omega) (by omega) (by omega)), HNX.out, HS3.out⟩
          case measure => simp [intOf]; omega
        · have HL2 := Lib.hid (fun w => uLessF hzu w)
          have HDO := Lib.hid (HDN.out.done (.inr ⟨m, by omega, HG.out, by rw [HZ.out, HU.out]; exact hzu⟩))
          revert nq; intro nq1
          go_quiet (first | (go_at_call 45; refine Calls.quiet_of_same (HL2.out _)))
          go_wp2_with fail
          (try simp only [Exit.inBlock, Exit.then])
          refine bodyPost_ret (results_none rfl _ _ _) rfl ?_
          exact ⟨rfl, e, HSW.out, HDO.out, HR2.out.drewN _⟩
end Srt
end Go.Proofs.YtgpcbiballdioaaDoor
