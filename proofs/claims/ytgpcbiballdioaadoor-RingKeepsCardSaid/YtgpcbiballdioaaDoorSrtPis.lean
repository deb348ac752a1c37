/- The insertion sort that gives up. -/
import Derived.Test.YtgpcbiballdioaaDoorSrtLess
import Derived.Deep.CutRange
namespace Go.Proofs.YtgpcbiballdioaaDoor
open Go.RowKit
set_option linter.unusedVariables false
set_option maxRecDepth 8000
namespace Srt
theorem Sorted.more {a k : Nat} {e : Fn} (h : Sorted a (k + 1) e) (ha : a ≤ k) (hx : ¬ e (k + 1) < e k) : Sorted a (k + 2) e := by
  intro p q h1 h2 h3
  by_cases q1 : q = k + 1
  · subst q1
    by_cases p1 : p = k + 1
    · subst p1; exact Int.le_refl _
    · have h4 : e p ≤ e k := h p k h1 (by omega) (by omega)
      omega
  · exact h p q h1 h2 (by omega)
theorem Sorted.less {a k : Nat} {e : Fn} (h : Sorted a (k + 1) e) : Sorted a k e := fun p q h1 h2 h3 => h p q h1 h2 (by omega)
theorem Sorted.far {a k i j : Nat} {e : Fn} (h : Sorted a k e) (hi : k ≤ i) (hj : k ≤ j) : Sorted a k (sw e i j) := fun p q h1 h2 h3 => by
  rw [sw_o _ (by omega) (by omega), sw_o _ (by omega) (by omega)]; exact h p q h1 h2 h3
def GivesB (b off n a c : Nat) (d : Fn) (W0 : World) (e : Ending) (w' : World) : Prop :=
  ∃ (t : Bool) (d' : Fn), e = .returned (.bool t) ∧ Sw a c d d' ∧ (t = true → Sorted a c d') ∧ Rw b off n W0 d' w'
set_option maxRecDepth 100000 in
set_option maxHeartbeats 4000000 in
theorem uPis (b off n cap a c : Nat) (d : Fn) (w : World) (h : At b off n d w) (hac : a + 1 ≤ c) (hc : c ≤ n) (hn : n ≤ 1000) (hpv : ∀ k, 0 < a → a ≤ k → k < c → d (a - 1) ≤ d k) :
    Calls Tryd.prog 44 #[.slice (some ⟨b, off, none⟩) n cap, .int .i64 a, .int .i64 c] w (GivesB b off n a c d w) := by
  have R0 := Lib.hid (Rw.start h)
  have HPV := Lib.hid hpv
  clear h hpv
  go_enter Tryd.func44, Tryd.ntmps44
  go_wp2_with fail
  go_loopw [7, 8, 9, 10] (fun s7 s8 _ _ wr => ∃ (i q : Nat) (e : Fn), s7 = .int .i64 i ∧ s8 = .int .i64 q ∧ q ≤ 5 ∧ a + 1 ≤ i ∧ i ≤ c ∧ Sw a c d e ∧ Sorted a i e ∧ Rw b off n w e wr) (fun _ s8 _ _ _ => 5 - (intOf s8).toNat)
  case atStart => exact ⟨a + 1, 0, d, by go_num, by go_num, by omega, Nat.le_refl _, hac, .refl _, fun i j h1 h2 h3 => by rw [show i = j by omega]; exact Int.le_refl _, R0.out⟩
  case round =>
    obtain ⟨i, q, e, rfl, rfl, hq5, hai, hic, hsw, hso, hrw⟩ := hrel
    have HSW := Lib.hid hsw; have HSO := Lib.hid hso; have HRW := Lib.hid hrw
    clear hsw hso hrw
    by_cases hq : q < 5
    · have b0 : (q : Int) < 5 := by omega
      go_wp2_with fail
      go_loopw [7] (fun s7 w2 => ∃ i2 : Nat, s7 = .int .i64 i2 ∧ a + 1 ≤ i2 ∧ i2 ≤ c ∧ Sorted a i2 e ∧ Rw b off n w e w2) (fun s7 _ => c - (intOf s7).toNat)
      case atStart => exact ⟨i, rfl, hai, hic, HSO.out, HRW.out⟩
      case round =>
        obtain ⟨i2, rfl, hai2, hic2, hso2, hrw2⟩ := hrel
        have HSO2 := Lib.hid hso2; have HRW2 := Lib.hid hrw2
        clear hso2 hrw2 HSO HRW
        obtain ⟨k, rfl⟩ : ∃ k, i2 = k + 1 := ⟨i2 - 1, by omega⟩
        by_cases hlt : k + 1 < c
        · obtain ⟨x, hx⟩ : ∃ x, e (k + 1) = x := ⟨_, rfl⟩
          obtain ⟨y, hy⟩ : ∃ y, e k = y := ⟨_, rfl⟩
          have c1 := HRW2.out.at_.cell (k + 1) (by omega)
          have c2 := HRW2.out.at_.cell k (by omega)
          rw [hx] at c1; rw [hy] at c2
          have b1 : (k : Int) + 1 < (c : Int) := by omega
          have b2 : (0 : Int) ≤ (k : Int) := by omega
          have b3 : (k : Int) < (n : Int) := by omega
          have b4 : (k : Int) + 1 < (n : Int) := by omega
          have b5 : (0 : Int) ≤ (k : Int) + 1 := by omega
          have HX := Lib.hid hx; have HY := Lib.hid hy
          clear hx hy
          by_cases hxy : x < y
          · have HL := Lib.hid (fun w => uLessT hxy w)
            have n1 := ne_b (show ((k : Int) + 1) ≠ (c : Int) by omega)
            go_wp2_with fail
            go_quiet (first | (go_at_call 45; refine Calls.quiet_of_same (HL.out _)))
            obtain ⟨w2, hw2⟩ : ∃ w2, w2 = wr.drewN nq := ⟨_, rfl⟩
            have HR2 := Lib.hid (show Rw b off n w e w2 from hw2 ▸ HRW2.out.drewN nq)
            rw [← hw2]
            clear hw2 c1 c2
            by_cases h50 : (c : Int) - (a : Int) < 50
            · go_wp2_with fail
              go_ret
              exact ⟨false, e, rfl, HSW.out, (by intro h; cases h), HR2.out⟩
            · have c1 := HR2.out.at_.cell (k + 1) (by omega)
              have c2 := HR2.out.at_.cell k (by omega)
              have f1 := HR2.out.at_.free (k + 1) (by omega)
              have f2 := HR2.out.at_.free k (by omega)
              rw [HX.out] at c1; rw [HY.out] at c2
              have HS2 := Lib.hid (HR2.out.swap (i := k + 1) (j := k) (by omega) (by omega) HY.out HX.out)
              have HSW2 := Lib.hid (HSW.out.trans (Sw.one e (i := k + 1) (j := k) (by omega) (by omega) (by omega) (by omega)))
              have HHO := Lib.hid ((Hole.start HSO2.out).next (by omega) (Nat.le_refl _) (by rw [HX.out, HY.out]; exact hxy))
              go_wp2_with fail
              go_region
              obtain ⟨w6, hw6⟩ : ∃ w6, w6 = ((w2.setCell ⟨b, off + (k + 1), none⟩ (.int .u32 y)).setCell ⟨b, off + k, none⟩ (.int .u32 x)).drew := ⟨_, rfl⟩
              rw [← hw6] at HS2 ⊢
              clear hw6 c1 c2 f1 f2 HX HY HL n1 h50 HR2
              obtain ⟨f, hf⟩ : ∃ f, f = sw e (k + 1) k := ⟨_, rfl⟩
              rw [← hf] at HS2 HSW2 HHO
              clear hf
              go_upto_if 61 with fail
              go_cut [9] from 13 to 132 (fun _ wc => ∃ g, Sw a c d g ∧ Sorted a (k + 1) g ∧ Rw b off n w g wc)
              case first =>
                by_cases hka : k = a
                · have b9 : (k : Int) + 1 - (a : Int) < 2 := by omega
                  have HDO := Lib.hid (HHO.out.done (.inl hka) (by omega)).less
                  clear hka
                  go_wp2_with fail
                  go_meet
                  case rel => exact ⟨f, HSW2.out, HDO.out, HS2.out⟩
                · have b9 : 2 ≤ (k : Int) + 1 - (a : Int) := by omega
                  go_wp2_with fail
                  go_loopw [9] (fun s9 w3 => ∃ (j : Nat) (f2 : Fn), s9 = .int .i64 j ∧ a ≤ j ∧ j ≤ k ∧ Sw a c d f2 ∧ Hole a (k + 1) j f2 ∧ Rw b off n w f2 w3) (fun s9 _ => (intOf s9).toNat)
                  case atStart => exact ⟨k, f, by go_num, by omega, Nat.le_refl _, HSW2.out, HHO.out, HS2.out⟩
                  case round =>
                    obtain ⟨j, f2, rfl, haj, hjk, hsw, hho, hrw⟩ := hrel
                    have HSW3 := Lib.hid hsw; have HHO3 := Lib.hid hho; have HRW3 := Lib.hid hrw
                    clear hsw hho hrw
                    rcases j with _ | m
                    · have HDO := Lib.hid (HHO3.out.done (.inl (by omega)) (by omega)).less
                      go_wp2_with fail
                      go_meet
                      case rel => exact ⟨f2, HSW3.out, HDO.out, HRW3.out⟩
                    · obtain ⟨x2, hx⟩ : ∃ x, f2 (m + 1) = x := ⟨_, rfl⟩
                      obtain ⟨y2, hy⟩ : ∃ y, f2 m = y := ⟨_, rfl⟩
                      have c1 := HRW3.out.at_.cell (m + 1) (by omega)
                      have c2 := HRW3.out.at_.cell m (by omega)
                      rw [hx] at c1; rw [hy] at c2
                      have b12 : (0 : Int) ≤ (m : Int) := by omega
                      have b13 : (m : Int) < (n : Int) := by omega
                      have b14 : (m : Int) + 1 < (n : Int) := by omega
                      have b15 : (0 : Int) ≤ (m : Int) + 1 := by omega
                      have b16 : (1 : Int) ≤ (m : Int) + 1 := by omega
                      have HX := Lib.hid hx; have HY := Lib.hid hy
                      clear hx hy
                      by_cases hxy2 : x2 < y2
                      · have ham : a ≤ m := by
                          rcases Nat.lt_or_ge m a with h | h
                          · exfalso
                            have e1 : a = m + 1 := by omega
                            have h1 : d (a - 1) ≤ f2 (m + 1) := HSW3.out.all (P := fun v => d (a - 1) ≤ v) (fun k h1 h2 => HPV.out k (by omega) h1 h2) (m + 1) (by omega) (by omega)
                            have h2 : f2 (a - 1) = d (a - 1) := HSW3.out.out (.inl (by omega))
                            have h3 : a - 1 = m := by omega
                            rw [h3] at h1 h2
                            have h4 := HX.out
                            have h5 := HY.out
                            omega
                          · exact h
                        have HL := Lib.hid (fun w => uLessT hxy2 w)
                        have HNX := Lib.hid (HHO3.out.next (by omega) (by omega) (by rw [HX.out, HY.out]; exact hxy2))
                        go_wp2_with fail
                        go_quiet (first | (go_at_call 45; refine Calls.quiet_of_same (HL.out _)))
                        obtain ⟨w7, hw7⟩ : ∃ w2, w2 = wr.drewN nq := ⟨_, rfl⟩
                        have HR2 := Lib.hid (show Rw b off n w f2 w7 from hw7 ▸ HRW3.out.drewN nq)
                        rw [← hw7]
                        clear hw7 c1 c2
                        have c1 := HR2.out.at_.cell (m + 1) (by omega)
                        have c2 := HR2.out.at_.cell m (by omega)
                        have f1 := HR2.out.at_.free (m + 1) (by omega)
                        have f3 := HR2.out.at_.free m (by omega)
                        rw [HX.out] at c1; rw [HY.out] at c2
                        have HS3 := Lib.hid (HR2.out.swap (i := m + 1) (j := m) (by omega) (by omega) HY.out HX.out)
                        go_wp2_with fail
                        go_region
                        go_wp2_with fail
                        go_roundw
                        case rel => exact ⟨m, sw f2 (m + 1) m, by go_num, by omega, by omega, HSW3.out.trans (Sw.one f2 (by omega) (by omega) (by omega) (by omega)), HNX.out, HS3.out⟩
                        case measure => simp [intOf]
                      · have HL := Lib.hid (fun w => uLessF hxy2 w)
                        have HDO := Lib.hid (HHO3.out.done (.inr ⟨m, rfl, by rw [HX.out, HY.out]; exact hxy2⟩) haj).less
                        go_wp2_with fail
                        go_quiet (first | (go_at_call 45; refine Calls.quiet_of_same (HL.out _)))
                        go_wp2_with fail
                        go_meet
                        case rel => exact ⟨f2, HSW3.out, HDO.out, HRW3.out.drewN _⟩
              case rest =>
                obtain ⟨g, hg1, hg2, hg3⟩ := hcut
                have HG1 := Lib.hid hg1; have HG2 := Lib.hid hg2; have HG3 := Lib.hid hg3
                clear hg1 hg2 hg3
                by_cases h2 : (c : Int) - ((k : Int) + 1) < 2
                · go_wp2_with fail
                  go_roundw
                  case rel => exact ⟨k + 1, q + 1, g, by go_num, by go_num, by omega, by omega, by omega, HG1.out, HG2.out, HG3.out⟩
                  case measure => simp [intOf]; omega
                · have b9 : 2 ≤ (c : Int) - ((k : Int) + 1) := by omega
                  clear h2
                  go_wp2_with fail
                  go_loopw [10] (fun s10 w3 => ∃ (j : Nat) (g2 : Fn), s10 = .int .i64 j ∧ k + 2 ≤ j ∧ j ≤ c ∧ Sw a c d g2 ∧ Sorted a (k + 1) g2 ∧ Rw b off n w g2 w3) (fun s10 _ => c - (intOf s10).toNat)
                  case atStart => exact ⟨k + 2, g, by go_num, Nat.le_refl _, by omega, HG1.out, HG2.out, HG3.out⟩
                  case round =>
                    obtain ⟨j, g2, rfl, haj, hjk, hsw, hho, hrw⟩ := hrel
                    have HSW3 := Lib.hid hsw; have HHO3 := Lib.hid hho; have HRW3 := Lib.hid hrw
                    clear hsw hho hrw
                    by_cases hjc : j < c
                    · obtain ⟨m, rfl⟩ : ∃ m, j = m + 1 := ⟨j - 1, by omega⟩
                      obtain ⟨x2, hx⟩ : ∃ x, g2 (m + 1) = x := ⟨_, rfl⟩
                      obtain ⟨y2, hy⟩ : ∃ y, g2 m = y := ⟨_, rfl⟩
                      have c1 := HRW3.out.at_.cell (m + 1) (by omega)
                      have c2 := HRW3.out.at_.cell m (by omega)
                      rw [hx] at c1; rw [hy] at c2
                      have b11 : (m : Int) + 1 < (c : Int) := by omega
                      have b12 : (0 : Int) ≤ (m : Int) := by omega
                      have b13 : (m : Int) < (n : Int) := by omega
                      have b14 : (m : Int) + 1 < (n : Int) := by omega
                      have b15 : (0 : Int) ≤ (m : Int) + 1 := by omega
                      have HX := Lib.hid hx; have HY := Lib.hid hy
                      clear hx hy
                      by_cases hxy2 : x2 < y2
                      · have HL := Lib.hid (fun w => uLessT hxy2 w)
                        go_wp2_with fail
                        go_quiet (first | (go_at_call 45; refine Calls.quiet_of_same (HL.out _)))
                        obtain ⟨w7, hw7⟩ : ∃ w2, w2 = wr.drewN nq := ⟨_, rfl⟩
                        have HR2 := Lib.hid (show Rw b off n w g2 w7 from hw7 ▸ HRW3.out.drewN nq)
                        rw [← hw7]
                        clear hw7 c1 c2
                        have c1 := HR2.out.at_.cell (m + 1) (by omega)
                        have c2 := HR2.out.at_.cell m (by omega)
                        have f1 := HR2.out.at_.free (m + 1) (by omega)
                        have f3 := HR2.out.at_.free m (by omega)
                        rw [HX.out] at c1; rw [HY.out] at c2
                        have HS3 := Lib.hid (HR2.out.swap (i := m + 1) (j := m) (by omega) (by omega) HY.out HX.out)
                        go_wp2_with fail
                        go_region
                        go_wp2_with fail
                        go_roundw
                        case rel => exact ⟨m + 2, sw g2 (m + 1) m, by go_num, by omega, by omega, HSW3.out.trans (Sw.one g2 (by omega) (by omega) (by omega) (by omega)), HHO3.out.far (by omega) (by omega), HS3.out⟩
                        case measure => simp [intOf]; omega
                      · have HL := Lib.hid (fun w => uLessF hxy2 w)
                        go_wp2_with fail
                        go_quiet (first | (go_at_call 45; refine Calls.quiet_of_same (HL.out _)))
                        go_wp2_with fail
                        go_roundw
                        case rel => exact ⟨k + 1, q + 1, g2, by go_num, by go_num, by omega, by omega, by omega, HSW3.out, HHO3.out, HRW3.out.drewN _⟩
                        case measure => simp [intOf]; omega
                    · have b11 : ¬ (j : Int) < (c : Int) := by omega
                      go_wp2_with fail
                      go_roundw
                      case rel => exact ⟨k + 1, q + 1, g2, by go_num, by go_num, by omega, by omega, by omega, HSW3.out, HHO3.out, HRW3.out⟩
                      case measure => simp [intOf]; omega
          · have HL := Lib.hid (fun w => uLessF hxy w)
            have HDO := Lib.hid (HSO2.out.more (by omega) (by rw [HX.out, HY.out]; exact hxy))
            go_wp2_with fail
            go_quiet (first | (go_at_call 45; refine Calls.quiet_of_same (HL.out _)))
            go_wp2_with fail
            go_roundw
            case rel => exact ⟨k + 2, by go_num, by omega, by omega, HDO.out, HRW2.out.drewN _⟩
            case measure => simp [intOf]; omega
        · have hec : c = k + 1 := by omega
          subst hec
          have b1 : ¬ ((k : Int) + 1 < (k : Int) + 1) := by omega
          have n1 := eq_b (rfl : (k : Int) + 1 = (k : Int) + 1)
          go_wp2_with fail
          go_quiet (first | (go_at_call 45; refine Calls.quiet_of_same (uLess _ _ _)))
          go_wp2_with fail
          go_ret
          exact ⟨true, e, rfl, HSW.out, fun _ => HSO2.out, HRW2.out.drewN _⟩
    · have b0 : ¬ (q : Int) < 5 := by omega
      go_wp2_with fail
      go_ret
      exact ⟨false, e, rfl, HSW.out, (by intro h; cases h), HRW.out⟩
end Srt
end Go.Proofs.YtgpcbiballdioaaDoor
