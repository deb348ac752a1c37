/- Partition -/
import Derived.Test.YtgpcbiballdioaaDoorSrtPeq
namespace Go.Proofs.YtgpcbiballdioaaDoor
open Go.RowKit
set_option linter.unusedVariables false
set_option maxRecDepth 8000
namespace Srt
theorem Pt.done {a c i g : Nat} {p : Int} {e : Fn} (h : Pt (Ll p) a c i i p e) (hg : i = g + 1) (ha : a ≤ g) : (∀ k, a ≤ k → k < g → sw e g a k ≤ sw e g a g) ∧ (∀ k, g < k → k < c → sw e g a g ≤ sw e g a k) := by
  subst hg
  have e1 : sw e g a g = p := by rw [sw_i]; exact h.piv
  rw [e1]
  refine ⟨fun k h1 h2 => ?_, fun k h1 h2 => ?_⟩
  · by_cases e2 : k = a
    · subst e2
      rw [sw_j]
      have : e g < p := h.lo g (by omega) (by omega)
      omega
    · rw [sw_o _ (by omega) e2]
      have : e k < p := h.lo k (by omega) (by omega)
      omega
  · rw [sw_o _ (by omega) (by omega)]
    have : ¬ e k < p := h.hi k (by omega) h2
    omega
def GivesPt (b off n a c : Nat) (d : Fn) (W0 : World) (e : Ending) (w' : World) : Prop :=
  ∃ (m : Nat) (d' : Fn) (t : Bool), e = .returned (.tuple #[.int .i64 m, .bool t]) ∧ a ≤ m ∧ m < c ∧ Sw a c d d' ∧ (∀ k, a ≤ k → k < m → d' k ≤ d' m) ∧ (∀ k, m < k → k < c → d' m ≤ d' k) ∧ Rw b off n W0 d' w'
set_option maxRecDepth 100000 in
set_option maxHeartbeats 8000000 in
theorem uPart (b off n cap a c pv : Nat) (d : Fn) (w : World) (h : At b off n d w) (hap : a ≤ pv) (hpc : pv < c) (hc : c ≤ n) (hn : n ≤ 1000) :
    Calls Tryd.prog 47 #[.slice (some ⟨b, off, none⟩) n cap, .int .i64 a, .int .i64 c, .int .i64 pv] w (GivesPt b off n a c d w) := by
  obtain ⟨p, hp⟩ : ∃ p, d pv = p := ⟨_, rfl⟩
  obtain ⟨z, hz⟩ : ∃ z, d a = z := ⟨_, rfl⟩
  have R0 := Lib.hid (Rw.start h)
  have c1 := h.cell a (by omega)
  have c2 := h.cell pv (by omega)
  have f1 := h.free a (by omega)
  have f2 := h.free pv (by omega)
  rw [hz] at c1; rw [hp] at c2
  obtain ⟨v3, hy3⟩ := cell?_setCell_some (w := w) (p := ⟨b, off + a, none⟩) (x := .int .u32 p) (q := ⟨b, off + pv, none⟩) c2
  have HS0 := Lib.hid (R0.out.swap (i := a) (j := pv) (by omega) (by omega) hp hz)
  have HSW0 := Lib.hid (Sw.one d (a := a) (c := c) (i := a) (j := pv) (by omega) (by omega) (by omega) (by omega))
  have HPV := Lib.hid (show sw d a pv a = p by rw [sw_i]; exact hp)
  have ia : (a : Int) < (n : Int) := by omega
  have ip : (pv : Int) < (n : Int) := by omega
  clear h hp hz
  go_enter Tryd.func47, Tryd.ntmps47
  go_wp2_with fail
  go_region
  obtain ⟨w1, hw1⟩ : ∃ w1, w1 = ((w.setCell ⟨b, off + a, none⟩ (.int .u32 p)).setCell ⟨b, off + pv, none⟩ (.int .u32 z)).drew := ⟨_, rfl⟩
  rw [← hw1] at HS0 ⊢
  clear hw1 c1 c2 f1 f2 hy3
  go_wp2_with fail
  obtain ⟨i, hi⟩ : ∃ i, i = a + 1 := ⟨_, rfl⟩
  obtain ⟨jj, hj⟩ : ∃ jj, jj = c := ⟨_, rfl⟩
  obtain ⟨e, he⟩ : ∃ e, e = sw d a pv := ⟨_, rfl⟩
  have hai : a + 1 ≤ i := by omega
  have hij : i ≤ jj := by omega
  have hjc : jj ≤ c := by omega
  have HPT := Lib.hid (show Pt (Ll p) a c i jj p e from ⟨he ▸ HPV.out, fun k h1 h2 => by omega, fun k h1 h2 => by omega⟩)
  have HSW := Lib.hid (show Sw a c d e from he ▸ HSW0.out)
  have HRW := Lib.hid (show Rw b off n w e w1 from he ▸ HS0.out)
  have ei : (a : Int) + 1 = (i : Int) := by omega
  have ej : (c : Int) - 1 = (jj : Int) - 1 := by omega
  simp only [ei, ej]
  clear ei ej hi hj he HS0 HSW0 HPV
  (try go_wp2_with fail)
  go_loopw [10] (fun si w2 => ∃ i2 : Nat, si = .int .i64 i2 ∧ i ≤ i2 ∧ i2 ≤ jj ∧ Pt (Ll p) a c i2 jj p e ∧ Rw b off n w e w2) (fun si _ => jj - (intOf si).toNat)
  case atStart => exact ⟨i, rfl, Nat.le_refl _, hij, HPT.out, HRW.out⟩
  case round =>
    obtain ⟨i2, rfl, hi2, hij2, hpt2, hrw2⟩ := hrel
    have HPT2 := Lib.hid hpt2; have HRW2 := Lib.hid hrw2
    clear hpt2 hrw2
    by_cases hlt : i2 < jj
    · have b1 : (i2 : Int) ≤ (jj : Int) - 1 := by omega
      have i1 : (i2 : Int) < (n : Int) := by omega
      obtain ⟨x, hx⟩ : ∃ x, e i2 = x := ⟨_, rfl⟩
      have c1 := HRW2.out.at_.cell i2 (by omega)
      have c2 := HRW2.out.at_.cell a (by omega)
      rw [hx] at c1; rw [HPT2.out.piv] at c2
      have HX := Lib.hid hx
      clear hx
      by_cases hxp : x < p
      · have HL2 := Lib.hid (fun w => uLessT hxp w)
        have HN2 := Lib.hid (HPT2.out.up (by unfold Ll; rw [HX.out]; exact hxp))
        go_wp2_with fail
        go_quiet (first | (go_at_call 45; refine Calls.quiet_of_same (HL2.out _)))
        go_wp2_with fail
        go_roundw
        case rel => exact ⟨i2 + 1, by go_num, by omega, by omega, HN2.out, HRW2.out.drewN _⟩
        case measure => simp [intOf]; omega
      · have HL2 := Lib.hid (fun w => uLessF hxp w)
        have HLI := Lib.hid (show ¬ (Ll p) (e i2) from by unfold Ll; rw [HX.out]; exact hxp)
        go_wp2_with fail
        go_quiet (first | (go_at_call 45; refine Calls.quiet_of_same (HL2.out _)))
        go_wp2_with fail
        clear c1 c2
        go_loopw [11] (fun sj w3 => ∃ j3 : Nat, sj = .int .i64 ((j3 : Int) - 1) ∧ i2 ≤ j3 ∧ j3 ≤ jj ∧ Pt (Ll p) a c i2 j3 p e ∧ Rw b off n w e w3) (fun sj _ => (intOf sj + 1).toNat)
        case atStart => exact ⟨jj, rfl, by omega, Nat.le_refl _, HPT2.out, HRW2.out.drewN _⟩
        case round =>
          obtain ⟨j3, rfl, hij3, hj3, hpt3, hrw3⟩ := hrel
          have HPT3 := Lib.hid hpt3; have HRW3 := Lib.hid hrw3
          clear hpt3 hrw3
          by_cases hlt3 : i2 < j3
          · obtain ⟨k, rfl⟩ : ∃ k, j3 = k + 1 := ⟨j3 - 1, by omega⟩
            have e3 : ((k + 1 : Nat) : Int) - 1 = (k : Int) := by omega
            rw [e3]
            have b3 : (i2 : Int) ≤ (k : Int) := by omega
            have b4 : ¬ (k : Int) < (i2 : Int) := by omega
            have b6 : decide (k < i2) = false := decide_eq_false (by omega)
            have b7 : decide ((k : Int) < (i2 : Int)) = false := decide_eq_false (by omega)
            have i3 : (k : Int) < (n : Int) := by omega
            obtain ⟨y, hy⟩ : ∃ y, e k = y := ⟨_, rfl⟩
            have c3 := HRW3.out.at_.cell k (by omega)
            have c4 := HRW3.out.at_.cell a (by omega)
            rw [hy] at c3; rw [HPT3.out.piv] at c4
            have HY := Lib.hid hy
            clear hy
            by_cases hyp : ¬ y < p
            · have HL3 := Lib.hid (fun w => uLessF hyp w)
              have HN3 := Lib.hid (HPT3.out.down (by omega) (by unfold Ll; rw [HY.out]; exact hyp))
              go_wp2_with fail
              go_quiet (first | (go_at_call 45; refine Calls.quiet_of_same (HL3.out _)))
              go_wp2_with fail
              go_roundw
              case rel => exact ⟨k, by go_num, by omega, by omega, HN3.out, HRW3.out.drewN _⟩
              case measure => simp [intOf]
            · have HL3 := Lib.hid (fun w => uLessT (show y < p by omega) w)
              have HLK := Lib.hid (show (Ll p) (e k) from by unfold Ll; rw [HY.out]; omega)
              have hik : i2 < k := by
                rcases Nat.lt_or_ge i2 k with h | h
                · exact h
                · exfalso
                  have h2 : i2 = k := by omega
                  exact HLI.out (h2 ▸ HLK.out)
              have HSWP := Lib.hid (HPT3.out.swap (by omega) hik (by omega) HLI.out HLK.out)
              go_wp2_with fail
              go_quiet (first | (go_at_call 45; refine Calls.quiet_of_same (HL3.out _)))
              go_wp2_with fail
              obtain ⟨w5, hw5⟩ : ∃ w5, w5 = wr.drewN nq := ⟨_, rfl⟩
              have HR5 := Lib.hid (show Rw b off n w e w5 from hw5 ▸ HRW3.out.drewN nq)
              rw [← hw5]
              clear hw5 c3 c4
              have c3 := HR5.out.at_.cell k (by omega)
              have c5 := HR5.out.at_.cell i2 (by omega)
              have f3 := HR5.out.at_.free k (by omega)
              have f5 := HR5.out.at_.free i2 (by omega)
              rw [HY.out] at c3; rw [HX.out] at c5
              have HS5 := Lib.hid (HR5.out.swap (i := i2) (j := k) (by omega) (by omega) HY.out HX.out)
              have HSW5 := Lib.hid (HSW.out.trans (Sw.one e (i := i2) (j := k) (by omega) (by omega) (by omega) (by omega)))
              go_region
              go_wp2_with fail
              go_loopw [10, 11] (fun si sj wr => ∃ (i jj : Nat) (e : Fn), si = .int .i64 i ∧ sj = .int .i64 ((jj : Int) - 1) ∧ a + 1 ≤ i ∧ i ≤ jj ∧ jj ≤ c ∧ Sw a c d e ∧ Pt (Ll p) a c i jj p e ∧ Rw b off n w e wr) (fun _ sj _ => (intOf sj + 1).toNat)
              case atStart => exact ⟨i2 + 1, k, sw e i2 k, by go_num, by go_num, by omega, by omega, by omega, HSW5.out, HSWP.out, HS5.out⟩
              case round =>
                obtain ⟨i, jj, e, rfl, rfl, hai, hij, hjc, hsw, hpt, hrw⟩ := hrel
                have HSW := Lib.hid hsw; have HPT := Lib.hid hpt; have HRW := Lib.hid hrw
                clear hsw hpt hrw
                (try go_wp2_with fail)
                go_loopw [10] (fun si w2 => ∃ i2 : Nat, si = .int .i64 i2 ∧ i ≤ i2 ∧ i2 ≤ jj ∧ Pt (Ll p) a c i2 jj p e ∧ Rw b off n w e w2) (fun si _ => jj - (intOf si).toNat)
                case atStart => exact ⟨i, rfl, Nat.le_refl _, hij, HPT.out, HRW.out⟩
                case round =>
                  obtain ⟨i2, rfl, hi2, hij2, hpt2, hrw2⟩ := hrel
                  have HPT2 := Lib.hid hpt2; have HRW2 := Lib.hid hrw2
                  clear hpt2 hrw2
                  by_cases hlt : i2 < jj
                  · have b1 : (i2 : Int) ≤ (jj : Int) - 1 := by omega
                    have i1 : (i2 : Int) < (n : Int) := by omega
                    obtain ⟨x, hx⟩ : ∃ x, e i2 = x := ⟨_, rfl⟩
                    have c1 := HRW2.out.at_.cell i2 (by omega)
                    have c2 := HRW2.out.at_.cell a (by omega)
                    rw [hx] at c1; rw [HPT2.out.piv] at c2
                    have HX := Lib.hid hx
                    clear hx
                    by_cases hxp : x < p
                    · have HL2 := Lib.hid (fun w => uLessT hxp w)
                      have HN2 := Lib.hid (HPT2.out.up (by unfold Ll; rw [HX.out]; exact hxp))
                      go_wp2_with fail
                      go_quiet (first | (go_at_call 45; refine Calls.quiet_of_same (HL2.out _)))
                      go_wp2_with fail
                      go_roundw
                      case rel => exact ⟨i2 + 1, by go_num, by omega, by omega, HN2.out, HRW2.out.drewN _⟩
                      case measure => simp [intOf]; omega
                    · have HL2 := Lib.hid (fun w => uLessF hxp w)
                      have HLI := Lib.hid (show ¬ (Ll p) (e i2) from by unfold Ll; rw [HX.out]; exact hxp)
                      go_wp2_with fail
                      go_quiet (first | (go_at_call 45; refine Calls.quiet_of_same (HL2.out _)))
                      go_wp2_with fail
                      clear c1 c2
                      go_loopw [11] (fun sj w3 => ∃ j3 : Nat, sj = .int .i64 ((j3 : Int) - 1) ∧ i2 ≤ j3 ∧ j3 ≤ jj ∧ Pt (Ll p) a c i2 j3 p e ∧ Rw b off n w e w3) (fun sj _ => (intOf sj + 1).toNat)
                      case atStart => exact ⟨jj, rfl, by omega, Nat.le_refl _, HPT2.out, HRW2.out.drewN _⟩
                      case round =>
                        obtain ⟨j3, rfl, hij3, hj3, hpt3, hrw3⟩ := hrel
                        have HPT3 := Lib.hid hpt3; have HRW3 := Lib.hid hrw3
                        clear hpt3 hrw3
                        by_cases hlt3 : i2 < j3
                        · obtain ⟨k, rfl⟩ : ∃ k, j3 = k + 1 := ⟨j3 - 1, by omega⟩
                          have e3 : ((k + 1 : Nat) : Int) - 1 = (k : Int) := by omega
                          rw [e3]
                          have b3 : (i2 : Int) ≤ (k : Int) := by omega
                          have b4 : ¬ (k : Int) < (i2 : Int) := by omega
                          have b6 : decide (k < i2) = false := decide_eq_false (by omega)
                          have b7 : decide ((k : Int) < (i2 : Int)) = false := decide_eq_false (by omega)
                          have i3 : (k : Int) < (n : Int) := by omega
                          obtain ⟨y, hy⟩ : ∃ y, e k = y := ⟨_, rfl⟩
                          have c3 := HRW3.out.at_.cell k (by omega)
                          have c4 := HRW3.out.at_.cell a (by omega)
                          rw [hy] at c3; rw [HPT3.out.piv] at c4
                          have HY := Lib.hid hy
                          clear hy
                          by_cases hyp : ¬ y < p
                          · have HL3 := Lib.hid (fun w => uLessF hyp w)
                            have HN3 := Lib.hid (HPT3.out.down (by omega) (by unfold Ll; rw [HY.out]; exact hyp))
                            go_wp2_with fail
                            go_quiet (first | (go_at_call 45; refine Calls.quiet_of_same (HL3.out _)))
                            go_wp2_with fail
                            go_roundw
                            case rel => exact ⟨k, by go_num, by omega, by omega, HN3.out, HRW3.out.drewN _⟩
                            case measure => simp [intOf]
                          · have HL3 := Lib.hid (fun w => uLessT (show y < p by omega) w)
                            have HLK := Lib.hid (show (Ll p) (e k) from by unfold Ll; rw [HY.out]; omega)
                            have hik : i2 < k := by
                              rcases Nat.lt_or_ge i2 k with h | h
                              · exact h
                              · exfalso
                                have h2 : i2 = k := by omega
                                exact HLI.out (h2 ▸ HLK.out)
                            have HSWP := Lib.hid (HPT3.out.swap (by omega) hik (by omega) HLI.out HLK.out)
                            go_wp2_with fail
                            go_quiet (first | (go_at_call 45; refine Calls.quiet_of_same (HL3.out _)))
                            go_wp2_with fail
                            obtain ⟨w5, hw5⟩ : ∃ w5, w5 = wr.drewN nq := ⟨_, rfl⟩
                            have HR5 := Lib.hid (show Rw b off n w e w5 from hw5 ▸ HRW3.out.drewN nq)
                            rw [← hw5]
                            clear hw5 c3 c4
                            have c3 := HR5.out.at_.cell k (by omega)
                            have c5 := HR5.out.at_.cell i2 (by omega)
                            have f3 := HR5.out.at_.free k (by omega)
                            have f5 := HR5.out.at_.free i2 (by omega)
                            rw [HY.out] at c3; rw [HX.out] at c5
                            have HS5 := Lib.hid (HR5.out.swap (i := i2) (j := k) (by omega) (by omega) HY.out HX.out)
                            have HSW5 := Lib.hid (HSW.out.trans (Sw.one e (i := i2) (j := k) (by omega) (by omega) (by omega) (by omega)))
                            go_region
                            go_wp2_with fail
                            go_roundw
                            case rel => exact ⟨i2 + 1, k, sw e i2 k, by go_num, by go_num, by omega, by omega, by omega, HSW5.out, HSWP.out, HS5.out⟩
                            case measure => simp [intOf]; omega
                        · have b3 : ¬ (i2 : Int) ≤ (j3 : Int) - 1 := by omega
                          have b4 : (j3 : Int) - 1 < (i2 : Int) := by omega
                          have hj3e : j3 = i2 := by omega
                          subst hj3e
                          have b5 : decide ((j3 : Int) ≤ (j3 : Int) - 1) = false := decide_eq_false (by omega)
                          have HPE := HPT3
                          go_wp2_with fail
                          go_quiet (first | (go_at_call 45; refine Calls.quiet_of_same (uLess _ _ _)))
                          go_wp2_with fail
                          obtain ⟨w5, hw5⟩ : ∃ w5, w5 = wr.drewN nq := ⟨_, rfl⟩
                          have HR5 := Lib.hid (show Rw b off n w e w5 from hw5 ▸ HRW3.out.drewN nq)
                          rw [← hw5]
                          clear hw5
                          obtain ⟨g, hg⟩ : ∃ g, j3 = g + 1 := ⟨j3 - 1, by omega⟩
                          have eg : (j3 : Int) - 1 = (g : Int) := by omega
                          have hag : a ≤ g ∧ g < c := by omega
                          have HGI := Lib.hid hg
                          have HDN := Lib.hid (HPE.out.done hg hag.1)
                          obtain ⟨y9, hy9⟩ : ∃ y9, e g = y9 := ⟨_, rfl⟩
                          have c8 := HR5.out.at_.cell g (by omega)
                          have c9 := HR5.out.at_.cell a (by omega)
                          have f8 := HR5.out.at_.free g (by omega)
                          have f9 := HR5.out.at_.free a (by omega)
                          rw [hy9] at c8; rw [HPE.out.piv] at c9
                          obtain ⟨v9, hv9⟩ := cell?_setCell_some (w := w5) (p := ⟨b, off + g, none⟩) (x := .int .u32 p) (q := ⟨b, off + a, none⟩) c9
                          have ig : (g : Int) < (n : Int) := by omega
                          have ig0 : (0 : Int) ≤ (g : Int) := by omega
                          have HS9 := Lib.hid (HR5.out.swap (i := g) (j := a) (by omega) (by omega) HPE.out.piv hy9)
                          have HSW9 := Lib.hid (HSW.out.trans (Sw.one e (i := g) (j := a) (by omega) (by omega) (by omega) (by omega)))
                          clear hy9 hg
                          simp only [eg]
                          go_wp2_with fail
                          go_region
                          go_wp2_with fail
                          exact bodyPost_ret (v := .tuple #[.int .i64 g, .bool false]) (by simp [results, Tryd.results47, go_sem]) rfl ⟨g, _, false, rfl, hag.1, hag.2, HSW9.out, HDN.out.1, HDN.out.2, HS9.out⟩
                  · have b1 : ¬ (i2 : Int) ≤ (jj : Int) - 1 := by omega
                    have hje : i2 = jj := by omega
                    subst hje
                    have b5 : decide ((i2 : Int) ≤ (i2 : Int) - 1) = false := decide_eq_false (by omega)
                    go_wp2_with fail
                    go_quiet (first | (go_at_call 45; refine Calls.quiet_of_same (uLess _ _ _)))
                    go_wp2_with fail
                    go_loopw [11] (fun sj w3 => sj = .int .i64 ((i2 : Int) - 1) ∧ Rw b off n w e w3) (fun _ _ => 0)
                    case atStart => exact ⟨rfl, HRW2.out.drewN _⟩
                    case round =>
                      obtain ⟨rfl, hrw3⟩ := hrel
                      have HRW3 := Lib.hid hrw3
                      clear hrw3
                      have b4 : (i2 : Int) - 1 < (i2 : Int) := by omega
                      have HPE := HPT2
                      go_wp2_with fail
                      go_quiet (first | (go_at_call 45; refine Calls.quiet_of_same (uLess _ _ _)))
                      go_wp2_with fail
                      obtain ⟨w5, hw5⟩ : ∃ w5, w5 = wr.drewN nq := ⟨_, rfl⟩
                      have HR5 := Lib.hid (show Rw b off n w e w5 from hw5 ▸ HRW3.out.drewN nq)
                      rw [← hw5]
                      clear hw5
                      obtain ⟨g, hg⟩ : ∃ g, i2 = g + 1 := ⟨i2 - 1, by omega⟩
                      have eg : (i2 : Int) - 1 = (g : Int) := by omega
                      have hag : a ≤ g ∧ g < c := by omega
                      have HGI := Lib.hid hg
                      have HDN := Lib.hid (HPE.out.done hg hag.1)
                      obtain ⟨y9, hy9⟩ : ∃ y9, e g = y9 := ⟨_, rfl⟩
                      have c8 := HR5.out.at_.cell g (by omega)
                      have c9 := HR5.out.at_.cell a (by omega)
                      have f8 := HR5.out.at_.free g (by omega)
                      have f9 := HR5.out.at_.free a (by omega)
                      rw [hy9] at c8; rw [HPE.out.piv] at c9
                      obtain ⟨v9, hv9⟩ := cell?_setCell_some (w := w5) (p := ⟨b, off + g, none⟩) (x := .int .u32 p) (q := ⟨b, off + a, none⟩) c9
                      have ig : (g : Int) < (n : Int) := by omega
                      have ig0 : (0 : Int) ≤ (g : Int) := by omega
                      have HS9 := Lib.hid (HR5.out.swap (i := g) (j := a) (by omega) (by omega) HPE.out.piv hy9)
                      have HSW9 := Lib.hid (HSW.out.trans (Sw.one e (i := g) (j := a) (by omega) (by omega) (by omega) (by omega)))
                      clear hy9 hg
                      simp only [eg]
                      go_wp2_with fail
                      go_region
                      go_wp2_with fail
                      exact bodyPost_ret (v := .tuple #[.int .i64 g, .bool false]) (by simp [results, Tryd.results47, go_sem]) rfl ⟨g, _, false, rfl, hag.1, hag.2, HSW9.out, HDN.out.1, HDN.out.2, HS9.out⟩
          · have b3 : ¬ (i2 : Int) ≤ (j3 : Int) - 1 := by omega
            have b4 : (j3 : Int) - 1 < (i2 : Int) := by omega
            have hj3e : j3 = i2 := by omega
            subst hj3e
            have b5 : decide ((j3 : Int) ≤ (j3 : Int) - 1) = false := decide_eq_false (by omega)
            have HPE := HPT3
            go_wp2_with fail
            go_quiet (first | (go_at_call 45; refine Calls.quiet_of_same (uLess _ _ _)))
            go_wp2_with fail
            obtain ⟨w5, hw5⟩ : ∃ w5, w5 = wr.drewN nq := ⟨_, rfl⟩
            have HR5 := Lib.hid (show Rw b off n w e w5 from hw5 ▸ HRW3.out.drewN nq)
            rw [← hw5]
            clear hw5
            obtain ⟨g, hg⟩ : ∃ g, j3 = g + 1 := ⟨j3 - 1, by omega⟩
            have eg : (j3 : Int) - 1 = (g : Int) := by omega
            have hag : a ≤ g ∧ g < c := by omega
            have HGI := Lib.hid hg
            have HDN := Lib.hid (HPE.out.done hg hag.1)
            obtain ⟨y9, hy9⟩ : ∃ y9, e g = y9 := ⟨_, rfl⟩
            have c8 := HR5.out.at_.cell g (by omega)
            have c9 := HR5.out.at_.cell a (by omega)
            have f8 := HR5.out.at_.free g (by omega)
            have f9 := HR5.out.at_.free a (by omega)
            rw [hy9] at c8; rw [HPE.out.piv] at c9
            obtain ⟨v9, hv9⟩ := cell?_setCell_some (w := w5) (p := ⟨b, off + g, none⟩) (x := .int .u32 p) (q := ⟨b, off + a, none⟩) c9
            have ig : (g : Int) < (n : Int) := by omega
            have ig0 : (0 : Int) ≤ (g : Int) := by omega
            have HS9 := Lib.hid (HR5.out.swap (i := g) (j := a) (by omega) (by omega) HPE.out.piv hy9)
            have HSW9 := Lib.hid (HSW.out.trans (Sw.one e (i := g) (j := a) (by omega) (by omega) (by omega) (by omega)))
            clear hy9 hg
            simp only [eg]
            go_wp2_with fail
            go_region
            go_wp2_with fail
            exact bodyPost_ret (v := .tuple #[.int .i64 g, .bool true]) (by simp [results, Tryd.results47, go_sem]) rfl ⟨g, _, true, rfl, hag.1, hag.2, HSW9.out, HDN.out.1, HDN.out.2, HS9.out⟩
    · have b1 : ¬ (i2 : Int) ≤ (jj : Int) - 1 := by omega
      have hje : i2 = jj := by omega
      subst hje
      have b5 : decide ((i2 : Int) ≤ (i2 : Int) - 1) = false := decide_eq_false (by omega)
      go_wp2_with fail
      go_quiet (first | (go_at_call 45; refine Calls.quiet_of_same (uLess _ _ _)))
      go_wp2_with fail
      go_loopw [11] (fun sj w3 => sj = .int .i64 ((i2 : Int) - 1) ∧ Rw b off n w e w3) (fun _ _ => 0)
      case atStart => exact ⟨rfl, HRW2.out.drewN _⟩
      case round =>
        obtain ⟨rfl, hrw3⟩ := hrel
        have HRW3 := Lib.hid hrw3
        clear hrw3
        have b4 : (i2 : Int) - 1 < (i2 : Int) := by omega
        have HPE := HPT2
        go_wp2_with fail
        go_quiet (first | (go_at_call 45; refine Calls.quiet_of_same (uLess _ _ _)))
        go_wp2_with fail
        obtain ⟨w5, hw5⟩ : ∃ w5, w5 = wr.drewN nq := ⟨_, rfl⟩
        have HR5 := Lib.hid (show Rw b off n w e w5 from hw5 ▸ HRW3.out.drewN nq)
        rw [← hw5]
        clear hw5
        obtain ⟨g, hg⟩ : ∃ g, i2 = g + 1 := ⟨i2 - 1, by omega⟩
        have eg : (i2 : Int) - 1 = (g : Int) := by omega
        have hag : a ≤ g ∧ g < c := by omega
        have HGI := Lib.hid hg
        have HDN := Lib.hid (HPE.out.done hg hag.1)
        obtain ⟨y9, hy9⟩ : ∃ y9, e g = y9 := ⟨_, rfl⟩
        have c8 := HR5.out.at_.cell g (by omega)
        have c9 := HR5.out.at_.cell a (by omega)
        have f8 := HR5.out.at_.free g (by omega)
        have f9 := HR5.out.at_.free a (by omega)
        rw [hy9] at c8; rw [HPE.out.piv] at c9
        obtain ⟨v9, hv9⟩ := cell?_setCell_some (w := w5) (p := ⟨b, off + g, none⟩) (x := .int .u32 p) (q := ⟨b, off + a, none⟩) c9
        have ig : (g : Int) < (n : Int) := by omega
        have ig0 : (0 : Int) ≤ (g : Int) := by omega
        have HS9 := Lib.hid (HR5.out.swap (i := g) (j := a) (by omega) (by omega) HPE.out.piv hy9)
        have HSW9 := Lib.hid (HSW.out.trans (Sw.one e (i := g) (j := a) (by omega) (by omega) (by omega) (by omega)))
        clear hy9 hg
        simp only [eg]
        go_wp2_with fail
        go_region
        go_wp2_with fail
        exact bodyPost_ret (v := .tuple #[.int .i64 g, .bool true]) (by simp [results, Tryd.results47, go_sem]) rfl ⟨g, _, true, rfl, hag.1, hag.2, HSW9.out, HDN.out.1, HDN.out.2, HS9.out⟩
end Srt
end Go.Proofs.YtgpcbiballdioaaDoor
