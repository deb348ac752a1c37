/- Partition by what is equal -/
import Derived.Test.YtgpcbiballdioaaDoorSrtRev
namespace Go.Proofs.YtgpcbiballdioaaDoor
open Go.RowKit
set_option linter.unusedVariables false
set_option maxRecDepth 8000
namespace Srt
def Ll (p x : Int) : Prop := x < p
def Le (p x : Int) : Prop := x ≤ p
/-- Between two scans: the pivot at a, what L holds of up to i, what it does not from jj on. -/
structure Pt (L : Int → Prop) (a c i jj : Nat) (p : Int) (e : Fn) : Prop where
  piv : e a = p
  lo : ∀ k, a < k → k < i → L (e k)
  hi : ∀ k, jj ≤ k → k < c → ¬ L (e k)
namespace Pt
variable {L : Int → Prop} {a c i jj k : Nat} {p : Int} {e : Fn}
theorem up (h : Pt L a c i jj p e) (hx : L (e i)) : Pt L a c (i + 1) jj p e := ⟨h.piv, fun k h1 h2 => by
  by_cases e1 : k = i
  · subst e1; exact hx
  · exact h.lo k h1 (by omega), h.hi⟩
theorem down (h : Pt L a c i (k + 1) p e) (_ : k < c) (hx : ¬ L (e k)) : Pt L a c i k p e := ⟨h.piv, h.lo, fun m h1 h2 => by
  by_cases e1 : m = k
  · subst e1; exact hx
  · exact h.hi m (by omega) h2⟩
theorem swap (h : Pt L a c i (k + 1) p e) (ha : a < i) (hik : i < k) (_ : k < c) (hx : ¬ L (e i)) (hy : L (e k)) : Pt L a c (i + 1) k p (sw e i k) := by
  refine ⟨by rw [sw_o _ (by omega) (by omega)]; exact h.piv, fun m h1 h2 => ?_, fun m h1 h2 => ?_⟩
  · by_cases e1 : m = i
    · subst e1; rw [sw_i]; exact hy
    · rw [sw_o _ e1 (by omega)]; exact h.lo m h1 (by omega)
  · by_cases e1 : m = k
    · subst e1; rw [sw_j]; exact hx
    · rw [sw_o _ (by omega) e1]; exact h.hi m (by omega) h2
end Pt
def GivesE (b off n a c : Nat) (q : Int) (d : Fn) (W0 : World) (e : Ending) (w' : World) : Prop :=
  ∃ (m : Nat) (d' : Fn), e = .returned (.int .i64 m) ∧ a < m ∧ m ≤ c ∧ Sw a c d d' ∧ (∀ k, a ≤ k → k < m → d' k ≤ q) ∧ (∀ k, m ≤ k → k < c → q < d' k) ∧ Rw b off n W0 d' w'
set_option maxRecDepth 100000 in
set_option maxHeartbeats 8000000 in
theorem uPeq (b off n cap a c pv : Nat) (d : Fn) (w : World) (h : At b off n d w) (hap : a ≤ pv) (hpc : pv < c) (hc : c ≤ n) (hn : n ≤ 1000) :
    Calls Tryd.prog 46 #[.slice (some ⟨b, off, none⟩) n cap, .int .i64 a, .int .i64 c, .int .i64 pv] w (GivesE b off n a c (d pv) d w) := by
  obtain ⟨p, hp⟩ : ∃ p, d pv = p := ⟨_, rfl⟩
  obtain ⟨z, hz⟩ : ∃ z, d a = z := ⟨_, rfl⟩
  have HPQ := Lib.hid hp
  have R0 := Lib.hid (Rw.start h)
  have c1 := h.cell a (by omega)
  have c2 := h.cell pv (by omega)
  have f1 := h.free a (by omega)
  have f2 := h.free pv (by omega)
  rw [hz] at c1; rw [hp] at c2
  obtain ⟨v3, hy3⟩ := cell?_setCell_some (w := w) (p := ⟨b, off + a, none⟩) (x := .int .u32 p) (q := ⟨b, off + pv, none⟩) c2
  have HS0 := Lib.hid (R0.out.swap (i := a) (j := pv) (by omega) (by omega) hp hz)
  have HSW0 := Lib.hid (Sw.one d (a := a) (c := c) (i := a) (j := pv) (by omega) (by omega) (by omega) (by omega))
  have HPV := Lib.hid (show sw d a pv a = p by rw [sw_i]; exact hp)
  have ia : (a : Int) < (n : Int) := by omega
  have ip : (pv : Int) < (n : Int) := by omega
  clear h hp hz
  go_enter Tryd.func46, Tryd.ntmps46
  go_wp2_with fail
  go_region
  obtain ⟨w1, hw1⟩ : ∃ w1, w1 = ((w.setCell ⟨b, off + a, none⟩ (.int .u32 p)).setCell ⟨b, off + pv, none⟩ (.int .u32 z)).drew := ⟨_, rfl⟩
  rw [← hw1] at HS0 ⊢
  clear hw1 c1 c2 f1 f2 hy3
  go_wp2_with fail
  go_loopw [9, 10] (fun si sj wr => ∃ (i jj : Nat) (e : Fn), si = .int .i64 i ∧ sj = .int .i64 ((jj : Int) - 1) ∧ a + 1 ≤ i ∧ i ≤ jj ∧ jj ≤ c ∧ Sw a c d e ∧ Pt (Le p) a c i jj p e ∧ Rw b off n w e wr) (fun _ sj _ => (intOf sj + 1).toNat)
  case atStart => exact ⟨a + 1, c, sw d a pv, by go_num, by go_num, by omega, by omega, Nat.le_refl _, HSW0.out, ⟨HPV.out, fun k h1 h2 => by omega, fun k h1 h2 => by omega⟩, HS0.out⟩
  case round =>
    obtain ⟨i, jj, e, rfl, rfl, hai, hij, hjc, hsw, hpt, hrw⟩ := hrel
    have HSW := Lib.hid hsw; have HPT := Lib.hid hpt; have HRW := Lib.hid hrw
    clear hsw hpt hrw
    (try go_wp2_with fail)
    go_loopw [9] (fun si w2 => ∃ i2 : Nat, si = .int .i64 i2 ∧ i ≤ i2 ∧ i2 ≤ jj ∧ Pt (Le p) a c i2 jj p e ∧ Rw b off n w e w2) (fun si _ => jj - (intOf si).toNat)
    case atStart => exact ⟨i, rfl, Nat.le_refl _, hij, HPT.out, HRW.out⟩
    case round =>
      obtain ⟨i2, rfl, hi2, hij2, hpt2, hrw2⟩ := hrel
      have HPT2 := Lib.hid hpt2; have HRW2 := Lib.hid hrw2
      clear hpt2 hrw2
      by_cases hlt : i2 < jj
      · have b1 : (i2 : Int) ≤ (jj : Int) - 1 := by omega
        have i1 : (i2 : Int) < (n : Int) := by omega
        obtain ⟨x, hx⟩ : ∃ x, e i2 = x := ⟨_, rfl⟩
        have c1 := HRW2.out.at_.cell i2 (by omega)
        have c2 := HRW2.out.at_.cell a (by omega)
        rw [hx] at c1; rw [HPT2.out.piv] at c2
        have HX := Lib.hid hx
        clear hx
        by_cases hxp : ¬ p < x
        · have HL2 := Lib.hid (fun w => uLessF hxp w)
          have HN2 := Lib.hid (HPT2.out.up (by unfold Le; rw [HX.out]; omega))
          go_wp2_with fail
          go_quiet (first | (go_at_call 45; refine Calls.quiet_of_same (HL2.out _)))
          go_wp2_with fail
          go_roundw
          case rel => exact ⟨i2 + 1, by go_num, by omega, by omega, HN2.out, HRW2.out.drewN _⟩
          case measure => simp [intOf]; omega
        · have HL2 := Lib.hid (fun w => uLessT (show p < x by omega) w)
          have HLI := Lib.hid (show ¬ (Le p) (e i2) from by unfold Le; rw [HX.out]; omega)
          go_wp2_with fail
          go_quiet (first | (go_at_call 45; refine Calls.quiet_of_same (HL2.out _)))
          go_wp2_with fail
          clear c1 c2
          go_loopw [10] (fun sj w3 => ∃ j3 : Nat, sj = .int .i64 ((j3 : Int) - 1) ∧ i2 ≤ j3 ∧ j3 ≤ jj ∧ Pt (Le p) a c i2 j3 p e ∧ Rw b off n w e w3) (fun sj _ => (intOf sj + 1).toNat)
          case atStart => exact ⟨jj, rfl, by omega, Nat.le_refl _, HPT2.out, HRW2.out.drewN _⟩
          case round =>
            obtain ⟨j3, rfl, hij3, hj3, hpt3, hrw3⟩ := hrel
            have HPT3 := Lib.hid hpt3; have HRW3 := Lib.hid hrw3
            clear hpt3 hrw3
            by_cases hlt3 : i2 < j3
            · obtain ⟨k, rfl⟩ : ∃ k, j3 = k + 1 := ⟨j3 - 1, by omega⟩
              have e3 : ((k + 1 : Nat) : Int) - 1 = (k : Int) := by omega
              rw [e3]
              have b3 : (i2 : Int) ≤ (k : Int) := by omega
              have b4 : ¬ (k : Int) < (i2 : Int) := by omega
              have i3 : (k : Int) < (n : Int) := by omega
              obtain ⟨y, hy⟩ : ∃ y, e k = y := ⟨_, rfl⟩
              have c3 := HRW3.out.at_.cell k (by omega)
              have c4 := HRW3.out.at_.cell a (by omega)
              rw [hy] at c3; rw [HPT3.out.piv] at c4
              have HY := Lib.hid hy
              clear hy
              by_cases hyp : p < y
              · have HL3 := Lib.hid (fun w => uLessT hyp w)
                have HN3 := Lib.hid (HPT3.out.down (by omega) (by unfold Le; rw [HY.out]; omega))
                go_wp2_with fail
                go_quiet (first | (go_at_call 45; refine Calls.quiet_of_same (HL3.out _)))
                go_wp2_with fail
                go_roundw
                case rel => exact ⟨k, by go_num, by omega, by omega, HN3.out, HRW3.out.drewN _⟩
                case measure => simp [intOf]
              · have HL3 := Lib.hid (fun w => uLessF hyp w)
                have HLK := Lib.hid (show (Le p) (e k) from by unfold Le; rw [HY.out]; omega)
                have hik : i2 < k := by
                  rcases Nat.lt_or_ge i2 k with h | h
                  · exact h
                  · exfalso
                    have h2 : i2 = k := by omega
                    exact HLI.out (h2 ▸ HLK.out)
                have HSWP := Lib.hid (HPT3.out.swap (by omega) hik (by omega) HLI.out HLK.out)
                go_wp2_with fail
                go_quiet (first | (go_at_call 45; refine Calls.quiet_of_same (HL3.out _)))
                go_wp2_with fail
                obtain ⟨w5, hw5⟩ : ∃ w5, w5 = wr.drewN nq := ⟨_, rfl⟩
                have HR5 := Lib.hid (show Rw b off n w e w5 from hw5 ▸ HRW3.out.drewN nq)
                rw [← hw5]
                clear hw5 c3 c4
                have c3 := HR5.out.at_.cell k (by omega)
                have c5 := HR5.out.at_.cell i2 (by omega)
                have f3 := HR5.out.at_.free k (by omega)
                have f5 := HR5.out.at_.free i2 (by omega)
                rw [HY.out] at c3; rw [HX.out] at c5
                have HS5 := Lib.hid (HR5.out.swap (i := i2) (j := k) (by omega) (by omega) HY.out HX.out)
                have HSW5 := Lib.hid (HSW.out.trans (Sw.one e (i := i2) (j := k) (by omega) (by omega) (by omega) (by omega)))
                go_region
                go_wp2_with fail
                go_roundw
                case rel => exact ⟨i2 + 1, k, sw e i2 k, by go_num, by go_num, by omega, by omega, by omega, HSW5.out, HSWP.out, HS5.out⟩
                case measure => simp [intOf]; omega
            · have b3 : ¬ (i2 : Int) ≤ (j3 : Int) - 1 := by omega
              have b4 : (j3 : Int) - 1 < (i2 : Int) := by omega
              have hj3e : j3 = i2 := by omega
              subst hj3e
              have b5 : decide ((j3 : Int) ≤ (j3 : Int) - 1) = false := decide_eq_false (by omega)
              have HPE := HPT3
              go_wp2_with fail
              go_quiet (first | (go_at_call 45; refine Calls.quiet_of_same (uLess _ _ _)))
              go_wp2_with fail
              obtain ⟨w5, hw5⟩ : ∃ w5, w5 = wr.drewN nq := ⟨_, rfl⟩
              have HR5 := Lib.hid (show Rw b off n w e w5 from hw5 ▸ HRW3.out.drewN nq)
              rw [← hw5]
              clear hw5
              go_wp2_with fail
              go_ret
              exact ⟨j3, e, rfl, by omega, by omega, HSW.out, fun k h1 h2 => by
                by_cases e1 : k = a
                · subst e1; rw [HPE.out.piv, HPQ.out]; exact Int.le_refl _
                · have h3 := HPE.out.lo k (by omega) h2; unfold Le at h3; rw [HPQ.out]; exact h3, fun k h1 h2 => by have h3 := HPE.out.hi k h1 h2; unfold Le at h3; rw [HPQ.out]; omega, HR5.out⟩
      · have b1 : ¬ (i2 : Int) ≤ (jj : Int) - 1 := by omega
        have hje : i2 = jj := by omega
        subst hje
        have b5 : decide ((i2 : Int) ≤ (i2 : Int) - 1) = false := decide_eq_false (by omega)
        go_wp2_with fail
        go_quiet (first | (go_at_call 45; refine Calls.quiet_of_same (uLess _ _ _)))
        go_wp2_with fail
        go_loopw [10] (fun sj w3 => sj = .int .i64 ((i2 : Int) - 1) ∧ Rw b off n w e w3) (fun _ _ => 0)
        case atStart => exact ⟨rfl, HRW2.out.drewN _⟩
        case round =>
          obtain ⟨rfl, hrw3⟩ := hrel
          have HRW3 := Lib.hid hrw3
          clear hrw3
          have b4 : (i2 : Int) - 1 < (i2 : Int) := by omega
          have HPE := HPT2
          go_wp2_with fail
          go_quiet (first | (go_at_call 45; refine Calls.quiet_of_same (uLess _ _ _)))
          go_wp2_with fail
          obtain ⟨w5, hw5⟩ : ∃ w5, w5 = wr.drewN nq := ⟨_, rfl⟩
          have HR5 := Lib.hid (show Rw b off n w e w5 from hw5 ▸ HRW3.out.drewN nq)
          rw [← hw5]
          clear hw5
          go_wp2_with fail
          go_ret
          exact ⟨i2, e, rfl, by omega, by omega, HSW.out, fun k h1 h2 => by
            by_cases e1 : k = a
            · subst e1; rw [HPE.out.piv, HPQ.out]; exact Int.le_refl _
            · have h3 := HPE.out.lo k (by omega) h2; unfold Le at h3; rw [HPQ.out]; exact h3, fun k h1 h2 => by have h3 := HPE.out.hi k h1 h2; unfold Le at h3; rw [HPQ.out]; omega, HR5.out⟩
end Srt
end Go.Proofs.YtgpcbiballdioaaDoor
