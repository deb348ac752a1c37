/- cmp.Less of 32-bit numbers; the insertion sort. -/
import Derived.Test.YtgpcbiballdioaaDoorSrtMath
import Derived.Test.YtgpcbiballdioaaDoorStill
import Derived.Test.YtgpcbiballdioaaDoorRows
import Derived.BigQuiet
namespace Go.Proofs.YtgpcbiballdioaaDoor
open Go.RowKit
set_option linter.unusedVariables false
set_option maxRecDepth 8000
namespace Srt
theorem uNaN (x : Int) (w : World) : Calls Tryd.prog 59 #[.int .u32 x] w fun e w' => e = .returned (.bool false) ∧ w' = w := by
  have e1 := nb0 (rfl : x = x)
  go_enter Tryd.func59, Tryd.ntmps59
  go_wp2_with fail
  go_ret
  exact ⟨by first | rfl | (simp; done), rfl⟩
theorem uLess (x y : Int) (w : World) : Calls Tryd.prog 45 #[.int .u32 x, .int .u32 y] w fun e w' => e = .returned (.bool (decide (x < y))) ∧ w' = w := by
  have HX := Lib.hid (fun w => uNaN x w)
  go_enter Tryd.func45, Tryd.ntmps45
  go_wp2_with fail
  refine (HX.out _).mono ?_
  rintro e w1 ⟨rfl, rfl⟩
  go_wp2_with fail
  go_ret
  exact ⟨by first | rfl | (simp; done), rfl⟩
theorem uLessT {x y : Int} (h : x < y) (w : World) : Calls Tryd.prog 45 #[.int .u32 x, .int .u32 y] w fun e w' => e = .returned (.bool true) ∧ w' = w := by
  have := uLess x y w
  rwa [decide_eq_true h] at this
theorem uLessF {x y : Int} (h : ¬ x < y) (w : World) : Calls Tryd.prog 45 #[.int .u32 x, .int .u32 y] w fun e w' => e = .returned (.bool false) ∧ w' = w := by
  have := uLess x y w
  rwa [decide_eq_false h] at this
/-- The row holds d, and since W0 nothing else has turned. -/
structure Rw (b off n : Nat) (W0 : World) (d : Fn) (w : World) : Prop where
  at_ : At b off n d w
  only : Only b W0 w
namespace Rw
variable {b off n : Nat} {W0 w w' : World} {d : Fn}
theorem start (h : At b off n d w) : Rw b off n w d w := ⟨h, Only.refl _ _⟩
theorem drew (h : Rw b off n W0 d w) : Rw b off n W0 d w.drew := ⟨h.at_.drew, h.only.drew⟩
theorem drewN (h : Rw b off n W0 d w) (m : Nat) : Rw b off n W0 d (w.drewN m) := ⟨h.at_.drewN m, h.only.drewN m⟩
theorem below (h : Rw b off n W0 d w) (hb : Below w.heap.size w w') : Rw b off n W0 d w' := ⟨h.at_.below hb, h.only.trans (Only.of_below hb)⟩
theorem next {e : Fn} (h : Rw b off n W0 d w) (k : Rw b off n w e w') : Rw b off n W0 e w' := ⟨k.at_, h.only.trans k.only⟩
theorem swap (h : Rw b off n W0 d w) {i j : Nat} {x y : Int} (hi : i < n) (hj : j < n) (hx : d j = x) (hy : d i = y) :
    Rw b off n W0 (sw d i j) ((w.setCell ⟨b, off + i, none⟩ (.int .u32 x)).setCell ⟨b, off + j, none⟩ (.int .u32 y)).drew := by
  subst hx hy
  have h1 := ((h.at_.set hi (d j)).set hj (d i)).drew
  exact ⟨h1, ((h.only.set _ _).set _ _).drew⟩
end Rw
/-- Sorted from a to c, nothing else turned. -/
def GivesS (b off n a c : Nat) (d : Fn) (W0 : World) (e : Ending) (w' : World) : Prop :=
  e = .returned (.tuple #[]) ∧ ∃ d', Sw a c d d' ∧ Sorted a c d' ∧ Rw b off n W0 d' w'
set_option maxRecDepth 100000 in
set_option maxHeartbeats 2000000 in
theorem uIns (b off n cap a c : Nat) (d : Fn) (w : World) (h : At b off n d w) (hac : a ≤ c) (hc : c ≤ n) (hn : n ≤ 1000) :
    Calls Tryd.prog 39 #[.slice (some ⟨b, off, none⟩) n cap, .int .i64 a, .int .i64 c] w (GivesS b off n a c d w) := by
  have R0 := Lib.hid (Rw.start h)
  clear h
  go_enter Tryd.func39, Tryd.ntmps39
  go_wp2_with fail
  go_loopw [6, 7] (fun s6 s7 wr => ∃ (i : Nat) (e : Fn), s6 = .int .i64 i ∧ a + 1 ≤ i ∧ (i ≤ c ∨ i = a + 1) ∧ Sw a c d e ∧ Sorted a i e ∧ Rw b off n w e wr) (fun s6 _ _ => c - (intOf s6).toNat)
  case atStart => exact ⟨a + 1, d, by go_num, Nat.le_refl _, .inr rfl, .refl _, fun i j h1 h2 h3 => by rw [show i = j by omega]; exact Int.le_refl _, R0.out⟩
  case round =>
    obtain ⟨i, e, rfl, hai, hic, hsw, hso, hrw⟩ := hrel
    have HSW := Lib.hid hsw; have HSO := Lib.hid hso; have HRW := Lib.hid hrw
    clear hsw hso hrw
    by_cases hlt : i < c
    · go_wp2_with fail
      go_loopw [7] (fun s7 wr2 => ∃ (j : Nat) (f : Fn), s7 = .int .i64 j ∧ a ≤ j ∧ j ≤ i ∧ Sw a c d f ∧ Hole a i j f ∧ Rw b off n w f wr2) (fun s7 _ => (intOf s7).toNat)
      case atStart => exact ⟨i, e, rfl, by omega, Nat.le_refl _, HSW.out, Hole.start HSO.out, HRW.out⟩
      case round =>
        obtain ⟨j, f, rfl, haj, hji, hsw, hho, hrw⟩ := hrel
        have HSW := Lib.hid hsw; have HHO := Lib.hid hho; have HRW := Lib.hid hrw
        clear hsw hho hrw
        by_cases hja : j = a
        · subst hja
          have b1 : ¬ (j : Int) < j := by omega
          have HDO := Lib.hid (HHO.out.done (.inl rfl) (Nat.le_refl _))
          go_wp2_with fail
          go_quiet (first | (go_at_call 45; refine Calls.quiet_of_same (uLess _ _ _)))
          go_wp2_with fail
          go_roundw
          case rel => exact ⟨i + 1, f, by go_num, by omega, by omega, HSW.out, HDO.out, HRW.out.drewN _⟩
          case measure => simp [intOf]; omega
        · obtain ⟨k, rfl⟩ : ∃ k, j = k + 1 := ⟨j - 1, by omega⟩
          obtain ⟨x, hx⟩ : ∃ x, f (k + 1) = x := ⟨_, rfl⟩
          obtain ⟨y, hy⟩ : ∃ y, f k = y := ⟨_, rfl⟩
          have c1 := HRW.out.at_.cell (k + 1) (by omega)
          have c2 := HRW.out.at_.cell k (by omega)
          have f1 := HRW.out.at_.free (k + 1) (by omega)
          have f2 := HRW.out.at_.free k (by omega)
          rw [hx] at c1; rw [hy] at c2
          have b1 : (a : Int) < (k : Int) + 1 := by omega
          have b2 : (0 : Int) ≤ (k : Int) := by omega
          have b3 : (k : Int) < (n : Int) := by omega
          have b4 : (k : Int) + 1 < (n : Int) := by omega
          have b5 : (0 : Int) ≤ (k : Int) + 1 := by omega
          have HX := Lib.hid hx; have HY := Lib.hid hy
          clear hx hy
          by_cases hxy : x < y
          · have HL := Lib.hid (fun w => uLessT hxy w)
            have HNX := Lib.hid (HHO.out.next (by omega) (by omega) (by rw [HX.out, HY.out]; exact hxy))
            go_wp2_with fail
            go_quiet (first | (go_at_call 45; refine Calls.quiet_of_same (HL.out _)))
            go_wp2_with fail
            obtain ⟨w2, hw2⟩ : ∃ w2, w2 = wr.drewN nq := ⟨_, rfl⟩
            have HR2 := Lib.hid (show Rw b off n w f w2 from hw2 ▸ HRW.out.drewN nq)
            rw [← hw2]
            clear hw2 c1 c2 f1 f2
            have c1 := HR2.out.at_.cell (k + 1) (by omega)
            have c2 := HR2.out.at_.cell k (by omega)
            have f1 := HR2.out.at_.free (k + 1) (by omega)
            have f2 := HR2.out.at_.free k (by omega)
            rw [HX.out] at c1; rw [HY.out] at c2
            go_region
            have HS2 := Lib.hid (HR2.out.swap (i := k + 1) (j := k) (by omega) (by omega) HY.out HX.out)
            go_wp2_with fail
            go_roundw
            case rel => exact ⟨k, sw f (k + 1) k, by go_num, by omega, by omega, HSW.out.trans (Sw.one f (by omega) (by omega) (by omega) (by omega)), HNX.out, HS2.out⟩
            case measure => simp [intOf]
          · have HL := Lib.hid (fun w => uLessF hxy w)
            have HDO := Lib.hid (HHO.out.done (.inr ⟨k, rfl, by rw [HX.out, HY.out]; exact hxy⟩) haj)
            go_wp2_with fail
            go_quiet (first | (go_at_call 45; refine Calls.quiet_of_same (HL.out _)))
            go_wp2_with fail
            go_roundw
            case rel => exact ⟨i + 1, f, by go_num, by omega, by omega, HSW.out, HDO.out, HRW.out.drewN _⟩
            case measure => simp [intOf]; omega
    · have hge : c ≤ i := by omega
      go_wp2_with fail
      go_end0
      exact ⟨rfl, e, HSW.out, fun p q h1 h2 h3 => HSO.out p q h1 h2 (by omega), HRW.out⟩
end Srt
end Go.Proofs.YtgpcbiballdioaaDoor
