/- The walk of FoldEnds. -/
import Derived.Test.YtgmmgmhogacocaaLawsFoldB
namespace Go.Proofs.Ytgmmgmhogacocaa
open Go.ChangeShapes Go.WideShapes Go.ChangeAt Go.RowKit
open Acm
set_option linter.unusedVariables false
theorem walkFoldEnds (A : Option Addr) (c : Nat) (zs : List Int) (w : World) (hl : zs.length ≤ c) (hc : c ≤ 9223372036854775807) (hr : Row w A (zs.map (Value.int .i64))) :
    Calls Try.prog 7 #[.slice A zs.length c] w (Yes w) := by
  obtain ⟨ys, hys⟩ : ∃ ys, ys = zs.take 2000 := ⟨_, rfl⟩
  have y1 : ys.length ≤ 2000 := by rw [hys, List.length_take]; omega
  have hyr : Row w A (ys.map (Value.int .i64)) := by rw [hys, List.map_take]; exact hr.first 2000
  obtain ⟨f2, f3, f4⟩ := ends_val (l := ys) (by omega)
  have f1 := count (l := ys) (by omega)
  obtain ⟨a1, ha1⟩ : ∃ a, a = all 1 ys := ⟨_, rfl⟩
  obtain ⟨a3, ha3⟩ : ∃ a, a = all 3 ys := ⟨_, rfl⟩
  obtain ⟨a4, ha4⟩ : ∃ a, a = all 4 ys := ⟨_, rfl⟩
  obtain ⟨a5, ha5⟩ : ∃ a, a = all 5 ys := ⟨_, rfl⟩
  rw [← ha1] at f1
  rw [← ha3, ← ha4, ← ha5] at f2
  rw [← ha3, ← ha4] at f3
  rw [← ha3] at f4
  obtain ⟨lo, hlo⟩ : ∃ v, v = val 3 a3 := ⟨_, rfl⟩
  obtain ⟨hi, hhi⟩ : ∃ v, v = val 4 a4 := ⟨_, rfl⟩
  rw [← hlo, ← hhi] at f2 f3
  rw [← hlo] at f4
  have HS := Lib.hid (show Calls Try.prog 9 #[.slice A zs.length c] w fun e w' => e = .returned (.slice A ys.length c) ∧ w = w' from hys ▸ lwShort A c zs w hl hc hr)
  have HA1 := Lib.hid (fun w' (hb : Below w.heap.size w w') => gives_ac (ha1 ▸ foldAll 1 A c ys w' (hyr.below hb) (by omega)))
  have HA3 := Lib.hid (fun w' (hb : Below w.heap.size w w') => gives_ac (ha3 ▸ foldAll 3 A c ys w' (hyr.below hb) (by omega)))
  have HA4 := Lib.hid (fun w' (hb : Below w.heap.size w w') => gives_ac (ha4 ▸ foldAll 4 A c ys w' (hyr.below hb) (by omega)))
  have HA5 := Lib.hid (fun w' (hb : Below w.heap.size w w') => gives_ac (ha5 ▸ foldAll 5 A c ys w' (hyr.below hb) (by omega)))
  have HV1 := Lib.hid (fun w' => gives_al (f1 ▸ foldVal 1 a1 w'))
  have HV3 := Lib.hid (fun w' => gives_al (hlo ▸ foldVal 3 a3 w'))
  have HV4 := Lib.hid (fun w' => gives_al (hhi ▸ foldVal 4 a4 w'))
  have HV5 := Lib.hid (show ∀ w', Calls Try.prog 14 #[.int .i64 5, acV a5] w' (Gives (.int .i64 (wrap64 (hi - lo))) w') from fun w' => gives_al ((f2.trans (show wr (hi - lo) = wrap64 (hi - lo) from rfl)) ▸ foldVal 5 a5 w'))
  have HR := Lib.hid (fun w => gives_of (foldRight 1 w))
  have h1 : isK 1 = true := rfl
  have HF3 := Lib.hid f3
  have HF4 := Lib.hid f4
  have HYR := Lib.hid hyr
  clear hys ha1 ha3 ha4 ha5 f1 f2 f3 f4 hlo hhi hyr hr hl hc
  by_cases h0 : ys.length = 0
  all_goals
    have H0 := Lib.hid h0
    first | have hz : ((ys.length : Int) == 0) = true := eq_b (by omega) | have hz : ((ys.length : Int) == 0) = false := ne_b (by omega)
    clear h0
    go_enter Try.func7, Try.ntmps7
    go_wp2_with fail
    refine HS.out.mono ?_
    rintro e w1 ⟨rfl, rfl⟩
    go_wp2_with fail
    refine (HA3.out _ (Below.refl _ _)).mono ?_
    rintro e w2 ⟨rfl, hb2⟩
    have B2 := Lib.hid hb2
    clear hb2
    go_wp2_with fail
    refine (HV3.out _).mono ?_
    rintro e w3 ⟨rfl, hb3⟩
    have B3 := Lib.hid (below_next B2.out hb3)
    clear hb3 B2
    go_wp2_with fail
    refine (HA4.out _ B3.out).mono ?_
    rintro e w4 ⟨rfl, hb4⟩
    have B4 := Lib.hid (below_next B3.out hb4)
    clear hb4 B3
    go_wp2_with fail
    refine (HV4.out _).mono ?_
    rintro e w5 ⟨rfl, hb5⟩
    have B5 := Lib.hid (below_next B4.out hb5)
    clear hb5 B4
    go_wp2_with fail
    refine (HA1.out _ B5.out).mono ?_
    rintro e w6 ⟨rfl, hb6⟩
    have B6 := Lib.hid (below_next B5.out hb6)
    clear hb6 B5
    go_wp2_with fail
    refine (HV1.out _).mono ?_
    rintro e w7 ⟨rfl, hb7⟩
    have B7 := Lib.hid (below_next B6.out hb7)
    clear hb7 B6
    go_wp2_with fail
    refine (HA5.out _ B7.out).mono ?_
    rintro e w8 ⟨rfl, hb8⟩
    have B8 := Lib.hid (below_next B7.out hb8)
    clear hb8 B7
    go_wp2_with fail
    refine (HV5.out _).mono ?_
    rintro e w9 ⟨rfl, hb9⟩
    have B9 := Lib.hid (below_next B8.out hb9)
    have HR9 := Lib.hid (HYR.out.below B9.out)
    clear hb9 B8
    go_wp2_with fail
    go_loop [5, 36] (fun sv i => ∃ j : Nat, j ≤ ys.length ∧ i = .int .i64 j ∧ sv = .bool (saw ys lo j)) (fun _ i => ys.length - (intOf i).toNat)
    case atStart => exact ⟨0, Nat.zero_le _, rfl, by first | exact congrArg Value.bool (saw_nil lo H0.out 0).symm | exact congrArg Value.bool (saw_0 lo H0.out).symm⟩
    case round =>
      obtain ⟨j, hj, rfl, rfl⟩ := hrel
      by_cases hlt : j < ys.length
      · obtain ⟨x, b, off, rfl, hx, hc⟩ := HR9.out.ints hlt
        have HN := Lib.hid (saw_next (v := lo) hx)
        obtain ⟨g1, g2⟩ := HF3.out x (List.mem_of_getElem? hx)
        clear hx
        obtain ⟨q, hq⟩ : ∃ q, q = saw ys lo j := ⟨_, rfl⟩
        rw [← hq] at HN ⊢
        have HQ := Lib.hid hq
        clear hq
        have d1 : decide (x < lo) = false := decide_eq_false (by omega)
        cases q
        · by_cases hxl : x = lo
          · have HE : Hid ((x == lo) = true) := Lib.hid (eq_b hxl)
            have hxe : (x == lo) = true := eq_b hxl
            clear hxl
            go_wp2_with fail
            go_round
            case rel => exact ⟨j + 1, by omega, by go_num, by rw [HN.out, HE.out]; rfl⟩
            case measure => simp [intOf]; omega
          · have HE : Hid ((x == lo) = false) := Lib.hid (ne_b hxl)
            have hxe : (x == lo) = false := ne_b hxl
            clear hxl
            go_wp2_with fail
            go_round
            case rel => exact ⟨j + 1, by omega, by go_num, by rw [HN.out, HE.out]; rfl⟩
            case measure => simp [intOf]; omega
        · go_wp2_with fail
          go_round
          case rel => exact ⟨j + 1, by omega, by go_num, by rw [HN.out]; rfl⟩
          case measure => simp [intOf]; omega
      · obtain rfl : ys.length = j := by omega
        have hse : saw ys lo ys.length = true := by first | exact saw_nil lo H0.out _ | exact saw_all (HF4.out (by have := H0.out; omega))
        rw [hse]
        go_wp2_with fail
        refine (HR.out _).mono ?_
        rw [h1]
        rintro e w10 ⟨rfl, hb10⟩
        have B10 := Lib.hid (below_next B9.out hb10)
        clear hb10
        go_wp2_with fail
        go_ret
        exact ⟨rfl, B10.out⟩
theorem lawFoldEnds : Lift.Owes 7 [22] := by
  intro H enc W base args ds ps hval hA _ _
  obtain ⟨v0, d0, rfl, rfl, h0⟩ := trodAll_one hA
  obtain ⟨A, c, zs, rfl, hl, hm, hr, _, _⟩ := openInts Try.underlying22 Try.underlying2 cells_i64f (hval 0 _ v0 rfl rfl) h0
  exact walkFoldEnds A c zs W hl (by simp only [maxLen] at hm; omega) hr
end Go.Proofs.Ytgmmgmhogacocaa
