/- The binary search of package pane, with both of its comparisons. -/
import Derived.Test.YtklpfifellghlaaPaneRightR
import Derived.Test.YtklpfifellghlaaPaneMrg
namespace Go.Proofs.Ytklpfifellghlaa
open Go.RowKit
open Pan
set_option linter.unusedVariables false
set_option maxRecDepth 100000 in
set_option maxHeartbeats 2000000 in
theorem paFindM (xs : List Pn) (A : Option Addr) (c : Nat) (m : Int) (p : Nat) (w : World) (hA : Row w A (pc xs)) (hl : xs.length ≤ 100000) (hp : Cut xs (fun x => clN x m) p) :
    Calls Try.prog 33 #[.slice A xs.length c, .int .i64 m, .func (.func 34) #[] #[]] w
      fun e w' => e = .returned (.tuple #[.int .i64 p, .bool (Pan.hit xs (fun x => clN x m) p)]) ∧ Below w.heap.size w w' := by
  have HA := Lib.hid hA
  have HP := Lib.hid hp
  have hple := hp.le
  clear hA hp
  go_enter Try.func33, Try.ntmps33
  go_wp2_with fail
  go_loopw [8, 9] (fun l h wr => ∃ a b : Nat, l = .int .i64 a ∧ h = .int .i64 b ∧ a ≤ p ∧ p ≤ b ∧ b ≤ xs.length ∧ Below w.heap.size w wr) (fun l h _ => (intOf h).toNat - (intOf l).toNat)
  case atStart => exact ⟨0, xs.length, rfl, rfl, Nat.zero_le _, hple, Nat.le_refl _, Below.refl _ _⟩
  case round =>
    obtain ⟨a, b, rfl, rfl, h1, h2, h3, hb⟩ := hrel
    have HB := Lib.hid hb
    clear hb
    by_cases hlt : a < b
    · obtain ⟨j, hj⟩ : ∃ j, j = a + (b - a) / 2 := ⟨_, rfl⟩
      have g1 : a ≤ j := by omega
      have g2 : j < b := by omega
      have e0 : IntKind.i64.wrap ((b : Int) - a) = (b : Int) - a := wrap64_in (by omega) (by omega)
      have e1 : ((b : Int) - a).tdiv 2 = (j : Int) - a := by rw [Int.tdiv_eq_ediv_of_nonneg (by omega)]; omega
      have e2 : IntKind.i64.wrap ((j : Int) - a) = (j : Int) - a := wrap64_in (by omega) (by omega)
      have e3 : (a : Int) + ((j : Int) - a) = j := by omega
      have e4 : IntKind.i64.wrap (j : Int) = j := wrap64_in (by omega) (by omega)
      have HJ := Lib.hid hj
      clear hj
      obtain ⟨x, hx⟩ : ∃ x, xs[j]? = some x := ⟨_, List.getElem?_eq_getElem (by omega)⟩
      obtain ⟨bb, off, rfl, c0, c1, c2, c3, c4, c5⟩ := (HA.out.below HB.out).pn hx
      have HX := Lib.hid hx
      have g3 : (0 : Int) ≤ j := by omega
      have g4 : (j : Int) < xs.length := by omega
      have e5 : IntKind.i64.wrap ((j : Int) + 1) = (j : Int) + 1 := wrap64_in (by omega) (by omega)
      clear hx
      by_cases hc : clN x m < 0
      · have hjp : j < p := by
          rcases Nat.lt_or_ge j p with h | h
          · exact h
          · exact absurd hc (HP.out.hi j x h HX.out)
        go_wp2_with (go_at_call 34; refine (paClosing _ _ _).mono ?_; rintro e w' ⟨rfl, rfl⟩)
        go_roundw
        case rel => exact ⟨j + 1, b, by go_num, rfl, by omega, h2, h3, below_al (below_al HB.out)⟩
        case measure => simp [intOf]; have := HJ.out; omega
      · have hjp : p ≤ j := by
          rcases Nat.lt_or_ge j p with h | h
          · exact absurd (HP.out.lo j x h HX.out) hc
          · exact h
        have hc' : 0 ≤ clN x m := by omega
        go_wp2_with (go_at_call 34; refine (paClosing _ _ _).mono ?_; rintro e w' ⟨rfl, rfl⟩)
        go_roundw
        case rel => exact ⟨a, j, rfl, rfl, h1, hjp, by omega, below_al (below_al HB.out)⟩
        case measure => simp [intOf]; have := HJ.out; omega
    · have e1 : a = p := by omega
      have e2 : a = b := by omega
      subst e2
      subst e1
      by_cases hlt2 : a < xs.length
      · obtain ⟨x, hx⟩ : ∃ x, xs[a]? = some x := ⟨_, List.getElem?_eq_getElem hlt2⟩
        obtain ⟨bb, off, rfl, c0, c1, c2, c3, c4, c5⟩ := (HA.out.below HB.out).pn hx
        have hh := Lib.hid (show Pan.hit xs (fun x => clN x m) a = decide (clN x m = 0) from by unfold Pan.hit; rw [hx])
        clear hx
        have g4 : (a : Int) < xs.length := by omega
        go_wp2_with (go_at_call 34; refine (paClosing _ _ _).mono ?_; rintro e w' ⟨rfl, rfl⟩)
        go_ret2
        exact ⟨by rw [hh.out]; first | rfl | (simp [BEq.beq]; done), below_al (below_al HB.out)⟩
      · have hh := Lib.hid (show Pan.hit xs (fun x => clN x m) a = false from by unfold Pan.hit; rw [List.getElem?_eq_none (by omega)])
        have g4 : decide ((a : Int) < xs.length) = false := decide_eq_false (by omega)
        go_wp2_with fail
        go_ret2
        exact ⟨by rw [hh.out]; rfl, HB.out⟩
set_option maxRecDepth 100000 in
set_option maxHeartbeats 2000000 in
theorem paFindP (xs : List Pn) (A : Option Addr) (c : Nat) (y : Pn) (p : Nat) (w : World) (hA : Row w A (pc xs)) (hl : xs.length ≤ 100000) (hp : Cut xs (fun x => ordN x.p y.p) p) :
    Calls Try.prog 39 #[.slice A xs.length c, paV y, .func (.func 31) #[] #[]] w
      fun e w' => e = .returned (.tuple #[.int .i64 p, .bool (Pan.hit xs (fun x => ordN x.p y.p) p)]) ∧ Below w.heap.size w w' := by
  have HA := Lib.hid hA
  have HP := Lib.hid hp
  have hple := hp.le
  clear hA hp
  go_enter Try.func39, Try.ntmps39
  go_wp2_with fail
  go_loopw [8, 9] (fun l h wr => ∃ a b : Nat, l = .int .i64 a ∧ h = .int .i64 b ∧ a ≤ p ∧ p ≤ b ∧ b ≤ xs.length ∧ At1 w w.heap.size y wr) (fun l h _ => (intOf h).toNat - (intOf l).toNat)
  case atStart => exact ⟨0, xs.length, rfl, rfl, Nat.zero_le _, hple, Nat.le_refl _, new_pn _ _ _, below_al (Below.refl _ _)⟩
  case round =>
    obtain ⟨a, b, rfl, rfl, h1, h2, h3, hT, hb⟩ := hrel
    have HB := Lib.hid hb
    have HT := Lib.hid hT
    clear hb hT
    by_cases hlt : a < b
    · obtain ⟨j, hj⟩ : ∃ j, j = a + (b - a) / 2 := ⟨_, rfl⟩
      have g1 : a ≤ j := by omega
      have g2 : j < b := by omega
      have e0 : IntKind.i64.wrap ((b : Int) - a) = (b : Int) - a := wrap64_in (by omega) (by omega)
      have e1 : ((b : Int) - a).tdiv 2 = (j : Int) - a := by rw [Int.tdiv_eq_ediv_of_nonneg (by omega)]; omega
      have e2 : IntKind.i64.wrap ((j : Int) - a) = (j : Int) - a := wrap64_in (by omega) (by omega)
      have e3 : (a : Int) + ((j : Int) - a) = j := by omega
      have e4 : IntKind.i64.wrap (j : Int) = j := wrap64_in (by omega) (by omega)
      have HJ := Lib.hid hj
      clear hj
      obtain ⟨x, hx⟩ : ∃ x, xs[j]? = some x := ⟨_, List.getElem?_eq_getElem (by omega)⟩
      obtain ⟨bb, off, rfl, hX⟩ := (HA.out.below HB.out).pn hx
      have W2 := Lib.hid (show At2 w w.heap.size y bb (off + j * 6) x wr.drew from ⟨HT.out.drew, hX.drew, below_drewOf HB.out⟩)
      have HX := Lib.hid hx
      have HO := Lib.hid (fun w => paOrder x y w)
      have g3 : (0 : Int) ≤ j := by omega
      have g4 : (j : Int) < xs.length := by omega
      have e5 : IntKind.i64.wrap ((j : Int) + 1) = (j : Int) + 1 := wrap64_in (by omega) (by omega)
      clear hx hX
      by_cases hc : ordN x.p y.p < 0
      · have hjp : j < p := by
          rcases Nat.lt_or_ge j p with h | h
          · exact h
          · exact absurd hc (HP.out.hi j x h HX.out)
        go_wp2_with fail
        refine wide_all (At2 w w.heap.size y bb (off + j * 6) x) (by kernel_rfl) (by kernel_rfl) W2.out ?_
        repeat (first
          | go_big_quiet_skip
          | (go_big_quiet_want
             apply wide_op
             · (intro w5 h5; obtain ⟨⟨c0,c1,c2,c3,c4,c5⟩,⟨d0,d1,d2,d3,d4,d5⟩,hB5⟩ := id h5; go_simp; first | done | with_reducible rfl | ((refine (HO.out _).mono ?_; rintro e w6 ⟨rfl, hb6⟩; exact ⟨rfl, h5.next hb6⟩)))
             (try simp only [Act.put, List.setIfInBounds_toArray, List.set_cons_zero, List.set_cons_succ])
             go_big_quiet_on))
        refine wpQuiet_nil ?_
        intro w6 h6
        have H6 := Lib.hid h6
        clear h6
        go_wp2_with fail
        go_roundw
        case rel => exact ⟨j + 1, b, by go_num, rfl, by omega, h2, h3, H6.out.1, H6.out.2.2⟩
        case measure => simp [intOf]; have := HJ.out; omega
      · have hjp : p ≤ j := by
          rcases Nat.lt_or_ge j p with h | h
          · exact absurd (HP.out.lo j x h HX.out) hc
          · exact h
        have hc' : 0 ≤ ordN x.p y.p := by omega
        go_wp2_with fail
        refine wide_all (At2 w w.heap.size y bb (off + j * 6) x) (by kernel_rfl) (by kernel_rfl) W2.out ?_
        repeat (first
          | go_big_quiet_skip
          | (go_big_quiet_want
             apply wide_op
             · (intro w5 h5; obtain ⟨⟨c0,c1,c2,c3,c4,c5⟩,⟨d0,d1,d2,d3,d4,d5⟩,hB5⟩ := id h5; go_simp; first | done | with_reducible rfl | ((refine (HO.out _).mono ?_; rintro e w6 ⟨rfl, hb6⟩; exact ⟨rfl, h5.next hb6⟩)))
             (try simp only [Act.put, List.setIfInBounds_toArray, List.set_cons_zero, List.set_cons_succ])
             go_big_quiet_on))
        refine wpQuiet_nil ?_
        intro w6 h6
        have H6 := Lib.hid h6
        clear h6
        go_wp2_with fail
        go_roundw
        case rel => exact ⟨a, j, rfl, rfl, h1, hjp, by omega, H6.out.1, H6.out.2.2⟩
        case measure => simp [intOf]; have := HJ.out; omega
    · have e1 : a = p := by omega
      have e2 : a = b := by omega
      subst e2
      subst e1
      by_cases hlt2 : a < xs.length
      · obtain ⟨x, hx⟩ : ∃ x, xs[a]? = some x := ⟨_, List.getElem?_eq_getElem hlt2⟩
        obtain ⟨bb, off, rfl, hX⟩ := (HA.out.below HB.out).pn hx
        have hh := Lib.hid (show Pan.hit xs (fun x => ordN x.p y.p) a = decide (ordN x.p y.p = 0) from by unfold Pan.hit; rw [hx])
        have W2 := Lib.hid (show At2 w w.heap.size y bb (off + a * 6) x wr.drew from ⟨HT.out.drew, hX.drew, below_drewOf HB.out⟩)
        have HO := Lib.hid (fun w => paOrder x y w)
        clear hx hX
        have g3 : (0 : Int) ≤ a := by omega
        have g4 : (a : Int) < xs.length := by omega
        go_wp2_with fail
        refine wide_all (At2 w w.heap.size y bb (off + a * 6) x) (by kernel_rfl) (by kernel_rfl) W2.out ?_
        repeat (first
          | go_big_quiet_skip
          | (go_big_quiet_want
             apply wide_op
             · (intro w5 h5; obtain ⟨⟨c0,c1,c2,c3,c4,c5⟩,⟨d0,d1,d2,d3,d4,d5⟩,hB5⟩ := id h5; go_simp; first | done | with_reducible rfl | ((refine (HO.out _).mono ?_; rintro e w6 ⟨rfl, hb6⟩; exact ⟨rfl, h5.next hb6⟩)))
             (try simp only [Act.put, List.setIfInBounds_toArray, List.set_cons_zero, List.set_cons_succ])
             go_big_quiet_on))
        refine wpQuiet_nil ?_
        intro w6 h6
        have H6 := Lib.hid h6
        clear h6
        go_wp2_with fail
        go_ret2
        exact ⟨by rw [hh.out]; first | rfl | (simp [BEq.beq]; done), H6.out.2.2⟩
      · have hh := Lib.hid (show Pan.hit xs (fun x => ordN x.p y.p) a = false from by unfold Pan.hit; rw [List.getElem?_eq_none (by omega)])
        have g4 : decide ((a : Int) < xs.length) = false := decide_eq_false (by omega)
        have W1 := Lib.hid (show At1 w w.heap.size y wr.drew from ⟨HT.out.drew, below_drewOf HB.out⟩)
        go_wp2_with fail
        refine wide_all (At1 w w.heap.size y) (by kernel_rfl) (by kernel_rfl) W1.out ?_
        repeat (first
          | go_big_quiet_skip
          | (go_big_quiet_want
             apply wide_op
             · (intro w5 h5; obtain ⟨⟨c0,c1,c2,c3,c4,c5⟩,hB5⟩ := id h5; go_simp; first | done | with_reducible rfl)
             (try simp only [Act.put, List.setIfInBounds_toArray, List.set_cons_zero, List.set_cons_succ])
             go_big_quiet_on))
        refine wpQuiet_nil ?_
        intro w6 h6
        have H6 := Lib.hid h6
        clear h6
        go_wp2_with fail
        go_ret2
        exact ⟨by rw [hh.out]; rfl, H6.out.2⟩
end Go.Proofs.Ytklpfifellghlaa
