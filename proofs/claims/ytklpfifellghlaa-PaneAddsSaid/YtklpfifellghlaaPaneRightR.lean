/- Right, of the reference. -/
import Derived.Test.YtklpfifellghlaaPaneRight
namespace Go.Proofs.Ytklpfifellghlaa
open Go.RowKit
open Pan
set_option linter.unusedVariables false
theorem rfMayB (x : Pn) (w : World) : Calls Try.prog 28 #[paV x] w (TellsB (may x) w) :=
  (rfMay x w).mono fun e w' ⟨h1, h2⟩ => ⟨h1, by rw [h2]; exact below_al (Below.refl _ _)⟩
theorem rfAheadB (x y : Pn) (w : World) : Calls Try.prog 32 #[paV x, paV y] w (TellsB (Pan.ahead x.p y.p) w) :=
  (rfAhead x y w).mono fun e w' ⟨h1, h2⟩ => ⟨h1, by rw [h2]; exact below_al (below_al (Below.refl _ _))⟩
namespace Pan
theorem right_len {l : List Pn} (h : rightTo l l.length) : right l = decide (l.length ≤ 2000) := by
  by_cases hl : l.length ≤ 2000
  · rw [right_of_to hl h, decide_eq_true hl]
  · unfold right; rw [decide_eq_false hl]; rfl
end Pan
set_option maxRecDepth 100000 in
set_option maxHeartbeats 2000000 in
theorem rfRightL (xs : List Pn) (A : Option Addr) (c : Nat) (w : World) (hA : Row w A (pc xs)) (hl : xs.length ≤ 9223372036854775807) : Calls Try.prog 15 #[.slice A xs.length c] w (TellsB (right xs) w) := by
  have HA := Lib.hid hA
  obtain ⟨r, hr⟩ : ∃ r, r = right xs := ⟨_, rfl⟩
  have HT : Hid (rightTo xs xs.length → r = decide (xs.length ≤ 2000)) := Lib.hid fun h => hr.trans (right_len h)
  have HF : Hid (∀ k x, xs[k]? = some x → may x = false ∨ (∃ j y, k = j + 1 ∧ xs[j]? = some y ∧ Pan.ahead y.p x.p = false) → r = false) := Lib.hid fun k x h1 h2 => hr.trans (not_right h1 h2)
  rw [← hr]
  clear hA hr
  go_enter Try.func15, Try.ntmps15
  go_wp2_with fail
  go_loopw [7] (fun i wr => ∃ k : Nat, i = .int .i64 k ∧ k ≤ xs.length ∧ rightTo xs k ∧ Below w.heap.size w wr) (fun i _ => xs.length - (intOf i).toNat)
  case atStart => exact ⟨0, rfl, Nat.zero_le _, fun i x h => by omega, Below.refl _ _⟩
  case round =>
    obtain ⟨k, rfl, hk, hto, hb⟩ := hrel
    have HB := Lib.hid hb
    have HTO := Lib.hid hto
    clear hb hto
    by_cases hlt : k < xs.length
    · obtain ⟨x, hx⟩ : ∃ x, xs[k]? = some x := ⟨_, List.getElem?_eq_getElem hlt⟩
      obtain ⟨b, off, rfl, c0, c1, c2, c3, c4, c5⟩ := (HA.out.below HB.out).pn hx
      have HX := Lib.hid hx
      clear hx
      go_wp2_with fail
      have W0 := Lib.hid (show At1 w wr.heap.size x (wr.alloc (.cells (paC x) 52)).drew from ⟨(new_pn _ _ _).drew, below_drewOf (below_next HB.out (below_al (Below.refl _ _)))⟩)
      have HV := Lib.hid (fun w => rfMayB x w)
      by_cases hm : may x = true
      · rw [hm] at HV
        rcases k with _ | j
        · refine wide_all (At1 w wr.heap.size x) (by kernel_rfl) (by kernel_rfl) W0.out ?_
          repeat (first
          | go_big_quiet_skip
          | (go_big_quiet_want
             apply wide_op
             · (intro w5 h5; obtain ⟨⟨c0,c1,c2,c3,c4,c5⟩,hB5⟩ := id h5; go_simp; first | done | with_reducible rfl | ((refine (HV.out _).mono ?_; rintro e w6 ⟨rfl, hb6⟩; exact ⟨rfl, h5.next hb6⟩)))
             (try simp only [Act.put, List.setIfInBounds_toArray, List.set_cons_zero, List.set_cons_succ])
             go_big_quiet_on))
          refine wpQuiet_nil ?_
          intro w6 h6
          have H6 := Lib.hid h6
          clear h6
          go_wp2_with fail
          go_roundw
          case rel => exact ⟨1, rfl, by omega, to_next HX.out HTO.out hm fun j y e _ => by omega, H6.out.2⟩
          case measure => simp [intOf]; omega
        · obtain ⟨y, hy⟩ : ∃ y, xs[j]? = some y := ⟨_, List.getElem?_eq_getElem (by omega)⟩
          obtain ⟨b', off', e, hY⟩ := (HA.out.below HB.out).pn hy
          cases e
          have W2 := Lib.hid (show At2 w wr.heap.size x b (off + j * 6) y (wr.alloc (.cells (paC x) 52)).drew from ⟨W0.out.1, (hY.below (below_al (Below.refl _ _))).drew, W0.out.2⟩)
          have HY := Lib.hid hy
          have HO := Lib.hid (fun w => rfAheadB y x w)
          have e1 : IntKind.i64.wrap (j : Int) = (j : Int) := wrap64_in (by omega) (by omega)
          have e2 : (0 : Int) ≤ j := by omega
          have e3 : (j : Int) < xs.length := by omega
          clear hy hY
          by_cases ha : Pan.ahead y.p x.p = true
          · have HAH := Lib.hid ha
            rw [ha] at HO
            clear ha
            refine wide_all (At2 w wr.heap.size x b (off + j * 6) y) (by kernel_rfl) (by kernel_rfl) W2.out ?_
            repeat (first
              | go_big_quiet_skip
              | (go_big_quiet_want
                 apply wide_op
                 · (intro w5 h5; obtain ⟨⟨c0,c1,c2,c3,c4,c5⟩,⟨d0,d1,d2,d3,d4,d5⟩,hB5⟩ := id h5; go_simp; first | done | with_reducible rfl | ((refine (HV.out _).mono ?_; rintro e w6 ⟨rfl, hb6⟩; exact ⟨rfl, h5.next hb6⟩)) | ((refine (HO.out _).mono ?_; rintro e w6 ⟨rfl, hb6⟩; exact ⟨rfl, h5.next hb6⟩)))
                 (try simp only [Act.put, List.setIfInBounds_toArray, List.set_cons_zero, List.set_cons_succ])
                 go_big_quiet_on))
            refine wpQuiet_nil ?_
            intro w6 h6
            have H6 := Lib.hid h6
            clear h6
            go_wp2_with fail
            go_roundw
            case rel => exact ⟨j + 2, by go_num, by omega, to_next HX.out HTO.out hm fun j' y' e h => by cases e; rw [HY.out] at h; cases h; exact HAH.out, H6.out.2.2⟩
            case measure => simp [intOf]; omega
          · have ha' : Pan.ahead y.p x.p = false := by simpa using ha
            have hr := Lib.hid (HF.out (j + 1) x HX.out (.inr ⟨j, y, rfl, HY.out, ha'⟩))
            rw [ha'] at HO
            clear ha ha'
            refine wide_all (At2 w wr.heap.size x b (off + j * 6) y) (by kernel_rfl) (by kernel_rfl) W2.out ?_
            repeat (first
              | go_big_quiet_skip
              | (go_big_quiet_want
                 apply wide_op
                 · (intro w5 h5; obtain ⟨⟨c0,c1,c2,c3,c4,c5⟩,⟨d0,d1,d2,d3,d4,d5⟩,hB5⟩ := id h5; go_simp; first | done | with_reducible rfl | ((refine (HV.out _).mono ?_; rintro e w6 ⟨rfl, hb6⟩; exact ⟨rfl, h5.next hb6⟩)) | ((refine (HO.out _).mono ?_; rintro e w6 ⟨rfl, hb6⟩; exact ⟨rfl, h5.next hb6⟩)))
                 (try simp only [Act.put, List.setIfInBounds_toArray, List.set_cons_zero, List.set_cons_succ])
                 go_big_quiet_on))
            refine wpQuiet_nil ?_
            intro w6 h6
            have H6 := Lib.hid h6
            clear h6
            go_wp2_with fail
            go_ret
            exact ⟨by rw [hr.out]; rfl, H6.out.2.2⟩
      · have hm' : may x = false := by simpa using hm
        rw [hm'] at HV
        have hr := Lib.hid (HF.out k x HX.out (.inl hm'))
        clear hm hm'
        refine wide_all (At1 w wr.heap.size x) (by kernel_rfl) (by kernel_rfl) W0.out ?_
        repeat (first
          | go_big_quiet_skip
          | (go_big_quiet_want
             apply wide_op
             · (intro w5 h5; obtain ⟨⟨c0,c1,c2,c3,c4,c5⟩,hB5⟩ := id h5; go_simp; first | done | with_reducible rfl | ((refine (HV.out _).mono ?_; rintro e w6 ⟨rfl, hb6⟩; exact ⟨rfl, h5.next hb6⟩)))
             (try simp only [Act.put, List.setIfInBounds_toArray, List.set_cons_zero, List.set_cons_succ])
             go_big_quiet_on))
        refine wpQuiet_nil ?_
        intro w6 h6
        have H6 := Lib.hid h6
        clear h6
        go_wp2_with fail
        go_ret
        exact ⟨by rw [hr.out]; rfl, H6.out.2⟩
    · have hge : xs.length ≤ k := by omega
      have hr := Lib.hid (HT.out (by rw [show xs.length = k by omega]; exact HTO.out))
      have hcast : Hid (decide ((xs.length : Int) ≤ 2000) = decide (xs.length ≤ 2000)) := Lib.hid (by rw [decide_eq_decide]; omega)
      go_wp2_with fail
      go_ret
      exact ⟨by rw [hr.out]; exact congrArg (fun b => Ending.returned (Value.bool b)) hcast.out, HB.out⟩
end Go.Proofs.Ytklpfifellghlaa
