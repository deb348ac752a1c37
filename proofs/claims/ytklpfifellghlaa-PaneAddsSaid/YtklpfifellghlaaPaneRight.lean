/- Right, of package pane. -/
import Derived.Test.YtklpfifellghlaaPaneRow
namespace Go.Proofs.Ytklpfifellghlaa
open Go.RowKit
open Pan
set_option linter.unusedVariables false
theorem paValidB (x : Pn) (w : World) : Calls Try.prog 30 #[paV x] w (TellsB (may x) w) :=
  (paValid x w).mono fun e w' ⟨h1, h2⟩ => ⟨h1, by rw [h2]; exact below_al (Below.refl _ _)⟩
def At1 (w0 : World) (b : Nat) (x : Pn) (w : World) : Prop := PnAt w b 0 x ∧ Below w0.heap.size w0 w
def At2 (w0 : World) (b : Nat) (x : Pn) (b2 o2 : Nat) (y : Pn) (w : World) : Prop := PnAt w b 0 x ∧ PnAt w b2 o2 y ∧ Below w0.heap.size w0 w
theorem At1.next {w0 a c : World} {b : Nat} {x : Pn} (h : At1 w0 b x a) (hb : Below a.heap.size a c) : At1 w0 b x c := ⟨h.1.below hb, below_next h.2 hb⟩
theorem At2.next {w0 a c : World} {b : Nat} {x : Pn} {b2 o2 : Nat} {y : Pn} (h : At2 w0 b x b2 o2 y a) (hb : Below a.heap.size a c) : At2 w0 b x b2 o2 y c := ⟨h.1.below hb, h.2.1.below hb, below_next h.2.2 hb⟩
theorem new_pn (w : World) (x : Pn) (T : TypeId) : PnAt (w.alloc (.cells (paC x) T)) w.heap.size 0 x := .of_lies (Lies.new w _ _)
theorem wrap64_in {n : Int} (h1 : -9223372036854775808 ≤ n) (h2 : n ≤ 9223372036854775807) : IntKind.i64.wrap n = n := IntWalk.i64_in _ ⟨h1, h2⟩
set_option maxRecDepth 100000 in
set_option maxHeartbeats 2000000 in
theorem paRight (xs : List Pn) (A : Option Addr) (c : Nat) (w : World) (hA : Row w A (pc xs)) (hl : xs.length ≤ 9223372036854775807) : Calls Try.prog 14 #[.slice A xs.length c] w (TellsB (right xs) w) := by
  by_cases hs : xs.length ≤ 2000
  · have HA := Lib.hid hA
    obtain ⟨r, hr⟩ : ∃ r, r = right xs := ⟨_, rfl⟩
    have HT : Hid (rightTo xs xs.length → r = true) := Lib.hid fun h => hr.trans (right_of_to hs h)
    have HF : Hid (∀ k x, xs[k]? = some x → may x = false ∨ (∃ j y, k = j + 1 ∧ xs[j]? = some y ∧ Pan.ahead y.p x.p = false) → r = false) := Lib.hid fun k x h1 h2 => hr.trans (not_right h1 h2)
    rw [← hr]
    clear hA hr
    go_enter Try.func14, Try.ntmps14
    go_wp2_with fail
    go_loopw [10] (fun i wr => ∃ k : Nat, i = .int .i64 k ∧ k ≤ xs.length ∧ rightTo xs k ∧ Below w.heap.size w wr) (fun i _ => xs.length - (intOf i).toNat)
    case atStart => exact ⟨0, rfl, Nat.zero_le _, fun i x h => by omega, Below.refl _ _⟩
    case round =>
      obtain ⟨k, rfl, hk, hto, hb⟩ := hrel
      have HB := Lib.hid hb
      have HTO := Lib.hid hto
      clear hb hto
      by_cases hlt : k < xs.length
      · obtain ⟨x, hx⟩ : ∃ x, xs[k]? = some x := ⟨_, List.getElem?_eq_getElem hlt⟩
        obtain ⟨b, off, rfl, c0, c1, c2, c3, c4, c5⟩ := (HA.out.below HB.out).pn hx
        have HX := Lib.hid hx
        clear hx
        go_wp2_with fail
        have W0 := Lib.hid (show At1 w wr.heap.size x (wr.alloc (.cells (paC x) 52)).drew from ⟨(new_pn _ _ _).drew, below_drewOf (below_next HB.out (below_al (Below.refl _ _)))⟩)
        have HV := Lib.hid (fun w => paValidB x w)
        by_cases hm : may x = true
        · rw [hm] at HV
          rcases k with _ | j
          · refine wide_all (At1 w wr.heap.size x) (by kernel_rfl) (by kernel_rfl) W0.out ?_
            repeat (first
            | go_big_quiet_skip
            | (go_big_quiet_want
               apply wide_op
               · (intro w5 h5; obtain ⟨⟨c0,c1,c2,c3,c4,c5⟩,hB5⟩ := id h5; go_simp; first | done | with_reducible rfl | ((refine (HV.out _).mono ?_; rintro e w6 ⟨rfl, hb6⟩; exact ⟨rfl, h5.next hb6⟩)))
               (try simp only [Act.put, List.setIfInBounds_toArray, List.set_cons_zero, List.set_cons_succ])
               go_big_quiet_on))
            refine wpQuiet_nil ?_
            intro w6 h6
            have H6 := Lib.hid h6
            clear h6
            go_wp2_with fail
            go_roundw
            case rel => exact ⟨1, rfl, by omega, to_next HX.out HTO.out hm fun j y e _ => by omega, H6.out.2⟩
            case measure => simp [intOf]; omega
          · obtain ⟨y, hy⟩ : ∃ y, xs[j]? = some y := ⟨_, List.getElem?_eq_getElem (by omega)⟩
            obtain ⟨b', off', e, hY⟩ := (HA.out.below HB.out).pn hy
            cases e
            have W2 := Lib.hid (show At2 w wr.heap.size x b (off + j * 6) y (wr.alloc (.cells (paC x) 52)).drew from ⟨W0.out.1, (hY.below (below_al (Below.refl _ _))).drew, W0.out.2⟩)
            have HY := Lib.hid hy
            have HO := Lib.hid (fun w => paOrder y x w)
            have e1 : IntKind.i64.wrap (j : Int) = (j : Int) := wrap64_in (by omega) (by omega)
            have e2 : (0 : Int) ≤ j := by omega
            have e3 : (j : Int) < xs.length := by omega
            clear hy hY
            by_cases ha : Pan.ahead y.p x.p = true
            · have hd : decide (0 ≤ ordN y.p x.p) = false := by have := (ordN_lt y.p x.p).2 ha; simp; omega
              have HAH := Lib.hid ha
              clear ha
              refine wide_all (At2 w wr.heap.size x b (off + j * 6) y) (by kernel_rfl) (by kernel_rfl) W2.out ?_
              repeat (first
                | go_big_quiet_skip
                | (go_big_quiet_want
                   apply wide_op
                   · (intro w5 h5; obtain ⟨⟨c0,c1,c2,c3,c4,c5⟩,⟨d0,d1,d2,d3,d4,d5⟩,hB5⟩ := id h5; go_simp; first | done | with_reducible rfl | ((refine (HV.out _).mono ?_; rintro e w6 ⟨rfl, hb6⟩; exact ⟨rfl, h5.next hb6⟩)) | ((refine (HO.out _).mono ?_; rintro e w6 ⟨rfl, hb6⟩; exact ⟨rfl, h5.next hb6⟩)))
                   (try simp only [Act.put, List.setIfInBounds_toArray, List.set_cons_zero, List.set_cons_succ])
                   go_big_quiet_on))
              refine wpQuiet_nil ?_
              intro w6 h6
              have H6 := Lib.hid h6
              clear h6
              go_wp2_with fail
              go_roundw
              case rel => exact ⟨j + 2, by go_num, by omega, to_next HX.out HTO.out hm fun j' y' e h => by cases e; rw [HY.out] at h; cases h; exact HAH.out, H6.out.2.2⟩
              case measure => simp [intOf]; omega
            · have ha' : Pan.ahead y.p x.p = false := by simpa using ha
              have hd : decide (0 ≤ ordN y.p x.p) = true := by
                have := mt (ordN_lt y.p x.p).1 ha; simp; omega
              have hr := Lib.hid (HF.out (j + 1) x HX.out (.inr ⟨j, y, rfl, HY.out, ha'⟩))
              clear ha ha'
              refine wide_all (At2 w wr.heap.size x b (off + j * 6) y) (by kernel_rfl) (by kernel_rfl) W2.out ?_
              repeat (first
                | go_big_quiet_skip
                | (go_big_quiet_want
                   apply wide_op
                   · (intro w5 h5; obtain ⟨⟨c0,c1,c2,c3,c4,c5⟩,⟨d0,d1,d2,d3,d4,d5⟩,hB5⟩ := id h5; go_simp; first | done | with_reducible rfl | ((refine (HV.out _).mono ?_; rintro e w6 ⟨rfl, hb6⟩; exact ⟨rfl, h5.next hb6⟩)) | ((refine (HO.out _).mono ?_; rintro e w6 ⟨rfl, hb6⟩; exact ⟨rfl, h5.next hb6⟩)))
                   (try simp only [Act.put, List.setIfInBounds_toArray, List.set_cons_zero, List.set_cons_succ])
                   go_big_quiet_on))
              refine wpQuiet_nil ?_
              intro w6 h6
              have H6 := Lib.hid h6
              clear h6
              go_wp2_with fail
              go_ret
              exact ⟨by rw [hr.out]; rfl, H6.out.2.2⟩
        · have hm' : may x = false := by simpa using hm
          rw [hm'] at HV
          have hr := Lib.hid (HF.out k x HX.out (.inl hm'))
          clear hm hm'
          refine wide_all (At1 w wr.heap.size x) (by kernel_rfl) (by kernel_rfl) W0.out ?_
          repeat (first
            | go_big_quiet_skip
            | (go_big_quiet_want
               apply wide_op
               · (intro w5 h5; obtain ⟨⟨c0,c1,c2,c3,c4,c5⟩,hB5⟩ := id h5; go_simp; first | done | with_reducible rfl | ((refine (HV.out _).mono ?_; rintro e w6 ⟨rfl, hb6⟩; exact ⟨rfl, h5.next hb6⟩)))
               (try simp only [Act.put, List.setIfInBounds_toArray, List.set_cons_zero, List.set_cons_succ])
               go_big_quiet_on))
          refine wpQuiet_nil ?_
          intro w6 h6
          have H6 := Lib.hid h6
          clear h6
          go_wp2_with fail
          go_ret
          exact ⟨by rw [hr.out]; rfl, H6.out.2⟩
      · have hge : xs.length ≤ k := by omega
        have hr := Lib.hid (HT.out (by rw [show xs.length = k by omega]; exact HTO.out))
        go_wp2_with fail
        go_ret
        exact ⟨by rw [hr.out]; rfl, HB.out⟩
  · have H : Hid (right xs = false) := Lib.hid (by unfold right; rw [decide_eq_false hs]; rfl)
    have hs2 : (2000 : Int) < xs.length := by omega
    clear hs hA
    go_enter Try.func14, Try.ntmps14
    go_wp2_with fail
    go_ret
    exact ⟨by rw [H.out]; rfl, Below.refl _ _⟩
end Go.Proofs.Ytklpfifellghlaa
