/- PaneRight, PaneRightR, PaneFind, put together. -/
import Derived.Test.YthfbcfddfbipfaaZ6
/- Right, of package pane. -/
namespace Go.Proofs.Ythfbcfddfbipfaa
open Go.RowKit
open Pan
set_option linter.unusedVariables false
set_option maxRecDepth 8000
theorem paValidB (x : Pn) (w : World) : Calls Try.prog 72 #[paV x] w (TellsB (may x) w) :=
  (paValid x w).mono fun e w' ⟨h1, h2⟩ => ⟨h1, by rw [h2]; exact below_al (Below.refl _ _)⟩
def At1 (w0 : World) (b : Nat) (x : Pn) (w : World) : Prop := PnAt w b 0 x ∧ Below w0.heap.size w0 w
def At2 (w0 : World) (b : Nat) (x : Pn) (b2 o2 : Nat) (y : Pn) (w : World) : Prop := PnAt w b 0 x ∧ PnAt w b2 o2 y ∧ Below w0.heap.size w0 w
theorem At1.next {w0 a c : World} {b : Nat} {x : Pn} (h : At1 w0 b x a) (hb : Below a.heap.size a c) : At1 w0 b x c := ⟨h.1.below hb, below_next h.2 hb⟩
theorem At2.next {w0 a c : World} {b : Nat} {x : Pn} {b2 o2 : Nat} {y : Pn} (h : At2 w0 b x b2 o2 y a) (hb : Below a.heap.size a c) : At2 w0 b x b2 o2 y c := ⟨h.1.below hb, h.2.1.below hb, below_next h.2.2 hb⟩
theorem new_pn (w : World) (x : Pn) (T : TypeId) : PnAt (w.alloc (.cells (paC x) T)) w.heap.size 0 x := .of_lies (Lies.new w _ _)
theorem wrap64_in {n : Int} (h1 : -9223372036854775808 ≤ n) (h2 : n ≤ 9223372036854775807) : IntKind.i64.wrap n = n := IntWalk.i64_in _ ⟨h1, h2⟩
set_option maxRecDepth 100000 in
set_option maxHeartbeats 2000000 in
theorem paRight (xs : List Pn) (A : Option Addr) (c : Nat) (w : World) (hA : Row w A (pc xs)) (hl : xs.length ≤ 9223372036854775807) : Calls Try.prog 40 #[.slice A xs.length c] w (TellsB (right xs) w) := by
  by_cases hs : xs.length ≤ 2000
  · have HA := Lib.hid hA
    obtain ⟨r, hr⟩ : ∃ r, r = right xs := ⟨_, rfl⟩
    have HT : Hid (rightTo xs xs.length → r = true) := Lib.hid fun h => hr.trans (right_of_to hs h)
    have HF : Hid (∀ k x, xs[k]? = some x → may x = false ∨ (∃ j y, k = j + 1 ∧ xs[j]? = some y ∧ Pan.ahead y.p x.p = false) → r = false) := Lib.hid fun k x h1 h2 => hr.trans (not_right h1 h2)
    rw [← hr]
    clear hA hr
    go_enter Try.func40, Try.ntmps40
    go_wp2_with fail
    go_loopw [10] (fun i wr => ∃ k : Nat, i = .int .i64 k ∧ k ≤ xs.length ∧ rightTo xs k ∧ Below w.heap.size w wr) (fun i _ => xs.length - (intOf i).toNat)
    case atStart => exact ⟨0, rfl, Nat.zero_le _, fun i x h => by omega, Below.refl _ _⟩
    case round =>
      obtain ⟨k, rfl, hk, hto, hb⟩ := hrel
      have HB := Lib.hid hb
      have HTO := Lib.hid hto
      clear hb hto
      by_cases hlt : k < xs.length
      · obtain ⟨x, hx⟩ : ∃ x, xs[k]? = some x := ⟨_, List.getElem?_eq_getElem hlt⟩
        obtain ⟨b, off, rfl, c0, c1, c2, c3, c4, c5⟩ := (HA.out.below HB.out).pn hx
        have HX := Lib.hid hx
        clear hx
        go_wp2_with fail
        have W0 := Lib.hid (show At1 w wr.heap.size x (wr.alloc (.cells (paC x) 59)).drew from ⟨(new_pn _ _ _).drew, below_drewOf (below_next HB.out (below_al (Below.refl _ _)))⟩)
        have HV := Lib.hid (fun w => paValidB x w)
        by_cases hm : may x = true
        · rw [hm] at HV
          rcases k with _ | j
          · refine wide_all (At1 w wr.heap.size x) (by kernel_rfl) (by kernel_rfl) W0.out ?_
            repeat (first
            | go_big_quiet_skip
            | (go_big_quiet_want
               apply wide_op
               · (intro w5 h5; obtain ⟨⟨c0,c1,c2,c3,c4,c5⟩,hB5⟩ := id h5; go_simp; first | done | with_reducible rfl | ((refine (HV.out _).mono ?_; rintro e w6 ⟨rfl, hb6⟩; exact ⟨rfl, h5.next hb6⟩)))
               (try simp only [Act.put, List.setIfInBounds_toArray, List.set_cons_zero, List.set_cons_succ])
               go_big_quiet_on))
            refine wpQuiet_nil ?_
            intro w6 h6
            have H6 := Lib.hid h6
            clear h6
            go_wp2_with fail
            go_roundw
            case rel => exact ⟨1, rfl, by omega, to_next HX.out HTO.out hm fun j y e _ => by omega, H6.out.2⟩
            case measure => simp [intOf]; omega
          · obtain ⟨y, hy⟩ : ∃ y, xs[j]? = some y := ⟨_, List.getElem?_eq_getElem (by omega)⟩
            obtain ⟨b', off', e, hY⟩ := (HA.out.below HB.out).pn hy
            cases e
            have W2 := Lib.hid (show At2 w wr.heap.size x b (off + j * 6) y (wr.alloc (.cells (paC x) 59)).drew from ⟨W0.out.1, (hY.below (below_al (Below.refl _ _))).drew, W0.out.2⟩)
            have HY := Lib.hid hy
            have HO := Lib.hid (fun w => paOrder y x w)
            have e1 : IntKind.i64.wrap (j : Int) = (j : Int) := wrap64_in (by omega) (by omega)
            have e2 : (0 : Int) ≤ j := by omega
            have e3 : (j : Int) < xs.length := by omega
            clear hy hY
            by_cases ha : Pan.ahead y.p x.p = true
            · have hd : decide (0 ≤ ordN y.p x.p) = false := by have := (ordN_lt y.p x.p).2 ha; simp; omega
              have HAH := Lib.hid ha
              clear ha
              refine wide_all (At2 w wr.heap.size x b (off + j * 6) y) (by kernel_rfl) (by kernel_rfl) W2.out ?_
              repeat (first
                | go_big_quiet_skip
                | (go_big_quiet_want
                   apply wide_op
                   · (intro w5 h5; obtain ⟨⟨c0,c1,c2,c3,c4,c5⟩,⟨d0,d1,d2,d3,d4,d5⟩,hB5⟩ := id h5; go_simp; first | done | with_reducible rfl | ((refine (HV.out _).mono ?_; rintro e w6 ⟨rfl, hb6⟩; exact ⟨rfl, h5.next hb6⟩)) | ((refine (HO.out _).mono ?_; rintro e w6 ⟨rfl, hb6⟩; exact ⟨rfl, h5.next hb6⟩)))
                   (try simp only [Act.put, List.setIfInBounds_toArray, List.set_cons_zero, List.set_cons_succ])
                   go_big_quiet_on))
              refine wpQuiet_nil ?_
              intro w6 h6
              have H6 := Lib.hid h6
              clear h6
              go_wp2_with fail
              go_roundw
              case rel => exact ⟨j + 2, by go_num, by omega, to_next HX.out HTO.out hm fun j' y' e h => by cases e; rw [HY.out] at h; cases h; exact HAH.out, H6.out.2.2⟩
              case measure => simp [intOf]; omega
            · have ha' : Pan.ahead y.p x.p = false := by simpa using ha
              have hd : decide (0 ≤ ordN y.p x.p) = true := by
                have := mt (ordN_lt y.p x.p).1 ha; simp; omega
              have hr := Lib.hid (HF.out (j + 1) x HX.out (.inr ⟨j, y, rfl, HY.out, ha'⟩))
              clear ha ha'
              refine wide_all (At2 w wr.heap.size x b (off + j * 6) y) (by kernel_rfl) (by kernel_rfl) W2.out ?_
              repeat (first
                | go_big_quiet_skip
                | (go_big_quiet_want
                   apply wide_op
                   · (intro w5 h5; obtain ⟨⟨c0,c1,c2,c3,c4,c5⟩,⟨d0,d1,d2,d3,d4,d5⟩,hB5⟩ := id h5; go_simp; first | done | with_reducible rfl | ((refine (HV.out _).mono ?_; rintro e w6 ⟨rfl, hb6⟩; exact ⟨rfl, h5.next hb6⟩)) | ((refine (HO.out _).mono ?_; rintro e w6 ⟨rfl, hb6⟩; exact ⟨rfl, h5.next hb6⟩)))
                   (try simp only [Act.put, List.setIfInBounds_toArray, List.set_cons_zero, List.set_cons_succ])
                   go_big_quiet_on))
              refine wpQuiet_nil ?_
              intro w6 h6
              have H6 := Lib.hid h6
              clear h6
              go_wp2_with fail
              go_ret
              exact ⟨by rw [hr.out]; rfl, H6.out.2.2⟩
        · have hm' : may x = false := by simpa using hm
          rw [hm'] at HV
          have hr := Lib.hid (HF.out k x HX.out (.inl hm'))
          clear hm hm'
          refine wide_all (At1 w wr.heap.size x) (by kernel_rfl) (by kernel_rfl) W0.out ?_
          repeat (first
            | go_big_quiet_skip
            | (go_big_quiet_want
               apply wide_op
               · (intro w5 h5; obtain ⟨⟨c0,c1,c2,c3,c4,c5⟩,hB5⟩ := id h5; go_simp; first | done | with_reducible rfl | ((refine (HV.out _).mono ?_; rintro e w6 ⟨rfl, hb6⟩; exact ⟨rfl, h5.next hb6⟩)))
               (try simp only [Act.put, List.setIfInBounds_toArray, List.set_cons_zero, List.set_cons_succ])
               go_big_quiet_on))
          refine wpQuiet_nil ?_
          intro w6 h6
          have H6 := Lib.hid h6
          clear h6
          go_wp2_with fail
          go_ret
          exact ⟨by rw [hr.out]; rfl, H6.out.2⟩
      · have hge : xs.length ≤ k := by omega
        have hr := Lib.hid (HT.out (by rw [show xs.length = k by omega]; exact HTO.out))
        go_wp2_with fail
        go_ret
        exact ⟨by rw [hr.out]; rfl, HB.out⟩
  · have H : Hid (right xs = false) := Lib.hid (by unfold right; rw [decide_eq_false hs]; rfl)
    have hs2 : (2000 : Int) < xs.length := by omega
    clear hs hA
    go_enter Try.func40, Try.ntmps40
    go_wp2_with fail
    go_ret
    exact ⟨by rw [H.out]; rfl, Below.refl _ _⟩
end Go.Proofs.Ythfbcfddfbipfaa
/- Right, of the reference. -/
namespace Go.Proofs.Ythfbcfddfbipfaa
open Go.RowKit
open Pan
set_option linter.unusedVariables false
set_option maxRecDepth 8000
theorem rfMayB (x : Pn) (w : World) : Calls Try.prog 70 #[paV x] w (TellsB (may x) w) :=
  (rfMay x w).mono fun e w' ⟨h1, h2⟩ => ⟨h1, by rw [h2]; exact below_al (Below.refl _ _)⟩
theorem rfAheadB (x y : Pn) (w : World) : Calls Try.prog 74 #[paV x, paV y] w (TellsB (Pan.ahead x.p y.p) w) :=
  (rfAhead x y w).mono fun e w' ⟨h1, h2⟩ => ⟨h1, by rw [h2]; exact below_al (below_al (Below.refl _ _))⟩
namespace Pan
theorem right_len {l : List Pn} (h : rightTo l l.length) : right l = decide (l.length ≤ 2000) := by
  by_cases hl : l.length ≤ 2000
  · rw [right_of_to hl h, decide_eq_true hl]
  · unfold right; rw [decide_eq_false hl]; rfl
end Pan
set_option maxRecDepth 100000 in
set_option maxHeartbeats 2000000 in
theorem rfRightL (xs : List Pn) (A : Option Addr) (c : Nat) (w : World) (hA : Row w A (pc xs)) (hl : xs.length ≤ 9223372036854775807) : Calls Try.prog 42 #[.slice A xs.length c] w (TellsB (right xs) w) := by
  have HA := Lib.hid hA
  obtain ⟨r, hr⟩ : ∃ r, r = right xs := ⟨_, rfl⟩
  have HT : Hid (rightTo xs xs.length → r = decide (xs.length ≤ 2000)) := Lib.hid fun h => hr.trans (right_len h)
  have HF : Hid (∀ k x, xs[k]? = some x → may x = false ∨ (∃ j y, k = j + 1 ∧ xs[j]? = some y ∧ Pan.ahead y.p x.p = false) → r = false) := Lib.hid fun k x h1 h2 => hr.trans (not_right h1 h2)
  rw [← hr]
  clear hA hr
  go_enter Try.func42, Try.ntmps42
  go_wp2_with fail
  go_loopw [7] (fun i wr => ∃ k : Nat, i = .int .i64 k ∧ k ≤ xs.length ∧ rightTo xs k ∧ Below w.heap.size w wr) (fun i _ => xs.length - (intOf i).toNat)
  case atStart => exact ⟨0, rfl, Nat.zero_le _, fun i x h => by omega, Below.refl _ _⟩
  case round =>
    obtain ⟨k, rfl, hk, hto, hb⟩ := hrel
    have HB := Lib.hid hb
    have HTO := Lib.hid hto
    clear hb hto
    by_cases hlt : k < xs.length
    · obtain ⟨x, hx⟩ : ∃ x, xs[k]? = some x := ⟨_, List.getElem?_eq_getElem hlt⟩
      obtain ⟨b, off, rfl, c0, c1, c2, c3, c4, c5⟩ := (HA.out.below HB.out).pn hx
      have HX := Lib.hid hx
      clear hx
      go_wp2_with fail
      have W0 := Lib.hid (show At1 w wr.heap.size x (wr.alloc (.cells (paC x) 59)).drew from ⟨(new_pn _ _ _).drew, below_drewOf (below_next HB.out (below_al (Below.refl _ _)))⟩)
      have HV := Lib.hid (fun w => rfMayB x w)
      by_cases hm : may x = true
      · rw [hm] at HV
        rcases k with _ | j
        · refine wide_all (At1 w wr.heap.size x) (by kernel_rfl) (by kernel_rfl) W0.out ?_
          repeat (first
          | go_big_quiet_skip
          | (go_big_quiet_want
             apply wide_op
             · (intro w5 h5; obtain ⟨⟨c0,c1,c2,c3,c4,c5⟩,hB5⟩ := id h5; go_simp; first | done | with_reducible rfl | ((refine (HV.out _).mono ?_; rintro e w6 ⟨rfl, hb6⟩; exact ⟨rfl, h5.next hb6⟩)))
             (try simp only [Act.put, List.setIfInBounds_toArray, List.set_cons_zero, List.set_cons_succ])
             go_big_quiet_on))
          refine wpQuiet_nil ?_
          intro w6 h6
          have H6 := Lib.hid h6
          clear h6
          go_wp2_with fail
          go_roundw
          case rel => exact ⟨1, rfl, by omega, to_next HX.out HTO.out hm fun j y e _ => by omega, H6.out.2⟩
          case measure => simp [intOf]; omega
        · obtain ⟨y, hy⟩ : ∃ y, xs[j]? = some y := ⟨_, List.getElem?_eq_getElem (by omega)⟩
          obtain ⟨b', off', e, hY⟩ := (HA.out.below HB.out).pn hy
          cases e
          have W2 := Lib.hid (show At2 w wr.heap.size x b (off + j * 6) y (wr.alloc (.cells (paC x) 59)).drew from ⟨W0.out.1, (hY.below (below_al (Below.refl _ _))).drew, W0.out.2⟩)
          have HY := Lib.hid hy
          have HO := Lib.hid (fun w => rfAheadB y x w)
          have e1 : IntKind.i64.wrap (j : Int) = (j : Int) := wrap64_in (by omega) (by omega)
          have e2 : (0 : Int) ≤ j := by omega
          have e3 : (j : Int) < xs.length := by omega
          clear hy hY
          by_cases ha : Pan.ahead y.p x.p = true
          · have HAH := Lib.hid ha
            rw [ha] at HO
            clear ha
            refine wide_all (At2 w wr.heap.size x b (off + j * 6) y) (by kernel_rfl) (by kernel_rfl) W2.out ?_
            repeat (first
              | go_big_quiet_skip
              | (go_big_quiet_want
                 apply wide_op
                 · (intro w5 h5; obtain ⟨⟨c0,c1,c2,c3,c4,c5⟩,⟨d0,d1,d2,d3,d4,d5⟩,hB5⟩ := id h5; go_simp; first | done | with_reducible rfl | ((refine (HV.out _).mono ?_; rintro e w6 ⟨rfl, hb6⟩; exact ⟨rfl, h5.next hb6⟩)) | ((refine (HO.out _).mono ?_; rintro e w6 ⟨rfl, hb6⟩; exact ⟨rfl, h5.next hb6⟩)))
                 (try simp only [Act.put, List.setIfInBounds_toArray, List.set_cons_zero, List.set_cons_succ])
                 go_big_quiet_on))
            refine wpQuiet_nil ?_
            intro w6 h6
            have H6 := Lib.hid h6
            clear h6
            go_wp2_with fail
            go_roundw
            case rel => exact ⟨j + 2, by go_num, by omega, to_next HX.out HTO.out hm fun j' y' e h => by cases e; rw [HY.out] at h; cases h; exact HAH.out, H6.out.2.2⟩
            case measure => simp [intOf]; omega
          · have ha' : Pan.ahead y.p x.p = false := by simpa using ha
            have hr := Lib.hid (HF.out (j + 1) x HX.out (.inr ⟨j, y, rfl, HY.out, ha'⟩))
            rw [ha'] at HO
            clear ha ha'
            refine wide_all (At2 w wr.heap.size x b (off + j * 6) y) (by kernel_rfl) (by kernel_rfl) W2.out ?_
            repeat (first
              | go_big_quiet_skip
              | (go_big_quiet_want
                 apply wide_op
                 · (intro w5 h5; obtain ⟨⟨c0,c1,c2,c3,c4,c5⟩,⟨d0,d1,d2,d3,d4,d5⟩,hB5⟩ := id h5; go_simp; first | done | with_reducible rfl | ((refine (HV.out _).mono ?_; rintro e w6 ⟨rfl, hb6⟩; exact ⟨rfl, h5.next hb6⟩)) | ((refine (HO.out _).mono ?_; rintro e w6 ⟨rfl, hb6⟩; exact ⟨rfl, h5.next hb6⟩)))
                 (try simp only [Act.put, List.setIfInBounds_toArray, List.set_cons_zero, List.set_cons_succ])
                 go_big_quiet_on))
            refine wpQuiet_nil ?_
            intro w6 h6
            have H6 := Lib.hid h6
            clear h6
            go_wp2_with fail
            go_ret
            exact ⟨by rw [hr.out]; rfl, H6.out.2.2⟩
      · have hm' : may x = false := by simpa using hm
        rw [hm'] at HV
        have hr := Lib.hid (HF.out k x HX.out (.inl hm'))
        clear hm hm'
        refine wide_all (At1 w wr.heap.size x) (by kernel_rfl) (by kernel_rfl) W0.out ?_
        repeat (first
          | go_big_quiet_skip
          | (go_big_quiet_want
             apply wide_op
             · (intro w5 h5; obtain ⟨⟨c0,c1,c2,c3,c4,c5⟩,hB5⟩ := id h5; go_simp; first | done | with_reducible rfl | ((refine (HV.out _).mono ?_; rintro e w6 ⟨rfl, hb6⟩; exact ⟨rfl, h5.next hb6⟩)))
             (try simp only [Act.put, List.setIfInBounds_toArray, List.set_cons_zero, List.set_cons_succ])
             go_big_quiet_on))
        refine wpQuiet_nil ?_
        intro w6 h6
        have H6 := Lib.hid h6
        clear h6
        go_wp2_with fail
        go_ret
        exact ⟨by rw [hr.out]; rfl, H6.out.2⟩
    · have hge : xs.length ≤ k := by omega
      have hr := Lib.hid (HT.out (by rw [show xs.length = k by omega]; exact HTO.out))
      have hcast : Hid (decide ((xs.length : Int) ≤ 2000) = decide (xs.length ≤ 2000)) := Lib.hid (by rw [decide_eq_decide]; omega)
      go_wp2_with fail
      go_ret
      exact ⟨by rw [hr.out]; exact congrArg (fun b => Ending.returned (Value.bool b)) hcast.out, HB.out⟩
end Go.Proofs.Ythfbcfddfbipfaa
/- The binary search of package pane, with both of its comparisons. -/
namespace Go.Proofs.Ythfbcfddfbipfaa
open Go.RowKit
open Pan
set_option linter.unusedVariables false
set_option maxRecDepth 8000
set_option maxRecDepth 100000 in
set_option maxHeartbeats 2000000 in
theorem paFindM (xs : List Pn) (A : Option Addr) (c : Nat) (m : Int) (p : Nat) (w : World) (hA : Row w A (pc xs)) (hl : xs.length ≤ 100000) (hp : Cut xs (fun x => clN x m) p) :
    Calls Try.prog 75 #[.slice A xs.length c, .int .i64 m, .func (.func 76) #[] #[]] w
      fun e w' => e = .returned (.tuple #[.int .i64 p, .bool (Pan.hit xs (fun x => clN x m) p)]) ∧ Below w.heap.size w w' := by
  have HA := Lib.hid hA
  have HP := Lib.hid hp
  have hple := hp.le
  clear hA hp
  go_enter Try.func75, Try.ntmps75
  go_wp2_with fail
  go_loopw [8, 9] (fun l h wr => ∃ a b : Nat, l = .int .i64 a ∧ h = .int .i64 b ∧ a ≤ p ∧ p ≤ b ∧ b ≤ xs.length ∧ Below w.heap.size w wr) (fun l h _ => (intOf h).toNat - (intOf l).toNat)
  case atStart => exact ⟨0, xs.length, rfl, rfl, Nat.zero_le _, hple, Nat.le_refl _, Below.refl _ _⟩
  case round =>
    obtain ⟨a, b, rfl, rfl, h1, h2, h3, hb⟩ := hrel
    have HB := Lib.hid hb
    clear hb
    by_cases hlt : a < b
    · obtain ⟨j, hj⟩ : ∃ j, j = a + (b - a) / 2 := ⟨_, rfl⟩
      have g1 : a ≤ j := by omega
      have g2 : j < b := by omega
      have e0 : IntKind.i64.wrap ((b : Int) - a) = (b : Int) - a := wrap64_in (by omega) (by omega)
      have e1 : ((b : Int) - a).tdiv 2 = (j : Int) - a := by rw [Int.tdiv_eq_ediv_of_nonneg (by omega)]; omega
      have e2 : IntKind.i64.wrap ((j : Int) - a) = (j : Int) - a := wrap64_in (by omega) (by omega)
      have e3 : (a : Int) + ((j : Int) - a) = j := by omega
      have e4 : IntKind.i64.wrap (j : Int) = j := wrap64_in (by omega) (by omega)
      have HJ := Lib.hid hj
      clear hj
      obtain ⟨x, hx⟩ : ∃ x, xs[j]? = some x := ⟨_, List.getElem?_eq_getElem (by omega)⟩
      obtain ⟨bb, off, rfl, c0, c1, c2, c3, c4, c5⟩ := (HA.out.below HB.out).pn hx
      have HX := Lib.hid hx
      have g3 : (0 : Int) ≤ j := by omega
      have g4 : (j : Int) < xs.length := by omega
      have e5 : IntKind.i64.wrap ((j : Int) + 1) = (j : Int) + 1 := wrap64_in (by omega) (by omega)
      clear hx
      by_cases hc : clN x m < 0
      · have hjp : j < p := by
          rcases Nat.lt_or_ge j p with h | h
          · exact h
          · exact absurd hc (HP.out.hi j x h HX.out)
        go_wp2_with (go_at_call 76; refine (paClosing _ _ _).mono ?_; rintro e w' ⟨rfl, rfl⟩)
        go_roundw
        case rel => exact ⟨j + 1, b, by go_num, rfl, by omega, h2, h3, below_al (below_al HB.out)⟩
        case measure => simp [intOf]; have := HJ.out; omega
      · have hjp : p ≤ j := by
          rcases Nat.lt_or_ge j p with h | h
          · exact absurd (HP.out.lo j x h HX.out) hc
          · exact h
        have hc' : 0 ≤ clN x m := by omega
        go_wp2_with (go_at_call 76; refine (paClosing _ _ _).mono ?_; rintro e w' ⟨rfl, rfl⟩)
        go_roundw
        case rel => exact ⟨a, j, rfl, rfl, h1, hjp, by omega, below_al (below_al HB.out)⟩
        case measure => simp [intOf]; have := HJ.out; omega
    · have e1 : a = p := by omega
      have e2 : a = b := by omega
      subst e2
      subst e1
      by_cases hlt2 : a < xs.length
      · obtain ⟨x, hx⟩ : ∃ x, xs[a]? = some x := ⟨_, List.getElem?_eq_getElem hlt2⟩
        obtain ⟨bb, off, rfl, c0, c1, c2, c3, c4, c5⟩ := (HA.out.below HB.out).pn hx
        have hh := Lib.hid (show Pan.hit xs (fun x => clN x m) a = decide (clN x m = 0) from by unfold Pan.hit; rw [hx])
        clear hx
        have g4 : (a : Int) < xs.length := by omega
        go_wp2_with (go_at_call 76; refine (paClosing _ _ _).mono ?_; rintro e w' ⟨rfl, rfl⟩)
        go_ret2
        exact ⟨by rw [hh.out]; first | rfl | (simp [BEq.beq]; done), below_al (below_al HB.out)⟩
      · have hh := Lib.hid (show Pan.hit xs (fun x => clN x m) a = false from by unfold Pan.hit; rw [List.getElem?_eq_none (by omega)])
        have g4 : decide ((a : Int) < xs.length) = false := decide_eq_false (by omega)
        go_wp2_with fail
        go_ret2
        exact ⟨by rw [hh.out]; rfl, HB.out⟩
set_option maxRecDepth 100000 in
set_option maxHeartbeats 2000000 in
theorem paFindP (xs : List Pn) (A : Option Addr) (c : Nat) (y : Pn) (p : Nat) (w : World) (hA : Row w A (pc xs)) (hl : xs.length ≤ 100000) (hp : Cut xs (fun x => ordN x.p y.p) p) :
    Calls Try.prog 103 #[.slice A xs.length c, paV y, .func (.func 73) #[] #[]] w
      fun e w' => e = .returned (.tuple #[.int .i64 p, .bool (Pan.hit xs (fun x => ordN x.p y.p) p)]) ∧ Below w.heap.size w w' := by
  have HA := Lib.hid hA
  have HP := Lib.hid hp
  have hple := hp.le
  clear hA hp
  go_enter Try.func103, Try.ntmps103
  go_wp2_with fail
  go_loopw [8, 9] (fun l h wr => ∃ a b : Nat, l = .int .i64 a ∧ h = .int .i64 b ∧ a ≤ p ∧ p ≤ b ∧ b ≤ xs.length ∧ At1 w w.heap.size y wr) (fun l h _ => (intOf h).toNat - (intOf l).toNat)
  case atStart => exact ⟨0, xs.length, rfl, rfl, Nat.zero_le _, hple, Nat.le_refl _, new_pn _ _ _, below_al (Below.refl _ _)⟩
  case round =>
    obtain ⟨a, b, rfl, rfl, h1, h2, h3, hT, hb⟩ := hrel
    have HB := Lib.hid hb
    have HT := Lib.hid hT
    clear hb hT
    by_cases hlt : a < b
    · obtain ⟨j, hj⟩ : ∃ j, j = a + (b - a) / 2 := ⟨_, rfl⟩
      have g1 : a ≤ j := by omega
      have g2 : j < b := by omega
      have e0 : IntKind.i64.wrap ((b : Int) - a) = (b : Int) - a := wrap64_in (by omega) (by omega)
      have e1 : ((b : Int) - a).tdiv 2 = (j : Int) - a := by rw [Int.tdiv_eq_ediv_of_nonneg (by omega)]; omega
      have e2 : IntKind.i64.wrap ((j : Int) - a) = (j : Int) - a := wrap64_in (by omega) (by omega)
      have e3 : (a : Int) + ((j : Int) - a) = j := by omega
      have e4 : IntKind.i64.wrap (j : Int) = j := wrap64_in (by omega) (by omega)
      have HJ := Lib.hid hj
      clear hj
      obtain ⟨x, hx⟩ : ∃ x, xs[j]? = some x := ⟨_, List.getElem?_eq_getElem (by omega)⟩
      obtain ⟨bb, off, rfl, hX⟩ := (HA.out.below HB.out).pn hx
      have W2 := Lib.hid (show At2 w w.heap.size y bb (off + j * 6) x wr.drew from ⟨HT.out.drew, hX.drew, below_drewOf HB.out⟩)
      have HX := Lib.hid hx
      have HO := Lib.hid (fun w => paOrder x y w)
      have g3 : (0 : Int) ≤ j := by omega
      have g4 : (j : Int) < xs.length := by omega
      have e5 : IntKind.i64.wrap ((j : Int) + 1) = (j : Int) + 1 := wrap64_in (by omega) (by omega)
      clear hx hX
      by_cases hc : ordN x.p y.p < 0
      · have hjp : j < p := by
          rcases Nat.lt_or_ge j p with h | h
          · exact h
          · exact absurd hc (HP.out.hi j x h HX.out)
        go_wp2_with fail
        refine wide_all (At2 w w.heap.size y bb (off + j * 6) x) (by kernel_rfl) (by kernel_rfl) W2.out ?_
        repeat (first
          | go_big_quiet_skip
          | (go_big_quiet_want
             apply wide_op
             · (intro w5 h5; obtain ⟨⟨c0,c1,c2,c3,c4,c5⟩,⟨d0,d1,d2,d3,d4,d5⟩,hB5⟩ := id h5; go_simp; first | done | with_reducible rfl | ((refine (HO.out _).mono ?_; rintro e w6 ⟨rfl, hb6⟩; exact ⟨rfl, h5.next hb6⟩)))
             (try simp only [Act.put, List.setIfInBounds_toArray, List.set_cons_zero, List.set_cons_succ])
             go_big_quiet_on))
        refine wpQuiet_nil ?_
        intro w6 h6
        have H6 := Lib.hid h6
        clear h6
        go_wp2_with fail
        go_roundw
        case rel => exact ⟨j + 1, b, by go_num, rfl, by omega, h2, h3, H6.out.1, H6.out.2.2⟩
        case measure => simp [intOf]; have := HJ.out; omega
      · have hjp : p ≤ j := by
          rcases Nat.lt_or_ge j p with h | h
          · exact absurd (HP.out.lo j x h HX.out) hc
          · exact h
        have hc' : 0 ≤ ordN x.p y.p := by omega
        go_wp2_with fail
        refine wide_all (At2 w w.heap.size y bb (off + j * 6) x) (by kernel_rfl) (by kernel_rfl) W2.out ?_
        repeat (first
          | go_big_quiet_skip
          | (go_big_quiet_want
             apply wide_op
             · (intro w5 h5; obtain ⟨⟨c0,c1,c2,c3,c4,c5⟩,⟨d0,d1,d2,d3,d4,d5⟩,hB5⟩ := id h5; go_simp; first | done | with_reducible rfl | ((refine (HO.out _).mono ?_; rintro e w6 ⟨rfl, hb6⟩; exact ⟨rfl, h5.next hb6⟩)))
             (try simp only [Act.put, List.setIfInBounds_toArray, List.set_cons_zero, List.set_cons_succ])
             go_big_quiet_on))
        refine wpQuiet_nil ?_
        intro w6 h6
        have H6 := Lib.hid h6
        clear h6
        go_wp2_with fail
        go_roundw
        case rel => exact ⟨a, j, rfl, rfl, h1, hjp, by omega, H6.out.1, H6.out.2.2⟩
        case measure => simp [intOf]; have := HJ.out; omega
    · have e1 : a = p := by omega
      have e2 : a = b := by omega
      subst e2
      subst e1
      by_cases hlt2 : a < xs.length
      · obtain ⟨x, hx⟩ : ∃ x, xs[a]? = some x := ⟨_, List.getElem?_eq_getElem hlt2⟩
        obtain ⟨bb, off, rfl, hX⟩ := (HA.out.below HB.out).pn hx
        have hh := Lib.hid (show Pan.hit xs (fun x => ordN x.p y.p) a = decide (ordN x.p y.p = 0) from by unfold Pan.hit; rw [hx])
        have W2 := Lib.hid (show At2 w w.heap.size y bb (off + a * 6) x wr.drew from ⟨HT.out.drew, hX.drew, below_drewOf HB.out⟩)
        have HO := Lib.hid (fun w => paOrder x y w)
        clear hx hX
        have g3 : (0 : Int) ≤ a := by omega
        have g4 : (a : Int) < xs.length := by omega
        go_wp2_with fail
        refine wide_all (At2 w w.heap.size y bb (off + a * 6) x) (by kernel_rfl) (by kernel_rfl) W2.out ?_
        repeat (first
          | go_big_quiet_skip
          | (go_big_quiet_want
             apply wide_op
             · (intro w5 h5; obtain ⟨⟨c0,c1,c2,c3,c4,c5⟩,⟨d0,d1,d2,d3,d4,d5⟩,hB5⟩ := id h5; go_simp; first | done | with_reducible rfl | ((refine (HO.out _).mono ?_; rintro e w6 ⟨rfl, hb6⟩; exact ⟨rfl, h5.next hb6⟩)))
             (try simp only [Act.put, List.setIfInBounds_toArray, List.set_cons_zero, List.set_cons_succ])
             go_big_quiet_on))
        refine wpQuiet_nil ?_
        intro w6 h6
        have H6 := Lib.hid h6
        clear h6
        go_wp2_with fail
        go_ret2
        exact ⟨by rw [hh.out]; first | rfl | (simp [BEq.beq]; done), H6.out.2.2⟩
      · have hh := Lib.hid (show Pan.hit xs (fun x => ordN x.p y.p) a = false from by unfold Pan.hit; rw [List.getElem?_eq_none (by omega)])
        have g4 : decide ((a : Int) < xs.length) = false := decide_eq_false (by omega)
        have W1 := Lib.hid (show At1 w w.heap.size y wr.drew from ⟨HT.out.drew, below_drewOf HB.out⟩)
        go_wp2_with fail
        refine wide_all (At1 w w.heap.size y) (by kernel_rfl) (by kernel_rfl) W1.out ?_
        repeat (first
          | go_big_quiet_skip
          | (go_big_quiet_want
             apply wide_op
             · (intro w5 h5; obtain ⟨⟨c0,c1,c2,c3,c4,c5⟩,hB5⟩ := id h5; go_simp; first | done | with_reducible rfl)
             (try simp only [Act.put, List.setIfInBounds_toArray, List.set_cons_zero, List.set_cons_succ])
             go_big_quiet_on))
        refine wpQuiet_nil ?_
        intro w6 h6
        have H6 := Lib.hid h6
        clear h6
        go_wp2_with fail
        go_ret2
        exact ⟨by rw [hh.out]; rfl, H6.out.2⟩
end Go.Proofs.Ythfbcfddfbipfaa
