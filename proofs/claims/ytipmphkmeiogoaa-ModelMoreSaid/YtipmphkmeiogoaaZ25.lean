/- PaneAdd, ModMark, PaneMergeN, put together. -/
import Derived.Test.YtipmphkmeiogoaaZ24
import Derived.Test.YtipmphkmeiogoaaZ14
import Derived.Deep.RegionHeld3
import Derived.Test.YtipmphkmeiogoaaZ17
import Derived.Test.YtipmphkmeiogoaaZ18
/- Add, of package pane; alive. -/
namespace Go.Proofs.Ytipmphkmeiogoaa
open Go.RowKit
open Pan
set_option linter.unusedVariables false
set_option maxRecDepth 8000
theorem paMerge (k : Int) (xs ys : List Pn) (A A2 : Option Addr) (c c2 : Nat) (w : World) (hA : Row w A (pc xs)) (hA2 : Row w A2 (pc ys)) (hl : xs.length ≤ c) (hc : c ≤ 9223372036854775807) (hl2 : ys.length ≤ 9223372036854775807) :
    Calls Try.prog 50 #[.int .i64 k, .slice A xs.length c, .slice A2 ys.length c2] w (GivesPE (mOut k xs ys) w) := by
  by_cases h : (right xs && right ys && Acm.isK k) = true
  · have h2 := h
    rw [Bool.and_eq_true, Bool.and_eq_true] at h2
    exact paMerge_ok k xs ys A A2 c c2 w hA hA2 hl hc h2.1.1 h2.1.2 h2.2
  · have e : mOut k xs ys = ([], 1) := by unfold mOut; rw [if_neg h]
    rw [e]
    exact paMerge_arg k xs ys A A2 c c2 w hA hA2 (by omega) hl2 (by simpa using h)
structure MergeOf (k : Int) (xs ys : List Pn) (A : Option Addr) (n c : Nat) (w : World) : Prop where
  run : ∀ w' A2 m c2, Below w.heap.size w w' → Row w' A2 (pc ys) → m = ys.length → Calls Try.prog 50 #[.int .i64 k, .slice A n c, .slice A2 m c2] w' (GivesPE (mOut k xs ys) w')
theorem keepA {w a b : World} {p q : Addr} {x y : Value} (hb : Below a.heap.size a b) (h : a.cell? p = some x ∧ a.cell? q = some y ∧ Below w.heap.size w a) : b.cell? p = some x ∧ b.cell? q = some y ∧ Below w.heap.size w b :=
  ⟨cell_below h.1 hb, cell_below h.2.1 hb, below_next h.2.2 hb⟩
theorem third {a b c : Prop} (h : a ∧ b ∧ c) : c := h.2.2
set_option maxHeartbeats 2000000 in
theorem paAdd (k : Int) (xs : List Pn) (A : Option Addr) (c : Nat) (lo hi v : Int) (key : List UInt8) (w : World) (hA : Row w A (pc xs)) (hl : xs.length ≤ c) (hc : c ≤ 9223372036854775807) :
    Calls Try.prog 75 #[.slice A xs.length c, .int .i64 k, .string (kS key), .agg #[.int .i64 lo, .int .i64 hi], .int .i64 v] w (GivesPE (aOut k xs ⟨lo, hi, key⟩ v) w) := by
  have HO := Lib.hid (fun w => foldOne k v w)
  have HM : MergeOf k xs [⟨⟨lo, hi, key⟩, Acm.one k v⟩] A xs.length c w := ⟨fun w' A2 m c2 hb hr hm => by subst hm; exact paMerge k xs _ A A2 c c2 w' (hA.below hb) hr hl hc (by simp)⟩
  obtain ⟨r, hr⟩ : ∃ r, r = aOut k xs ⟨lo, hi, key⟩ v := ⟨_, rfl⟩
  have HR := Lib.hid (show mOut k xs [⟨⟨lo, hi, key⟩, Acm.one k v⟩] = r from hr.symm)
  rw [← hr]
  obtain ⟨z, hz⟩ : ∃ z, z = Acm.one k v := ⟨_, rfl⟩
  rw [← hz] at HO HM HR
  clear hr hz hA
  go_enter Try.func75, Try.ntmps75
  go_wp2_with fail
  have S0 : (w.alloc (.cells #[.int .i64 lo, .int .i64 hi] 48)).drew.cell? ⟨w.heap.size, 0, none⟩ = some (.int .i64 lo) ∧ (w.alloc (.cells #[.int .i64 lo, .int .i64 hi] 48)).drew.cell? ⟨w.heap.size, 1, none⟩ = some (.int .i64 hi) ∧ Below w.heap.size w (w.alloc (.cells #[.int .i64 lo, .int .i64 hi] 48)).drew :=
    ⟨(Lies.new w _ _).cell (j := 0) rfl, (Lies.new w _ _).cell (j := 1) rfl, below_drewOf (below_al (Below.refl _ _))⟩
  generalize w.alloc (.cells #[.int .i64 lo, .int .i64 hi] 48) = w1 at S0 ⊢
  go_region_held3 (fun w' => w'.cell? ⟨w.heap.size, 0, none⟩ = some (.int .i64 lo) ∧ w'.cell? ⟨w.heap.size, 1, none⟩ = some (.int .i64 hi) ∧ Below w.heap.size w w')
    (first | assumption | exact keepA hb5 (by assumption) | exact keepA (below_al (Below.refl _ _)) (by assumption))
    ((first
      | (go_at_call 91; refine (HO.out _).mono ?_; rintro e w5 ⟨rfl, hb5⟩; dsimp only)
      | (go_at_call 50; refine (HM.run _ _ _ _ (third (by assumption)) (one_row _ ⟨⟨lo, hi, key⟩, z⟩) rfl).mono ?_; rintro e w5 ⟨A1, c1, rfl, q1, q2, q3, hb5⟩; have Q3 := Lib.hid q3; clear q3; dsimp only)))
  rename_i hs
  have HB5 := Lib.hid hs.2.2
  rw [HR.out] at Q3 q1
  clear hs
  go_wp2_with fail
  go_ret2
  rw [HR.out]
  exact ⟨A1, c1, rfl, q1, q2, Q3.out, HB5.out⟩
end Go.Proofs.Ytipmphkmeiogoaa
/- Mark, and an event's panes, of package model. -/
namespace Go.Proofs.Ytipmphkmeiogoaa
open Go.RowKit Go.Shelf Tick
set_option linter.unusedVariables false
set_option maxRecDepth 8000
namespace Mo
open Gen (TellsI TellsB lies_new1)
open Jo (Jb Ev Sr evIs srcOk insOk jbC jbV srV evL Srs)
open Pan (Pl Pn adds)
def markOut (j : Jb) (s : Sr) : Int := if chk j [s] = 0 then markOf j 0 s.l else 0
set_option maxRecDepth 100000 in
set_option maxHeartbeats 600000 in
theorem mdMark (j : Jb) (s : Sr) (hlen : s.l.length ≤ 9223372036854775807) (w : World) (hr : Row w s.A (s.l.flatMap evL)) :
    Calls Try.prog 13 #[jbV j, srV s] w (TellsI (markOut j s) w) := by
  have HC := Lib.hid (fun w A c h hi => mdCheck j [s] A c w h hi)
  have hb0 := below_al (o := .cells (jbC j) 23) (Below.refl w.heap.size w)
  have hR1 := row_one1 (w.alloc (.cells (jbC j) 23)) s
  have hS1 : Srs ((w.alloc (.cells (jbC j) 23)).alloc (.cells #[srV s] 24)) [s] := srs_one (hr.below (below_al hb0)) hlen
  rw [World.size_alloc] at hR1
  have HR1 := Lib.hid hR1
  have HS1 := Lib.hid hS1
  have HB0 := Lib.hid (below_al (o := .cells #[srV s] 24) hb0)
  have HRW := Lib.hid hr
  have LJ := Lib.hid ((Lies.new w (jbC j) 23).al (o := .cells #[srV s] 24))
  unfold markOut
  by_cases hz : chk j [s] = 0
  · have h200 := (insOk_one (chk_ok hz).2).1
    rw [if_pos hz]
    rw [hz] at HC
    have H200 := Lib.hid h200
    clear hz h200 hlen hr hb0 hR1 hS1
    go_enter Try.func13, Try.ntmps13
    go_wp2_with fail
    refine (HC.out _ _ 1 HR1.out HS1.out).mono ?_
    rintro e w1 ⟨rfl, hb1⟩
    have HB1 := Lib.hid (below_next HB0.out hb1)
    have LJ1 := Lib.hid (LJ.out.below hb1)
    clear hb1
    go_wp2_with fail
    go_loopw [5, 15] (fun m i wr => ∃ k : Nat, m = .int .i64 (markOf j 0 (s.l.take k)) ∧ i = .int .i64 k ∧ k ≤ s.l.length ∧ Lies w.heap.size (jbC j) 23 wr ∧ Below w.heap.size w wr) (fun _ i _ => s.l.length - (intOf i).toNat)
    case atStart => exact ⟨0, rfl, rfl, Nat.zero_le _, LJ1.out, HB1.out⟩
    case round =>
      clear HB1 LJ1
      obtain ⟨k, rfl, rfl, hk, hlj, hb⟩ := hrel
      have HB := Lib.hid hb
      have LJ2 := Lib.hid hlj
      have hjb := lt_of_block hlj
      clear hb hlj
      by_cases hlt : k < s.l.length
      · obtain ⟨x, hx⟩ : ∃ x, s.l[k]? = some x := ⟨_, List.getElem?_eq_getElem hlt⟩
        obtain ⟨m, hm⟩ : ∃ m, m = markOf j 0 (s.l.take k) := ⟨_, rfl⟩
        have HMK : Hid (markOf j 0 (s.l.take (k + 1)) = mk j m x) := Lib.hid (by rw [take_push hx, mark_push, hm])
        obtain ⟨b, off, hA, d0, d1, d2⟩ := Jo.row_evC (HRW.out.below HB.out) hx
        have hw := wrapM (k := k) (by have := H200.out; omega)
        have HMA := Lib.hid (fun w => mdMarkAfter j m x w)
        have x0 := LJ2.out.cell (j := 0) rfl; have x1 := LJ2.out.cell (j := 1) rfl; have x2 := LJ2.out.cell (j := 2) rfl; have x3 := LJ2.out.cell (j := 3) rfl; have x4 := LJ2.out.cell (j := 4) rfl; have x5 := LJ2.out.cell (j := 5) rfl; have x6 := LJ2.out.cell (j := 6) rfl; have x7 := LJ2.out.cell (j := 7) rfl
        obtain ⟨m2, hm2⟩ : ∃ m2, m2 = mk j m x := ⟨_, rfl⟩
        rw [← hm2] at HMA HMK
        rw [← hm]
        obtain ⟨SA, sc, sl⟩ := s
        simp only [srV] at hA hlt hk ⊢
        subst hA
        clear hx hm hm2
        go_wp2_with fail
        refine (HMA.out _).mono ?_
        rintro e w2 ⟨rfl, hb2⟩
        have hB2 := below_next (below_al (o := .cells (evC x) 45) (Below.refl wr.heap.size wr)) hb2
        have LJ3 := Lib.hid (LJ2.out.below hB2)
        have HB2 := Lib.hid (below_next HB.out hB2)
        clear hb2 hB2 x0 x1 x2 x3 x4 x5 x6 x7 d0 d1 d2
        go_wp2_with fail
        go_roundw
        case rel => exact ⟨k + 1, by rw [HMK.out], rfl, by omega, LJ3.out, HB2.out⟩
        case measure => simp [intOf]; omega
      · have hkl : k = s.l.length := by omega
        have HD : Hid (markOf j 0 (s.l.take k) = markOf j 0 s.l) := Lib.hid (by rw [hkl, List.take_length])
        clear hkl
        go_wp2_with fail
        rw [HD.out]
        go_ret
        exact ⟨rfl, HB.out⟩
  · rw [if_neg hz]
    obtain ⟨z, hzz⟩ : ∃ z, z = chk j [s] := ⟨_, rfl⟩
    rw [← hzz] at hz HC
    have hzb : (z == 0) = false := ne_b hz
    have hz' := nb hz
    clear hzz hlen hr hb0 hR1 hS1
    go_enter Try.func13, Try.ntmps13
    go_wp2_with fail
    refine (HC.out _ _ 1 HR1.out HS1.out).mono ?_
    rintro e w1 ⟨rfl, hb1⟩
    have HB1 := Lib.hid (below_next HB0.out hb1)
    clear hb1
    go_wp2_with fail
    go_ret
    exact ⟨rfl, HB1.out⟩
/-- What the loop over an event's windows keeps. -/
structure PanAt (j : Jb) (e : Ev) (w wr : World) : Prop where
  job : Lies w.heap.size (jbC j) 23 wr
  ev : Lies (w.heap.size + 1) (evC e) 45 wr
  below : Below w.heap.size w wr
theorem PanAt.next {j : Jb} {e : Ev} {w a b : World} (h : PanAt j e w a) (hb : Below a.heap.size a b) : PanAt j e w b := ⟨h.job.below hb, h.ev.below hb, below_next h.below hb⟩
set_option maxRecDepth 100000 in
set_option maxHeartbeats 600000 in
theorem mdPanesOf (j : Jb) (hj : Jo.right j = true) (e : Ev) (he : evIs e = true) (w : World) :
    Calls Try.prog 51 #[jbV j, evV e] w (GivesP (panes j [e]) w) := by
  have HO := Lib.hid (fun w => winOf j.size j.slide e.at_ w)
  have hW16 := of_len16 j.size j.slide e.at_
  have HPUSH := Lib.hid (fun i p h => cells_push hj he (i := i) (p := p) h)
  have HEND : Hid (adds j.fold ((cells1 j e).take (Win.of j.size j.slide e.at_).length) = panes j [e]) := Lib.hid (by
    unfold panes
    rw [flat_one, List.take_of_length_le (by unfold cells1; rw [List.length_map]; exact Nat.le_refl _)])
  obtain ⟨xs, hxs⟩ : ∃ xs, xs = Win.of j.size j.slide e.at_ := ⟨_, rfl⟩
  rw [← hxs] at HO hW16 HPUSH HEND
  have HN := Lib.hid (fun i : Nat => show (adds j.fold ((cells1 j e).take i)).length ≤ 16 from Nat.le_trans (Pan.len_adds _ _) (by rw [List.length_take]; have := cells1_len j e; omega))
  have P0 : Hid (PanAt j e w ((w.alloc (.cells (jbC j) 23)).alloc (.cells (evC e) 45))) := Lib.hid ⟨(Lies.new w _ _).al, lies_new1 w _ _ _, below_al (below_al (Below.refl _ _))⟩
  have H16 := Lib.hid hW16
  clear hxs hj he hW16
  go_enter Try.func51, Try.ntmps51
  go_wp2_with fail
  refine (HO.out _).mono ?_
  rintro e1 w1 ⟨A, c, rfl, q1, q2, q3, hb1⟩
  have P1 := Lib.hid (P0.out.next hb1)
  have HW := Lib.hid q3
  clear q3 hb1
  go_wp2_with fail
  go_loopw [5, 16] (fun s i wr => ∃ (k : Nat) (A2 : Option Addr) (c2 : Nat), s = .slice A2 (adds j.fold ((cells1 j e).take k)).length c2 ∧ i = .int .i64 k ∧ k ≤ xs.length ∧ (adds j.fold ((cells1 j e).take k)).length ≤ c2 ∧ c2 ≤ maxLen ∧ Row wr A2 (pc (adds j.fold ((cells1 j e).take k))) ∧ PanAt j e w wr ∧ Row wr A (wc xs)) (fun _ i _ => xs.length - (intOf i).toNat)
  case atStart => exact ⟨0, none, 0, rfl, rfl, Nat.zero_le _, Nat.le_refl _, by simp [maxLen], Row.nil, P1.out, HW.out⟩
  case round =>
    clear P1 HW P0
    obtain ⟨k, A2, c2, rfl, rfl, hk, hc1, hc2, hrow, hP, hwr⟩ := hrel
    have HROW := Lib.hid hrow
    have HP := Lib.hid hP
    have HWR := Lib.hid hwr
    have hjb := lt_of_block hP.job
    have heb := lt_of_block hP.ev
    clear hrow hP hwr
    by_cases hlt : k < xs.length
    · obtain ⟨x, hx⟩ : ∃ x, xs[k]? = some x := ⟨_, List.getElem?_eq_getElem hlt⟩
      obtain ⟨b, off, rfl, d0, d1⟩ := HWR.out.win hx
      have HPU := Lib.hid (HPUSH.out k x hx)
      have hw := wrapM (k := k) (by have := H16.out; omega)
      obtain ⟨ys, hys⟩ : ∃ ys, ys = adds j.fold ((cells1 j e).take k) := ⟨_, rfl⟩
      obtain ⟨zs, hzs⟩ : ∃ zs, zs = adds j.fold ((cells1 j e).take (k + 1)) := ⟨_, rfl⟩
      rw [← hys] at hc1 HROW HPU ⊢
      have HZS := Lib.hid hzs
      rw [← hzs] at HPU
      have HADD : Hid (∀ w', Below wr.heap.size wr w' → Calls Try.prog 75 #[.slice A2 ys.length c2, .int .i64 j.fold, .string e.key, .agg #[.int .i64 x.1, .int .i64 x.2], .int .i64 e.val] w' (GivesPE (zs, 0) w')) := Lib.hid fun w' hb => by
        have h := paAdd j.fold ys A2 c2 x.1 x.2 e.val (kb e.key) w' (HROW.out.below hb) hc1 (by unfold maxLen at hc2; omega)
        rw [HPU.out, kS_kb] at h
        exact h
      have x1 := HP.out.job.cell (j := 3) rfl
      have e0 := HP.out.ev.cell (j := 0) rfl
      have e2 := HP.out.ev.cell (j := 2) rfl
      have HBX := Lib.hid (below_al (o := .cells #[.int .i64 x.1, .int .i64 x.2] 48) (Below.refl wr.heap.size wr))
      clear hx hys hzs hc1
      go_wp2_with fail
      refine (HADD.out _ HBX.out).mono ?_
      rintro e3 w3 ⟨A3, c3, rfl, r1, r2, r3, hb3⟩
      have hB3 := below_next HBX.out hb3
      have HP3 := Lib.hid (HP.out.next hB3)
      have HW3 := Lib.hid (HWR.out.below hB3)
      have HR3 := Lib.hid r3
      clear hb3 hB3 r3 x1 e0 e2 d0 d1
      go_wp2_with fail
      go_roundw
      case rel => exact ⟨k + 1, A3, c3, by rw [← HZS.out], rfl, by omega, by rw [← HZS.out]; exact r1, r2, by rw [← HZS.out]; exact HR3.out, HP3.out, HW3.out⟩
      case measure => simp [intOf]; omega
    · have hkl : k = xs.length := by omega
      subst hkl
      have HE := HEND.out
      rw [HE] at HROW hc1 ⊢
      clear HE
      go_wp2_with fail
      go_ret
      exact ⟨A2, c2, rfl, hc1, hc2, HROW.out, HP.out.below⟩
end Mo
end Go.Proofs.Ytipmphkmeiogoaa
/- Merge, of package pane, with what it tells of where the row lies: new memory. -/
namespace Go.Proofs.Ytipmphkmeiogoaa
open Go.RowKit
open Pan
set_option linter.unusedVariables false
set_option maxRecDepth 8000
/-- Hands back a new row of panes and an error; what was stays. -/
def GivesPN (r : List Pn × Int) (w : World) (e : Ending) (w' : World) : Prop :=
  ∃ A c, e = .returned (.tuple #[.slice A r.1.length c, .int .i64 r.2]) ∧ r.1.length ≤ c ∧ c ≤ maxLen ∧ Row w' A (pc r.1) ∧ Below w.heap.size w w' ∧ (∀ a, A = some a → w.heap.size ≤ a.block ∧ a.block < w'.heap.size)
set_option maxRecDepth 100000 in
set_option maxHeartbeats 4000000 in
theorem paMerge_okN (k : Int) (xs ys : List Pn) (A A2 : Option Addr) (c c2 : Nat) (w : World) (hA : Row w A (pc xs)) (hA2 : Row w A2 (pc ys)) (hl : xs.length ≤ c) (hc : c ≤ 9223372036854775807)
    (hr1 : right xs = true) (hr2 : right ys = true) (hk : Acm.isK k = true) : Calls Try.prog 50 #[.int .i64 k, .slice A xs.length c, .slice A2 ys.length c2] w (GivesPN (mOut k xs ys) w) := by
  obtain ⟨hx20, hxm, hxo⟩ := (right_iff xs).1 hr1
  obtain ⟨hy20, hym, hyo⟩ := (right_iff ys).1 hr2
  have HR1 := Lib.hid (paRight xs A c w hA (by omega))
  have HR2 := Lib.hid (fun w' (hb : Below w.heap.size w w') => paRight ys A2 c2 w' (hA2.below hb) (by omega))
  have HK := Lib.hid (foldRight k)
  have HO : Hid (mOut k xs ys = if bad k xs ys || decide (2000 < (mrg k xs ys).length) then ([], 3) else (mrg k xs ys, 0)) := Lib.hid (by unfold mOut; rw [hr1, hr2, hk]; rfl)
  rw [hr1] at HR1
  rw [hr2] at HR2
  rw [hk] at HK
  have HA := Lib.hid hA; have HA2 := Lib.hid hA2; have HXO := Lib.hid hxo; have HYO := Lib.hid hyo; have HYM := Lib.hid hym
  obtain ⟨i0, hi0, hz0, hz1, hz2⟩ := info_parts paInfo
  have HI0 := Lib.hid hi0; have HZ0 := Lib.hid hz0; have HZ1 := Lib.hid hz1; have HZ2 := Lib.hid hz2
  clear hA hA2 hxm hxo hym hyo hr1 hr2 hk hi0 hz0 hz1 hz2
  go_enter Try.func50, Try.ntmps50
  go_wp2_with fail
  refine HR1.out.mono ?_
  rintro e w1 ⟨rfl, hb1⟩
  have HB1 := Lib.hid hb1
  clear hb1
  go_wp2_with fail
  refine (HR2.out _ HB1.out).mono ?_
  rintro e w2 ⟨rfl, hb2⟩
  have HB2 := Lib.hid (below_next HB1.out hb2)
  clear hb2
  go_wp2_with fail
  refine (HK.out _).mono ?_
  rintro e w3 ⟨rfl, rfl⟩
  have e1 : IntKind.i64.wrap ((xs.length : Int) + ys.length) = (xs.length : Int) + ys.length := wrap64_in (by omega) (by omega)
  go_wp2_with (at_make; refine hold_mk ?_)
  refine hold_out ?_
  refine wpList_make_own _ rfl _ _ 65 rfl w.heap.size 82 i0 _ 6 Try.underlying65 HI0.out HZ0.out HZ1.out _ _ _ (xs.length + ys.length) rfl rfl (by omega) (by rw [HZ2.out]; omega) (by unfold maxLen; omega) HB2.out.size ?_
  intro w4 hown hg
  have HT : Hid (Built w w4 (.slice (some ⟨w2.heap.size, 0, none⟩) 0 (xs.length + ys.length)) []) := Lib.hid ⟨hown, HB2.out.grown hg HB2.out.size fun q hq => by cases hq⟩
  clear hown hg
  go_wp2_with fail
  go_loopw [1, 34, 8] (fun s i v wr => MRel k xs ys w s i v wr) (fun s i _ _ => ys.length - (intOf i).toNat)
  case atStart =>
    exact ⟨0, 0, [], A, c, rfl, rfl, by omega, hc, by rw [List.drop_zero]; exact HA.out, Nat.zero_le _, Nat.zero_le _, by simp [mrg], fun m hm => by simp at hm, by simp [bad], HT.out⟩
  case round =>
    obtain ⟨j, d, ms, A', c', rfl, rfl, hlc, hcc, hrow, hM⟩ := hrel
    have HM := Lib.hid hM
    have HROW := Lib.hid hrow
    have g1 := hM.hj
    have g2 := hM.hd
    have hms : ms.length + (xs.length - d) ≤ 4000 := by
      have h1 := congrArg List.length hM.eq
      have h2 := (mrg_len k (ys.take j) xs).2
      rw [List.length_append, List.length_drop] at h1
      rw [List.length_take] at h2
      omega
    clear hM hrow
    by_cases hlt : j < ys.length
    · obtain ⟨y, hy⟩ : ∃ y, ys[j]? = some y := ⟨_, List.getElem?_eq_getElem hlt⟩
      obtain ⟨b, off, rfl, c0, c1, c2, c3, c4, c5⟩ := (HA2.out.below HM.out.bt.below).pn hy
      have HY := Lib.hid hy
      obtain ⟨p, hp⟩ := cut_ex (ord_drop HXO.out d) y.p
      have HP := Lib.hid hp
      have hple := hp.le
      rw [List.length_drop] at hple
      have HF := Lib.hid (fun w' (hb : Below w.heap.size w w') => paFindP (xs.drop d) A' c' y p w' (HROW.out.below hb) (by rw [List.length_drop]; omega) hp)
      rw [List.length_drop] at HF
      obtain ⟨h, hh⟩ : ∃ h, h = Pan.hit (xs.drop d) (fun a => ordN a.p y.p) p := ⟨_, rfl⟩
      rw [← hh] at HF
      have HH := Lib.hid hh
      have HTK := Lib.hid ((HROW.out.takeP p))
      have HDR := Lib.hid ((HROW.out.dropP p))
      obtain ⟨n, hn⟩ : ∃ n, n = xs.length - d := ⟨_, rfl⟩
      rw [← hn] at hple HF hlc hms ⊢
      have HN := Lib.hid hn
      have g3 : (0 : Int) ≤ p := by omega
      have g4 : (p : Int) ≤ c' := by omega
      have g5 : (p : Int) ≤ n := by omega
      have HLB := Lib.hid (Lies.new wr (paC y) 82)
      have HBT := Lib.hid (HM.out.bt.up (below_al (o := .cells (paC y) 82) (Below.refl _ _)))
      have HFAR : Hid (∀ q, u8.ownBlock = some q → q < wr.heap.size) := Lib.hid fun q hq => (HM.out.bt.far hq).2
      have HN1 := Lib.hid (hYM_n (HYM.out y (List.mem_of_getElem? hy)))
      have HLT := Lib.hid (show ((xs.drop d).take p).length = p from by rw [List.length_take, List.length_drop]; omega)
      clear hy hp hh hn
      go_wp2_with fail
      refine (HF.out _ HBT.out.below).mono ?_
      rintro e w5 ⟨rfl, hb5⟩
      have HLB5 := Lib.hid (HLB.out.below hb5)
      have HBT5 := Lib.hid (HBT.out.up hb5)
      have hsz5 := hb5.size
      rw [World.size_alloc] at hsz5
      clear hb5
      go_wp2_with (at_builtin; refine hold_mk ?_)
      refine hold_out ?_
      refine wpPush rfl _ _ rfl _ ms rfl HBT5.out A' p c' ((xs.drop d).take p) rfl (HTK.out.below HBT5.out.below) HLT.out.symm (by rw [HLT.out]; omega) ?_
      intro v6 w6 bt6 hg6 hat6
      have hne : u8.ownBlock ≠ some wr.heap.size := fun e => by have := HFAR.out _ e; omega
      have HLB6 := Lib.hid (lies_grown HLB5.out hg6 hne)
      have HBT6 := Lib.hid bt6
      have HFAR6 : Hid (v6.ownBlock ≠ some wr.heap.size) := Lib.hid (by
        rcases hat6 with h | h
        · rw [h]; exact hne
        · rw [h]; intro e; have := Option.some.inj e; omega)
      have hsz6 := hg6.size
      clear bt6 hg6 hat6 hne
      cases h
      · -- its like is not there
        have HMISS := Lib.hid (ins_miss (k := k) HP.out HH.out.symm)
        have HNB := Lib.hid (hitK_miss (k := k) (ord_drop HXO.out d) HP.out HH.out.symm)
        have hn1 := HN1.out
        have l3 := HLB6.out.cell (j := 3) rfl
        have l0 := HLB6.out.cell (j := 0) rfl; have l1 := HLB6.out.cell (j := 1) rfl; have l2 := HLB6.out.cell (j := 2) rfl; have l4 := HLB6.out.cell (j := 4) rfl; have l5 := HLB6.out.cell (j := 5) rfl
        have hd1 : decide (y.acc.n < 1) = false := decide_eq_false (by omega)
        by_cases hcp : c' = p
        all_goals
          go_wp2_with (at_builtin; refine hold_mk ?_)
          refine hold_out ?_
          refine wpPush rfl _ _ rfl v6 _ rfl (HBT6.out.up (below_al (o := .cells (paC y) 82) (Below.refl _ _))) _ 1 1 [y] rfl (one_row _ y) rfl (by rw [List.length_append, HLT.out]; simp; omega) ?_
          intro v7 w7 bt7 _ _
          have HBT7 := Lib.hid bt7
          clear bt7
          go_wp2_with fail
          go_roundw
          case rel =>
            refine ⟨j + 1, d + p, ms ++ (xs.drop d).take p ++ [y], _, _, by go_num, by rw [show xs.length - (d + p) = n - p by have := HN.out; omega], by rw [show xs.length - (d + p) = n - p by have := HN.out; omega]; omega, by omega, ?_, ?_⟩
            · rw [← List.drop_drop]
              first
                | exact HDR.out
                | (have hnil : (xs.drop d).drop p = [] := List.drop_eq_nil_of_le (by rw [List.length_drop]; have := HN.out; omega)
                   rw [hnil]; exact Row.nil)
            · exact HM.out.miss HY.out HYO.out HP.out HMISS.out HNB.out HBT7.out (by have := HN.out; omega)
          case measure => simp [intOf]; omega
      · -- it is
        obtain ⟨a, ha, hae⟩ := hit_true HH.out.symm
        have hae := (ordN_eq _ _).1 hae
        have HHIT := Lib.hid (ins_hit (k := k) HP.out ha hae)
        have HNB := Lib.hid (hitK_hit (k := k) (ord_drop HXO.out d) HP.out ha hae)
        obtain ⟨b2, off2, rfl, hX⟩ := HROW.out.pn ha
        have hpn : p < n := by have := (List.getElem?_eq_some_iff.1 ha).1; rw [List.length_drop] at this; have := HN.out; omega
        have hcp : ¬ c' = p := by omega
        obtain ⟨r, hr⟩ : ∃ r, n - p = r + 1 := ⟨n - p - 1, by omega⟩
        obtain ⟨q, hq⟩ : ∃ q, c' - p = q + 1 := ⟨c' - p - 1, by omega⟩
        have HJ := Lib.hid (fun w => foldJoin k a.acc y.acc w)
        obtain ⟨z, hz⟩ : ∃ z, z = Acm.join k a.acc y.acc := ⟨_, rfl⟩
        rw [← hz] at HJ HHIT HNB
        have W2 := Lib.hid (show MC wr.heap.size y b2 (off2 + p * 6) a w v6 (ms ++ (xs.drop d).take p) w6.drew from ⟨HLB6.out.drew, (hX.below HBT6.out.below).drew, HBT6.out.drew⟩)
        have HHA := Lib.hid ha
        have HHE := Lib.hid hae
        clear ha hae hX hz
        go_wp2_with fail
        refine wide_tail 9 (MC wr.heap.size y b2 (off2 + p * 6) a w v6 (ms ++ (xs.drop d).take p)) (by kernel_rfl) (by kernel_rfl) W2.out ?_
        simp only [List.take_succ_cons, List.take_zero, List.drop_succ_cons, List.drop_zero]
        repeat (first
          | go_big_quiet_skip
          | (go_big_quiet_want
             apply wide_op
             · (intro w5 h5; obtain ⟨hL5,⟨d0,d1,d2,d3,d4,d5⟩,hB5⟩ := id h5; have l3 := hL5.cell (j := 3) rfl; have l4 := hL5.cell (j := 4) rfl; have l5 := hL5.cell (j := 5) rfl; go_simp; first | done | with_reducible rfl | ((refine (HJ.out _).mono ?_; rintro e w6 ⟨rfl, hb6⟩; exact ⟨rfl, h5.1.below hb6, h5.2.1.below hb6, h5.2.2.up hb6⟩)))
             (try simp only [Act.put, List.setIfInBounds_toArray, List.set_cons_zero, List.set_cons_succ])
             go_big_quiet_on))
        refine wpQuiet_nil ?_
        intro w7 h7
        have HLB7 := Lib.hid h7.1
        have HBT7 := Lib.hid h7.2.2
        have hsz7 := h7.2.2.below.size
        have l0 := h7.1.cell (j := 0) rfl; have l1 := h7.1.cell (j := 1) rfl; have l2 := h7.1.cell (j := 2) rfl
        have l3 := h7.1.cell (j := 3) rfl; have l4 := h7.1.cell (j := 4) rfl; have l5 := h7.1.cell (j := 5) rfl
        have f3 := h7.1.free 3; have f4 := h7.1.free 4; have f5 := h7.1.free 5
        clear h7
        have hw0 : w.heap.size ≤ wr.heap.size := HM.out.bt.below.size
        have HDR2 := HROW.out.dropP (p + 1)
        rw [Option.map_some, Go.WideShapes.add_plain, List.drop_drop, show off2 + (p + 1) * 6 = off2 + p * 6 + 6 by omega] at HDR2
        have HDR2 := Lib.hid HDR2
        by_cases hz1 : z.n < 1
        · have HFULL : Hid (mOut k xs ys = ([], 3)) := Lib.hid (by rw [HO.out, HM.out.full HY.out (by rw [HNB.out]; exact decide_eq_true hz1)]; rfl)
          by_cases hc1 : q = 0
          all_goals
            go_wp2_with fail
            go_ret2
            rw [HFULL.out]
            exact ⟨none, 0, rfl, Nat.le_refl _, by simp [maxLen], Row.nil, (((HBT7.out.set (o := 3) HFAR6.out hw0 _).set (o := 4) HFAR6.out hw0 _).set (o := 5) HFAR6.out hw0 _).below, fun a ha => by cases ha⟩
        · have hd1 : decide (z.n < 1) = false := decide_eq_false hz1
          have HNB2 : Hid (hitK k y (xs.drop d) = false) := Lib.hid (HNB.out.trans hd1)
          by_cases hc1 : q = 0
          all_goals
            go_wp2_with (at_builtin; refine hold_mk ?_)
            refine hold_out ?_
            refine wpPush rfl _ _ rfl v6 _ rfl ((((HBT7.out.set (o := 3) HFAR6.out hw0 _).set (o := 4) HFAR6.out hw0 _).set (o := 5) HFAR6.out hw0 _).up (below_al (o := .cells (paC ⟨y.p, z⟩) 82) (Below.refl _ _))) _ 1 1 [⟨y.p, z⟩] rfl (by have h := one_row (((w7.setCell ⟨wr.heap.size, 3, none⟩ (.int .i64 z.n)).setCell ⟨wr.heap.size, 4, none⟩ (.int .i64 z.a)).setCell ⟨wr.heap.size, 5, none⟩ (.int .i64 z.b)) ⟨y.p, z⟩; simp only [World.size_setCell] at h; exact h) rfl (by rw [List.length_append, HLT.out]; simp; omega) ?_
            intro v8 w8 bt8 _ _
            have HBT8 := Lib.hid bt8
            clear bt8
            go_wp2_with fail
            go_roundw
            case rel =>
              have h1 : xs.length - (d + (p + 1)) = r := by have := HN.out; omega
              refine ⟨j + 1, d + (p + 1), ms ++ (xs.drop d).take p ++ [⟨y.p, z⟩], _, _, by go_num, by rw [h1], by rw [h1]; omega, by omega, ?_, ?_⟩
              · first
                  | exact HDR2.out
                  | (have hnil : xs.drop (d + (p + 1)) = [] := List.drop_eq_nil_of_le (by have := HN.out; omega)
                     rw [hnil]; exact Row.nil)
              · exact HM.out.hit HY.out HYO.out HP.out HHIT.out HNB2.out HHE.out HBT8.out (by have := HN.out; omega)
            case measure => simp [intOf]; omega
    · have hj : j = ys.length := by omega
      have HEQ := Lib.hid (show ms ++ xs.drop d = mrg k xs ys from by rw [HM.out.eq, hj, List.take_length])
      have HBAD := Lib.hid (show bad k xs ys = false from by have := HM.out.nb; rwa [hj, List.take_length] at this)
      have hbt := HM.out.bt
      have HB := Lib.hid hbt.below
      go_wp2_with (at_builtin; refine hold_mk ?_)
      refine hold_out ?_
      refine wpPush rfl _ _ rfl _ ms rfl HM.out.bt A' (xs.length - d) c' (xs.drop d) rfl (HROW.out.below HB.out) (by rw [List.length_drop]) (by rw [List.length_drop]; omega) ?_
      intro v6 w6 bt6 _ _
      rw [HEQ.out] at bt6
      obtain ⟨A5, c5, rfl, q1, q2, _, q3, q4⟩ := own_form bt6.own (by omega)
      have Q4 := Lib.hid q4
      have HB6 := Lib.hid bt6.below
      have Q3 := Lib.hid q3
      clear bt6 q3 q4 hbt
      by_cases hm : 2000 < (mrg k xs ys).length
      · have HFULL : Hid (mOut k xs ys = ([], 3)) := Lib.hid (by rw [HO.out, decide_eq_true hm, Bool.or_true]; rfl)
        have hm2 : (2000 : Int) < ((mrg k xs ys).length : Int) := by omega
        go_wp2_with fail
        go_ret2
        rw [HFULL.out]
        exact ⟨none, 0, rfl, Nat.le_refl _, by simp [maxLen], Row.nil, HB6.out, fun a ha => by cases ha⟩
      · have HOK : Hid (mOut k xs ys = (mrg k xs ys, 0)) := Lib.hid (by rw [HO.out, HBAD.out, decide_eq_false hm]; rfl)
        have hm2 : decide ((2000 : Int) < ((mrg k xs ys).length : Int)) = false := decide_eq_false (by omega)
        go_wp2_with fail
        go_ret2
        rw [HOK.out]
        exact ⟨A5, c5, rfl, q1, q2, Q3.out, HB6.out, Q4.out⟩
end Go.Proofs.Ytipmphkmeiogoaa
