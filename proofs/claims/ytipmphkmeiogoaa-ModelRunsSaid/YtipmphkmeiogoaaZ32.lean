/- FoldJoinR, PaneWith, put together. -/
import Derived.Test.YtipmphkmeiogoaaZ8
import Derived.Test.YtipmphkmeiogoaaZ24
import Derived.Test.YtipmphkmeiogoaaZ14
/- Contract of the reference's Join. -/
namespace Go.Proofs.Ytipmphkmeiogoaa
open Go.RowKit
open Acm
set_option linter.unusedVariables false
set_option maxRecDepth 8000
theorem rfLeast (a b : Int) (w : World) : Calls Try.prog 77 #[.int .i64 a, .int .i64 b] w fun e w' => e = .returned (.int .i64 (lo a b)) ∧ w = w' := by
  by_cases h : b < a
  all_goals
    have hc := Lib.hid (show lo a b = _ from by unfold lo; first | exact if_pos h | exact if_neg h)
    go_enter Try.func77, Try.ntmps77
    go_wp2
    go_ret
    exact ⟨by rw [hc.out]; rfl, rfl⟩
theorem rfMost (a b : Int) (w : World) : Calls Try.prog 78 #[.int .i64 a, .int .i64 b] w fun e w' => e = .returned (.int .i64 (hi a b)) ∧ w = w' := by
  by_cases h : a < b
  all_goals
    have hc := Lib.hid (show hi a b = _ from by unfold hi; first | exact if_pos h | exact if_neg h)
    go_enter Try.func78, Try.ntmps78
    go_wp2
    go_ret
    exact ⟨by rw [hc.out]; rfl, rfl⟩
theorem lies_third (w : World) (a b o : Obj) (c : Array Value) (T : TypeId) : Lies (w.heap.size + 1 + 1) c T ((((w.alloc a).alloc b).alloc (.cells c T)).alloc o) := by
  simpa only [World.size_alloc] using (Lies.new ((w.alloc a).alloc b) c T).al (o := o)
theorem below_al4 (w : World) (a b c d : Obj) : Below w.heap.size w ((((w.alloc a).alloc b).alloc c).alloc d) := below_al (below_al (below_al (below_al (Below.refl _ _))))
theorem rj_ret {w wF : World} {R : Nat} {x : Ac} {act : Act} (ht : act.tmps.getD 6 undef = .pointer (some ⟨R, 0, none⟩)) (hd : act.defers = []) (hL : Lies R (acC x) 77 wF) (hB : Below w.heap.size w wF) :
    bodyPost Try.prog Try.f58 (GivesAc x w) .ret act wF := by
  have c0 := hL.cell (j := 0) rfl
  have c1 := hL.cell (j := 1) rfl
  have c2 := hL.cell (j := 2) rfl
  refine bodyPost_ret (v := acV x) ?_ hd ⟨rfl, hB⟩
  have ht2 : act.tmps[6]?.getD undef = .pointer (some ⟨R, 0, none⟩) := by simpa using ht
  simp [results, Try.results58, go_sem, ht2, c0, c1, c2]
theorem rfJoin_bad {k : Int} (h : ¬ (1 ≤ k ∧ k ≤ 5)) (x y : Ac) (w : World) : Calls Try.prog 58 #[.int .i64 k, acV x, acV y] w (GivesAc zero w) := by
  by_cases h1 : k < 1
  · clear h
    go_enter Try.func58, Try.ntmps58
    go_wp2_with fail
    exact bodyPost_ret (v := acV zero) (by simp [results, Try.results58, go_sem]) rfl ⟨rfl, (((Below.refl _ _).alloc (Nat.le_refl _) _).alloc (by simp) _).alloc (by simp; omega) _⟩
  · have h5 : 5 < k := by omega
    have h1' : decide (k < 1) = false := decide_eq_false h1
    clear h h1
    go_enter Try.func58, Try.ntmps58
    go_wp2_with fail
    exact bodyPost_ret (v := acV zero) (by simp [results, Try.results58, go_sem]) rfl ⟨rfl, (((Below.refl _ _).alloc (Nat.le_refl _) _).alloc (by simp) _).alloc (by simp; omega) _⟩
theorem rfJoin_l {k : Int} (h : 1 ≤ k ∧ k ≤ 5) (x y : Ac) (hx : x.n = 0) (w : World) : Calls Try.prog 58 #[.int .i64 k, acV x, acV y] w (GivesAc y w) := by
  have h1 : decide (k < 1) = false := decide_eq_false (by omega)
  have h2 : decide (5 < k) = false := decide_eq_false (by omega)
  clear h
  have hb := eq_b hx
  clear hx
  go_enter Try.func58, Try.ntmps58
  go_wp2_with fail
  exact bodyPost_ret (v := acV y) (by simp [results, Try.results58, go_sem]) rfl ⟨rfl, (((Below.refl _ _).alloc (Nat.le_refl _) _).alloc (by simp) _).alloc (by simp; omega) _⟩
theorem rfJoin_r {k : Int} (h : 1 ≤ k ∧ k ≤ 5) (x y : Ac) (hx : x.n ≠ 0) (hy : y.n = 0) (w : World) : Calls Try.prog 58 #[.int .i64 k, acV x, acV y] w (GivesAc x w) := by
  have h1 : decide (k < 1) = false := decide_eq_false (by omega)
  have h2 : decide (5 < k) = false := decide_eq_false (by omega)
  clear h
  have hb := ne_b hx
  have hc := eq_b hy
  clear hx hy
  go_enter Try.func58, Try.ntmps58
  go_wp2_with fail
  exact bodyPost_ret (v := acV x) (by simp [results, Try.results58, go_sem]) rfl ⟨rfl, (((Below.refl _ _).alloc (Nat.le_refl _) _).alloc (by simp) _).alloc (by simp; omega) _⟩
theorem rfJoin_1 (x y : Ac) (hx : x.n ≠ 0) (hy : y.n ≠ 0) (w : World) : Calls Try.prog 58 #[.int .i64 1, acV x, acV y] w (GivesAc (both 1 x y) w) := by
  have hb := ne_b hx
  have hc := ne_b hy
  clear hx hy
  go_enter Try.func58, Try.ntmps58
  go_wp2_with (first | (go_at_call 77; refine (rfLeast _ _ _).mono ?_; rintro e w5 ⟨rfl, rfl⟩) | (go_at_call 78; refine (rfMost _ _ _).mono ?_; rintro e w5 ⟨rfl, rfl⟩))
  exact rj_ret (R := w.heap.size + 1 + 1) (x := both 1 x y) rfl rfl (lies_third _ _ _ _ _ _) (below_al4 _ _ _ _ _)
theorem rfJoin_2 (x y : Ac) (hx : x.n ≠ 0) (hy : y.n ≠ 0) (w : World) : Calls Try.prog 58 #[.int .i64 2, acV x, acV y] w (GivesAc (both 2 x y) w) := by
  have hb := ne_b hx
  have hc := ne_b hy
  clear hx hy
  go_enter Try.func58, Try.ntmps58
  go_wp2_with (first | (go_at_call 77; refine (rfLeast _ _ _).mono ?_; rintro e w5 ⟨rfl, rfl⟩) | (go_at_call 78; refine (rfMost _ _ _).mono ?_; rintro e w5 ⟨rfl, rfl⟩))
  exact rj_ret (R := w.heap.size + 1 + 1) (x := both 2 x y) rfl rfl (lies_third _ _ _ _ _ _) (below_al4 _ _ _ _ _)
theorem rfJoin_3 (x y : Ac) (hx : x.n ≠ 0) (hy : y.n ≠ 0) (w : World) : Calls Try.prog 58 #[.int .i64 3, acV x, acV y] w (GivesAc (both 3 x y) w) := by
  have hb := ne_b hx
  have hc := ne_b hy
  clear hx hy
  go_enter Try.func58, Try.ntmps58
  go_wp2_with (first | (go_at_call 77; refine (rfLeast _ _ _).mono ?_; rintro e w5 ⟨rfl, rfl⟩) | (go_at_call 78; refine (rfMost _ _ _).mono ?_; rintro e w5 ⟨rfl, rfl⟩))
  exact rj_ret (R := w.heap.size + 1 + 1) (x := both 3 x y) rfl rfl (lies_third _ _ _ _ _ _) (below_al4 _ _ _ _ _)
theorem rfJoin_4 (x y : Ac) (hx : x.n ≠ 0) (hy : y.n ≠ 0) (w : World) : Calls Try.prog 58 #[.int .i64 4, acV x, acV y] w (GivesAc (both 4 x y) w) := by
  have hb := ne_b hx
  have hc := ne_b hy
  clear hx hy
  go_enter Try.func58, Try.ntmps58
  go_wp2_with (first | (go_at_call 77; refine (rfLeast _ _ _).mono ?_; rintro e w5 ⟨rfl, rfl⟩) | (go_at_call 78; refine (rfMost _ _ _).mono ?_; rintro e w5 ⟨rfl, rfl⟩))
  exact rj_ret (R := w.heap.size + 1 + 1) (x := both 4 x y) rfl rfl (lies_third _ _ _ _ _ _) (below_al4 _ _ _ _ _)
theorem rfJoin_5 (x y : Ac) (hx : x.n ≠ 0) (hy : y.n ≠ 0) (w : World) : Calls Try.prog 58 #[.int .i64 5, acV x, acV y] w (GivesAc (both 5 x y) w) := by
  have hb := ne_b hx
  have hc := ne_b hy
  clear hx hy
  go_enter Try.func58, Try.ntmps58
  go_wp2_with (first | (go_at_call 77; refine (rfLeast _ _ _).mono ?_; rintro e w5 ⟨rfl, rfl⟩) | (go_at_call 78; refine (rfMost _ _ _).mono ?_; rintro e w5 ⟨rfl, rfl⟩))
  exact rj_ret (R := w.heap.size + 1 + 1) (x := both 5 x y) rfl rfl (lies_third _ _ _ _ _ _) (below_al4 _ _ _ _ _)
theorem rfJoin (k : Int) (x y : Ac) (w : World) : Calls Try.prog 58 #[.int .i64 k, acV x, acV y] w (GivesAc (join k x y) w) := by
  by_cases h : 1 ≤ k ∧ k ≤ 5
  · by_cases hx : x.n = 0
    · rw [join_l h hx]; exact rfJoin_l h x y hx w
    · by_cases hy : y.n = 0
      · rw [join_r h hx hy]; exact rfJoin_r h x y hx hy w
      · rw [join_b h hx hy]
        rcases kinds h with rfl | rfl | rfl | rfl | rfl
        · exact rfJoin_1 x y hx hy w
        · exact rfJoin_2 x y hx hy w
        · exact rfJoin_3 x y hx hy w
        · exact rfJoin_4 x y hx hy w
        · exact rfJoin_5 x y hx hy w
  · rw [join_bad h]; exact rfJoin_bad h x y w
end Go.Proofs.Ytipmphkmeiogoaa
/- With, of the reference. -/
namespace Go.Proofs.Ytipmphkmeiogoaa
open Go.RowKit
open Pan
set_option linter.unusedVariables false
set_option maxRecDepth 8000
theorem rfSameB (x y : Pn) (w : World) : Calls Try.prog 57 #[paV x, paV y] w (TellsB (decide (x.p = y.p)) w) :=
  (rfSame x y w).mono fun e w' ⟨h1, h2⟩ => ⟨h1, by rw [h2]; exact below_al (below_al (Below.refl _ _))⟩
/-- What stands in memory in a round: the box of x, what is built. -/
structure WIn (w0 : World) (x : Pn) (v : Value) (out : List Pn) (w : World) : Prop where
  box : Lies w0.heap.size (paC x) 82 w
  bt : Built w0 w v out
  ne : v.ownBlock ≠ some w0.heap.size
theorem WIn.up {w0 a b : World} {x : Pn} {v : Value} {out : List Pn} (h : WIn w0 x v out a) (hb : Below a.heap.size a b) : WIn w0 x v out b := ⟨h.box.below hb, h.bt.up hb, h.ne⟩
theorem WIn.push {w0 a b : World} {x : Pn} {v v' : Value} {out out' : List Pn} (h : WIn w0 x v out a) (bt : Built w0 b v' out') (hg : a.grownBy b v.ownBlock) (hat : v'.ownBlock = v.ownBlock ∨ v'.ownBlock = some a.heap.size) : WIn w0 x v' out' b :=
  ⟨lies_grown h.box hg h.ne, bt, by
    rcases hat with e | e
    · rw [e]; exact h.ne
    · rw [e]; intro e2; have := Option.some.inj e2; have := lt_of_block h.box; omega⟩
def WRel (k : Int) (x : Pn) (xs : List Pn) (w : World) (v f i : Value) (wr : World) : Prop :=
  ∃ (j : Nat) (put : Bool) (out : List Pn), i = .int .i64 j ∧ f = .bool put ∧ WAt k x xs j put out ∧ WIn w x v out wr
set_option maxRecDepth 100000 in
set_option maxHeartbeats 4000000 in
theorem rfWith (k : Int) (x : Pn) (xs : List Pn) (A : Option Addr) (c : Nat) (w : World) (hA : Row w A (pc xs)) (hl : xs.length ≤ 2000) (hord : Pan.Ord xs) :
    Calls Try.prog 36 #[.slice A xs.length c, .int .i64 k, paV x] w (GivesPE (wOut k x xs) w) := by
  have HA := Lib.hid hA; have HORD := Lib.hid hord
  have HW0 : Hid (WIn w x (.slice (some ⟨w.heap.size + 1, 0, none⟩) 0 0) [] ((w.alloc (.cells (paC x) 82)).alloc (.cells #[] 82))) := Lib.hid
    ⟨(Lies.new w _ _).al, ⟨by have h := own_new (B := w.heap.size) (e := 82) (size := 6) (w := w.alloc (.cells (paC x) 82)) (by simp); rw [World.size_alloc] at h; exact h, below_al (below_al (Below.refl _ _))⟩, by intro e; have := Option.some.inj (show some (w.heap.size + 1) = some w.heap.size from e); omega⟩
  clear hA hord
  go_enter Try.func36, Try.ntmps36
  go_wp2_with fail
  go_loopw [8, 9, 15] (fun v f i wr => WRel k x xs w v f i wr) (fun _ _ i _ => xs.length - (intOf i).toNat)
  case atStart => exact ⟨0, false, [], rfl, rfl, WAt.start k x xs, HW0.out⟩
  case round =>
    obtain ⟨j, put, out, rfl, rfl, hat, hin⟩ := hrel
    have HAT := Lib.hid hat
    have HIN := Lib.hid hin
    have hj := hat.hj
    have hol := hat.len
    have hx0 := lt_of_block hin.box
    clear hat hin
    by_cases hlt : j < xs.length
    · obtain ⟨y, hy⟩ : ∃ y, xs[j]? = some y := ⟨_, List.getElem?_eq_getElem hlt⟩
      obtain ⟨b, off, rfl, c0, c1, c2, c3, c4, c5⟩ := (HA.out.below HIN.out.bt.below).pn hy
      have HY := Lib.hid hy
      have l0 := HIN.out.box.cell (j := 0) rfl; have l1 := HIN.out.box.cell (j := 1) rfl; have l2 := HIN.out.box.cell (j := 2) rfl; have l3 := HIN.out.box.cell (j := 3) rfl; have l4 := HIN.out.box.cell (j := 4) rfl; have l5 := HIN.out.box.cell (j := 5) rfl
      have HP1 := Lib.hid (Lies.new wr (paC y) 82)
      have HIN1 := Lib.hid (HIN.out.up (below_al (o := .cells (paC y) 82) (Below.refl _ _)))
      have HFAR : Hid (u8.ownBlock ≠ some wr.heap.size) := Lib.hid fun e => by have := (HIN.out.bt.far e).2; omega
      have hw0 : w.heap.size ≤ wr.heap.size := HIN.out.bt.below.size
      clear hy
      go_wp2_with fail
      clear l0 l1 l2 l3 l4 l5 c0 c1 c2 c3 c4 c5
      refine (rfSameB y x _).mono ?_
      rintro e w5 ⟨rfl, hb5⟩
      have HP5 := Lib.hid (HP1.out.below hb5)
      have HIN5 := Lib.hid (HIN1.out.up hb5)
      have hsz5 := hb5.size
      rw [World.size_alloc] at hsz5
      clear hb5
      have l0 := HIN5.out.box.cell (j := 0) rfl; have l1 := HIN5.out.box.cell (j := 1) rfl; have l2 := HIN5.out.box.cell (j := 2) rfl; have l3 := HIN5.out.box.cell (j := 3) rfl; have l4 := HIN5.out.box.cell (j := 4) rfl; have l5 := HIN5.out.box.cell (j := 5) rfl
      have p0 := HP5.out.cell (j := 0) rfl; have p1 := HP5.out.cell (j := 1) rfl; have p2 := HP5.out.cell (j := 2) rfl; have p3 := HP5.out.cell (j := 3) rfl; have p4 := HP5.out.cell (j := 4) rfl; have p5 := HP5.out.cell (j := 5) rfl
      by_cases he : y.p = x.p
      · have hd : decide (y.p = x.p) = true := decide_eq_true he
        have HE := Lib.hid he
        rw [hd]
        cases put
        case true => exact absurd he (HAT.out.ne HORD.out HY.out)
        case false =>
          have HJ := Lib.hid (fun w => rfJoin k y.acc x.acc w)
          have HFULL := Lib.hid (fun h => WAt.full (k := k) HY.out he h)
          have HSAME : Hid (1 ≤ (Acm.join k y.acc x.acc).n → WAt k x xs (j + 1) true (out ++ [⟨y.p, Acm.join k y.acc x.acc⟩])) := Lib.hid (fun h => HAT.out.same HY.out he (by omega))
          obtain ⟨z, hz⟩ : ∃ z, z = Acm.join k y.acc x.acc := ⟨_, rfl⟩
          rw [← hz] at HJ HFULL HSAME
          clear hz he hd
          go_wp2_with fail
          clear l0 l1 l2 l3 l4 l5 p0 p1 p2 p3 p4 p5
          refine (HJ.out _).mono ?_
          rintro e w6 ⟨rfl, hb6⟩
          have HP6 := Lib.hid (HP5.out.below hb6)
          have HIN6 := Lib.hid (HIN5.out.up hb6)
          have hsz6 := hb6.size
          clear hb6
          have p0 := HP6.out.cell (j := 0) rfl; have p1 := HP6.out.cell (j := 1) rfl; have p2 := HP6.out.cell (j := 2) rfl; have p3 := HP6.out.cell (j := 3) rfl; have p4 := HP6.out.cell (j := 4) rfl; have p5 := HP6.out.cell (j := 5) rfl
          have f3 := HP6.out.free 3; have f4 := HP6.out.free 4; have f5 := HP6.out.free 5
          have HNEX : Hid (w.heap.size ≠ wr.heap.size) := Lib.hid (by omega)
          have HIN7 : Hid (WIn w x u8 out (((w6.setCell ⟨wr.heap.size, 3, none⟩ (.int .i64 z.n)).setCell ⟨wr.heap.size, 4, none⟩ (.int .i64 z.a)).setCell ⟨wr.heap.size, 5, none⟩ (.int .i64 z.b))) := Lib.hid
            ⟨((HIN6.out.box.other HNEX.out 3 _).other HNEX.out 4 _).other HNEX.out 5 _, ((HIN6.out.bt.set (o := 3) HFAR.out hw0 _).set (o := 4) HFAR.out hw0 _).set (o := 5) HFAR.out hw0 _, HIN6.out.ne⟩
          by_cases hz1 : z.n < 1
          · have HF2 := Lib.hid (HFULL.out hz1)
            go_wp2_with fail
            go_ret2
            rw [HF2.out]
            exact ⟨none, 0, rfl, Nat.le_refl _, by simp [maxLen], Row.nil, HIN7.out.bt.below⟩
          · have hd1 : decide (z.n < 1) = false := decide_eq_false hz1
            have HS2 := Lib.hid (HSAME.out (by omega))
            go_wp2_with (at_builtin; refine hold_mk ?_)
            refine hold_out ?_
            refine wpPush rfl _ _ rfl u8 _ rfl (HIN7.out.bt.up (below_al (o := .cells (paC ⟨y.p, z⟩) 82) (Below.refl _ _))) _ 1 1 [⟨y.p, z⟩] rfl (by have h := one_row (((w6.setCell ⟨wr.heap.size, 3, none⟩ (.int .i64 z.n)).setCell ⟨wr.heap.size, 4, none⟩ (.int .i64 z.a)).setCell ⟨wr.heap.size, 5, none⟩ (.int .i64 z.b)) ⟨y.p, z⟩; simp only [World.size_setCell] at h; exact h) rfl (by simp; omega) ?_
            intro v8 w8 bt8 hg8 hat8
            have HIN8 := Lib.hid ((HIN7.out.up (below_al (o := .cells (paC ⟨y.p, z⟩) 82) (Below.refl _ _))).push bt8 hg8 hat8)
            clear bt8 hg8 hat8
            go_wp2_with fail
            go_roundw
            case rel => exact ⟨j + 1, true, _, by go_num, rfl, HS2.out, HIN8.out⟩
            case measure => simp [intOf]; omega
      · have hd : decide (y.p = x.p) = false := decide_eq_false he
        have HE := Lib.hid he
        rw [hd]
        clear he hd
        cases put
        case true =>
          have HS2 := Lib.hid (HAT.out.done_ HORD.out HY.out)
          go_wp2_with (at_builtin; refine hold_mk ?_)
          refine hold_out ?_
          refine wpPush rfl _ _ rfl u8 _ rfl (HIN5.out.bt.up (below_al (o := .cells (paC y) 82) (Below.refl _ _))) _ 1 1 [y] rfl (one_row _ y) rfl (by simp; omega) ?_
          intro v8 w8 bt8 hg8 hat8
          have HIN8 := Lib.hid ((HIN5.out.up (below_al (o := .cells (paC y) 82) (Below.refl _ _))).push bt8 hg8 hat8)
          clear bt8 hg8 hat8
          go_wp2_with fail
          go_roundw
          case rel => exact ⟨j + 1, true, _, by go_num, rfl, HS2.out, HIN8.out⟩
          case measure => simp [intOf]; omega
        case false =>
          by_cases ha : Pan.ahead x.p y.p = true
          · have HS2 := Lib.hid (HAT.out.ahead_ HY.out HE.out ha)
            have HAH := Lib.hid (fun w => ha ▸ rfAheadB x y w)
            clear ha
            go_wp2_with fail
            clear l0 l1 l2 l3 l4 l5 p0 p1 p2 p3 p4 p5
            refine (HAH.out _).mono ?_
            rintro e w6 ⟨rfl, hb6⟩
            have HP6 := Lib.hid (HP5.out.below hb6)
            have HIN6 := Lib.hid (HIN5.out.up hb6)
            have hsz6 := hb6.size
            clear hb6
            have l0 := HIN6.out.box.cell (j := 0) rfl; have l1 := HIN6.out.box.cell (j := 1) rfl; have l2 := HIN6.out.box.cell (j := 2) rfl; have l3 := HIN6.out.box.cell (j := 3) rfl; have l4 := HIN6.out.box.cell (j := 4) rfl; have l5 := HIN6.out.box.cell (j := 5) rfl
            go_wp2_with (at_builtin; refine hold_mk ?_)
            refine hold_out ?_
            refine wpPush rfl _ _ rfl u8 _ rfl (HIN6.out.bt.up (below_al (o := .cells (paC x) 82) (Below.refl _ _))) _ 1 1 [x] rfl (one_row _ x) rfl (by simp; omega) ?_
            intro v8 w8 bt8 hg8 hat8
            have HP8 := Lib.hid (lies_grown HP6.out.al hg8 HFAR.out)
            have HIN8 := Lib.hid ((HIN6.out.up (below_al (o := .cells (paC x) 82) (Below.refl _ _))).push bt8 hg8 hat8)
            clear bt8 hg8 hat8 l0 l1 l2 l3 l4 l5
            have p0 := HP8.out.cell (j := 0) rfl; have p1 := HP8.out.cell (j := 1) rfl; have p2 := HP8.out.cell (j := 2) rfl; have p3 := HP8.out.cell (j := 3) rfl; have p4 := HP8.out.cell (j := 4) rfl; have p5 := HP8.out.cell (j := 5) rfl
            go_wp2_with (at_builtin; refine hold_mk ?_)
            refine hold_out ?_
            refine wpPush rfl _ _ rfl v8 _ rfl (HIN8.out.bt.up (below_al (o := .cells (paC y) 82) (Below.refl _ _))) _ 1 1 [y] rfl (one_row _ y) rfl (by simp; omega) ?_
            intro v9 w9 bt9 hg9 hat9
            have HIN9 := Lib.hid ((HIN8.out.up (below_al (o := .cells (paC y) 82) (Below.refl _ _))).push bt9 hg9 hat9)
            clear bt9 hg9 hat9
            go_wp2_with fail
            go_roundw
            case rel => exact ⟨j + 1, true, _, by go_num, rfl, HS2.out, HIN9.out⟩
            case measure => simp [intOf]; omega
          · have ha' : Pan.ahead x.p y.p = false := by simpa using ha
            have HS2 := Lib.hid (HAT.out.behind HY.out HE.out ha')
            have HAH := Lib.hid (fun w => ha' ▸ rfAheadB x y w)
            clear ha ha'
            go_wp2_with fail
            clear l0 l1 l2 l3 l4 l5 p0 p1 p2 p3 p4 p5
            refine (HAH.out _).mono ?_
            rintro e w6 ⟨rfl, hb6⟩
            have HP6 := Lib.hid (HP5.out.below hb6)
            have HIN6 := Lib.hid (HIN5.out.up hb6)
            have hsz6 := hb6.size
            clear hb6
            have p0 := HP6.out.cell (j := 0) rfl; have p1 := HP6.out.cell (j := 1) rfl; have p2 := HP6.out.cell (j := 2) rfl; have p3 := HP6.out.cell (j := 3) rfl; have p4 := HP6.out.cell (j := 4) rfl; have p5 := HP6.out.cell (j := 5) rfl
            go_wp2_with (at_builtin; refine hold_mk ?_)
            refine hold_out ?_
            refine wpPush rfl _ _ rfl u8 _ rfl (HIN6.out.bt.up (below_al (o := .cells (paC y) 82) (Below.refl _ _))) _ 1 1 [y] rfl (one_row _ y) rfl (by simp; omega) ?_
            intro v8 w8 bt8 hg8 hat8
            have HIN8 := Lib.hid ((HIN6.out.up (below_al (o := .cells (paC y) 82) (Below.refl _ _))).push bt8 hg8 hat8)
            clear bt8 hg8 hat8
            go_wp2_with fail
            go_roundw
            case rel => exact ⟨j + 1, false, _, by go_num, rfl, HS2.out, HIN8.out⟩
            case measure => simp [intOf]; omega
    · have hj2 : j = xs.length := by omega
      subst hj2
      clear hlt hj
      cases put
      case true =>
        obtain ⟨hout, hhit⟩ := HAT.out.end_
        have HB := Lib.hid HIN.out.bt.below
        obtain ⟨A5, c5, hv, q1, q2, _, q3, _⟩ := own_form HIN.out.bt.own (by omega)
        subst hv
        have Q3 := Lib.hid q3
        rw [hout] at q1 Q3 ⊢
        clear q3
        by_cases hm : 2000 < (ins k x xs).length
        · have HFULL : Hid (wOut k x xs = ([], 3)) := Lib.hid (by unfold wOut; rw [decide_eq_true hm, Bool.or_true]; rfl)
          have hm2 : (2000 : Int) < ((ins k x xs).length : Int) := by omega
          go_wp2_with fail
          go_ret2
          rw [HFULL.out]
          exact ⟨none, 0, rfl, Nat.le_refl _, by simp [maxLen], Row.nil, HB.out⟩
        · have HOK : Hid (wOut k x xs = (ins k x xs, 0)) := Lib.hid (by unfold wOut; rw [hhit, decide_eq_false hm]; rfl)
          have hm2 : decide ((2000 : Int) < ((ins k x xs).length : Int)) = false := decide_eq_false (by omega)
          go_wp2_with fail
          go_ret2
          rw [HOK.out]
          exact ⟨A5, c5, rfl, q1, q2, Q3.out, HB.out⟩
      case false =>
        obtain ⟨hout, hhit⟩ := HAT.out.end_no
        have l0 := HIN.out.box.cell (j := 0) rfl; have l1 := HIN.out.box.cell (j := 1) rfl; have l2 := HIN.out.box.cell (j := 2) rfl; have l3 := HIN.out.box.cell (j := 3) rfl; have l4 := HIN.out.box.cell (j := 4) rfl; have l5 := HIN.out.box.cell (j := 5) rfl
        go_wp2_with (at_builtin; refine hold_mk ?_)
        refine hold_out ?_
        refine wpPush rfl _ _ rfl u8 _ rfl (HIN.out.bt.up (below_al (o := .cells (paC x) 82) (Below.refl _ _))) _ 1 1 [x] rfl (one_row _ x) rfl (by simp; omega) ?_
        intro v8 w8 bt8 _ _
        rw [hout] at bt8
        have HB := Lib.hid bt8.below
        obtain ⟨A5, c5, rfl, q1, q2, _, q3, _⟩ := own_form bt8.own (by omega)
        have Q3 := Lib.hid q3
        clear bt8 q3 hout l0 l1 l2 l3 l4 l5
        by_cases hm : 2000 < (ins k x xs).length
        · have HFULL : Hid (wOut k x xs = ([], 3)) := Lib.hid (by unfold wOut; rw [decide_eq_true hm, Bool.or_true]; rfl)
          have hm2 : (2000 : Int) < ((ins k x xs).length : Int) := by omega
          go_wp2_with fail
          go_ret2
          rw [HFULL.out]
          exact ⟨none, 0, rfl, Nat.le_refl _, by simp [maxLen], Row.nil, HB.out⟩
        · have HOK : Hid (wOut k x xs = (ins k x xs, 0)) := Lib.hid (by unfold wOut; rw [hhit, decide_eq_false hm]; rfl)
          have hm2 : decide ((2000 : Int) < ((ins k x xs).length : Int)) = false := decide_eq_false (by omega)
          go_wp2_with fail
          go_ret2
          rw [HOK.out]
          exact ⟨A5, c5, rfl, q1, q2, Q3.out, HB.out⟩
end Go.Proofs.Ytipmphkmeiogoaa
