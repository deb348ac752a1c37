/- Group, PaneMergeR, put together. -/
import Derived.Test.YthfbcfddfbipfaaZ19
import Derived.Test.YthfbcfddfbipfaaZ25
import Derived.Test.YthfbcfddfbipfaaZ21
import Derived.Test.YthfbcfddfbipfaaZ26
import Derived.Test.YthfbcfddfbipfaaZ18
import Derived.Test.YthfbcfddfbipfaaZ23
/- Groups and jobs in memory; Job and Right of the reference. -/
namespace Go.Proofs.Ythfbcfddfbipfaa
open Go.RowKit
set_option linter.unusedVariables false
set_option maxRecDepth 8000
namespace Grp
open Pan (Pn Pl)
/-- A job. -/
structure Jb where
  groups : Int
  size : Int
  slide : Int
  fold : Int
  fuel : Int
  limit : Int
  delay : Int
  idle : Int
abbrev jbC (j : Jb) : Array Value := #[.int .i64 j.groups, .int .i64 j.size, .int .i64 j.slide, .int .i64 j.fold, .int .i64 j.fuel, .int .i64 j.limit, .int .i64 j.delay, .int .i64 j.idle]
abbrev jbV (j : Jb) : Value := .agg (jbC j)
def jobOk (j : Jb) : Bool := Win.ok j.size j.slide && Acm.isK j.fold
/-- A group's value; its panes lie in a row. -/
abbrev gpC (no mark : Int) (sv : Value) : Array Value := #[.int .i64 no, .int .i64 mark, sv]
abbrev gpV (no mark : Int) (sv : Value) : Value := .agg (gpC no mark sv)
/-- A block lies, and what was stays. -/
def LsAt (w0 : World) (b : Nat) (C : Array Value) (T : TypeId) (w : World) : Prop := Lies b C T w ∧ Below w0.heap.size w0 w
theorem LsAt.next {w0 a c : World} {b : Nat} {C : Array Value} {T : TypeId} (h : LsAt w0 b C T a) (hb : Below a.heap.size a c) : LsAt w0 b C T c := ⟨(hb.block b (lt_of_block h.1)).trans h.1, below_next h.2 hb⟩
theorem LsAt.start (w : World) (C : Array Value) (T : TypeId) : LsAt w w.heap.size C T (w.alloc (.cells C T)).drew := ⟨(Lies.new w C T).drew, below_drewOf (below_al (Below.refl _ _))⟩
theorem rfJob (j : Jb) (w : World) : Calls Try.prog 15 #[jbV j] w (TellsB (jobOk j) w) := by
  have H1 := Lib.hid (fun w => refRight j.size j.slide w)
  have H2 := Lib.hid (fun w => rfFold j.fold w)
  cases hq : Win.ok j.size j.slide
  · have HQ := Lib.hid hq
    clear hq
    go_enter Try.func15, Try.ntmps15
    go_wp2_with fail
    refine (H1.out _).mono ?_
    rw [HQ.out]
    rintro e w1 ⟨rfl, rfl⟩
    go_wp2_with fail
    go_ret
    exact ⟨by simp [jobOk, HQ.out], below_al (Below.refl _ _)⟩
  · have HQ := Lib.hid hq
    clear hq
    go_enter Try.func15, Try.ntmps15
    go_wp2_with fail
    refine (H1.out _).mono ?_
    rw [HQ.out]
    rintro e w1 ⟨rfl, rfl⟩
    go_wp2_with fail
    refine (H2.out _).mono ?_
    rintro e w1 ⟨rfl, rfl⟩
    go_wp2_with fail
    go_ret
    exact ⟨by simp [jobOk, HQ.out], below_al (Below.refl _ _)⟩
set_option maxHeartbeats 2000000 in
theorem rfRight (g : Gp) (A : Option Addr) (c : Nat) (w : World) (hA : Row w A (pc g.ps)) (hl : g.ps.length ≤ 9223372036854775807) :
    Calls Try.prog 17 #[gpV g.no g.mark (.slice A g.ps.length c)] w (TellsB (right g) w) := by
  obtain ⟨no, mark, xs⟩ := g
  simp only at hA hl ⊢
  have HR := Lib.hid (fun w' (hb : Below w.heap.size w w') => rfRightL xs A c w' (hA.below hb) hl)
  have HA := Lib.hid hA
  obtain ⟨r, hr⟩ : ∃ r, r = right ⟨no, mark, xs⟩ := ⟨_, rfl⟩
  obtain ⟨q, hq⟩ : ∃ q, q = Pan.right xs := ⟨_, rfl⟩
  have hiff := right_iff ⟨no, mark, xs⟩
  rw [← hr] at hiff ⊢
  rw [← hq] at HR hiff
  have HI := Lib.hid hiff
  clear hA hr hq hiff
  have hway : no < 0 ∨ (¬ no < 0 ∧ 31 < no) ∨ (¬ no < 0 ∧ ¬ 31 < no ∧ mark < 0) ∨ (¬ no < 0 ∧ ¬ 31 < no ∧ ¬ mark < 0 ∧ 1099511627776 < mark) ∨
      (¬ no < 0 ∧ ¬ 31 < no ∧ ¬ mark < 0 ∧ ¬ 1099511627776 < mark ∧ q = false) ∨ (¬ no < 0 ∧ ¬ 31 < no ∧ ¬ mark < 0 ∧ ¬ 1099511627776 < mark ∧ q = true) := by
    cases q <;> simp <;> omega
  rcases hway with a1 | ⟨a1, a2⟩ | ⟨a1, a2, a3⟩ | ⟨a1, a2, a3, a4⟩ | ⟨a1, a2, a3, a4, rfl⟩ | ⟨a1, a2, a3, a4, rfl⟩
  all_goals (
    go_enter Try.func17, Try.ntmps17
    go_wp2_with fail)
  iterate 4
    have er : r = false := by
      cases r with
      | false => rfl
      | true => obtain ⟨⟨h1, h2, h3, h4⟩, h5, _⟩ := HI.out.1 rfl; exfalso; omega
    subst er
    go_ret
    exact ⟨rfl, below_al (Below.refl _ _)⟩
  · refine (HR.out _ (below_al (Below.refl _ _))).mono ?_
    rintro e w1 ⟨rfl, hb1⟩
    have HB1 := Lib.hid hb1
    clear hb1
    have er : r = false := by
      cases r with
      | false => rfl
      | true => obtain ⟨_, h5, _⟩ := HI.out.1 rfl; cases h5
    subst er
    go_wp2_with fail
    go_ret
    exact ⟨rfl, below_next (below_al (Below.refl _ _)) HB1.out⟩
  · refine (HR.out _ (below_al (Below.refl _ _))).mono ?_
    rintro e w1 ⟨rfl, hb1⟩
    have L1 := Lib.hid (show Lies w.heap.size (gpC no mark (.slice A xs.length c)) 26 w1 from (hb1.block _ (by simp)).trans (Lies.new w _ _))
    have HB1 := Lib.hid (below_next (below_al (Below.refl _ _)) hb1)
    have d1 : w1.cell? ⟨w.heap.size, 1, none⟩ = some (.int .i64 mark) := L1.out.cell (j := 1) rfl
    have d2 : w1.cell? ⟨w.heap.size, 2, none⟩ = some (.slice A xs.length c) := L1.out.cell (j := 2) rfl
    clear hb1
    go_wp2_with fail
    go_loopw [32] (fun i wr => ∃ k : Nat, i = .int .i64 k ∧ k ≤ xs.length ∧ (∀ j x, xs[j]? = some x → j < k → mark < x.p.hi) ∧ Below w1.heap.size w1 wr) (fun i _ => xs.length - (intOf i).toNat)
    case atStart => exact ⟨0, rfl, Nat.zero_le _, fun j x h h2 => by omega, Below.refl _ _⟩
    case round =>
      obtain ⟨k, rfl, hk, hto, hb⟩ := hrel
      have HB := Lib.hid hb
      have HTO := Lib.hid hto
      clear hb hto
      by_cases hlt : k < xs.length
      · obtain ⟨x, hx⟩ : ∃ x, xs[k]? = some x := ⟨_, List.getElem?_eq_getElem hlt⟩
        obtain ⟨b, off, rfl, c0, c1, c2, c3, c4, c5⟩ := (HA.out.below (below_next HB1.out HB.out)).pn hx
        have HX := Lib.hid hx
        have L2 := Lib.hid (show Lies w.heap.size (gpC no mark (.slice (some ⟨b, off, none⟩) xs.length c)) 26 wr from (HB.out.block _ (lt_of_block L1.out)).trans L1.out)
        have e1 : wr.cell? ⟨w.heap.size, 1, none⟩ = some (.int .i64 mark) := L2.out.cell (j := 1) rfl
        have l1 : w.heap.size < wr.heap.size := lt_of_block L2.out
        clear hx
        by_cases hm : x.p.hi ≤ mark
        · have er : r = false := by
            cases r with
            | false => rfl
            | true => have := (HI.out.1 rfl).2.2 x (List.mem_of_getElem? HX.out); omega
          subst er
          go_wp2_with fail
          go_ret
          exact ⟨rfl, below_al (below_next HB1.out HB.out)⟩
        · go_wp2_with fail
          go_roundw
          case rel =>
            refine ⟨k + 1, rfl, by omega, fun j y hy hj => ?_, below_al HB.out⟩
            rcases Nat.lt_succ_iff_lt_or_eq.1 hj with h | rfl
            · exact HTO.out j y hy h
            · rw [HX.out] at hy; cases hy; omega
          case measure => simp [intOf]; omega
      · have hge : xs.length ≤ k := by omega
        have er : r = true := by
          refine HI.out.2 ⟨⟨a1, a2, a3, a4⟩, trivial, fun p hp => ?_⟩
          obtain ⟨i, hi⟩ := List.getElem?_of_mem hp
          exact HTO.out i p hi (by have := (List.getElem?_eq_some_iff.1 hi).1; omega)
        subst er
        go_wp2_with fail
        go_ret
        exact ⟨rfl, below_next HB1.out HB.out⟩
/-- Like, where both are the same. -/
theorem rfLike (no mark : Int) (xs : List Pn) (hl : xs.length ≤ 9223372036854775807) (A A' : Option Addr) (c c' : Nat) (w : World) (hA : Row w A (pc xs)) (hA' : Row w A' (pc xs)) :
    Calls Try.prog 18 #[gpV no mark (.slice A xs.length c), gpV no mark (.slice A' xs.length c')] w (TellsB true w) := by
  have HL := Lib.hid (fun w' (hb : Below w.heap.size w w') => paLike xs hl A A' c c' w' (hA.below hb) (hA'.below hb))
  clear hA hA'
  go_enter Try.func18, Try.ntmps18
  go_wp2_with fail
  refine (HL.out _ (below_al (below_al (Below.refl _ _)))).mono ?_
  rintro e w1 ⟨rfl, hb1⟩
  have HB1 := Lib.hid (below_next (below_al (below_al (Below.refl w.heap.size w))) hb1)
  clear hb1
  go_wp2_with fail
  go_ret
  exact ⟨rfl, HB1.out⟩
end Grp
end Go.Proofs.Ythfbcfddfbipfaa
/- Merge and Due of the reference. -/
namespace Go.Proofs.Ythfbcfddfbipfaa
open Go.RowKit
open Pan
set_option linter.unusedVariables false
set_option maxRecDepth 8000
namespace Pan
theorem wOut_ok {k : Int} {x : Pn} {l : List Pn} (h : (wOut k x l).2 = 0) : wOut k x l = (ins k x l, 0) ∧ hitK k x l = false ∧ (ins k x l).length ≤ 2000 := by
  unfold wOut at h ⊢
  by_cases h1 : hitK k x l = true
  · rw [h1] at h; simp at h
  · have h1' : hitK k x l = false := by simpa using h1
    by_cases h2 : 2000 < (ins k x l).length
    · rw [h1', decide_eq_true h2] at h; simp at h
    · rw [h1', decide_eq_false h2]; exact ⟨rfl, rfl, by omega⟩
theorem wOut_bad {k : Int} {x : Pn} {l : List Pn} (h : (wOut k x l).2 ≠ 0) : wOut k x l = ([], 3) ∧ (hitK k x l = true ∨ 2000 < (ins k x l).length) := by
  unfold wOut at h ⊢
  by_cases h1 : hitK k x l = true
  · rw [h1]; exact ⟨rfl, .inl rfl⟩
  · have h1' : hitK k x l = false := by simpa using h1
    by_cases h2 : 2000 < (ins k x l).length
    · rw [decide_eq_true h2, Bool.or_true]; exact ⟨rfl, .inr h2⟩
    · rw [h1', decide_eq_false h2] at h; exact absurd rfl h
end Pan
/-- Two rows that are being built. -/
structure Two (w0 w : World) (v1 v2 : Value) (m1 m2 : List Pn) : Prop where
  a : Built w0 w v1 m1
  b : Built w0 w v2 m2
  ne : ∀ q, v1.ownBlock = some q → v2.ownBlock ≠ some q
theorem Built.keep {w0 a b : World} {v : Value} {ms : List Pn} {row : Option Nat} (h : Built w0 a v ms) (hg : a.grownBy b row) (hne : ∀ q, v.ownBlock = some q → row ≠ some q) (hb : Below w0.heap.size w0 b) : Built w0 b v ms := by
  refine ⟨?_, hb⟩
  obtain ⟨hl, ⟨rfl, hx⟩ | ⟨g, cap, cur, rfl, hg2, hh, rest⟩⟩ := h.own
  · exact ⟨hl, .inl ⟨rfl, hx⟩⟩
  · refine ⟨hl, .inr ⟨g, cap, cur, rfl, hg2, ?_, rest⟩⟩
    exact (hg.block g (Array.getElem?_eq_some_iff.1 hh).1 (fun e => hne g rfl e.symm)).trans hh
theorem Two.up {w0 a b : World} {v1 v2 : Value} {m1 m2 : List Pn} (h : Two w0 a v1 v2 m1 m2) (hb : Below a.heap.size a b) : Two w0 b v1 v2 m1 m2 := ⟨h.a.up hb, h.b.up hb, h.ne⟩
theorem Two.pushA {w0 a b : World} {v1 v2 v' : Value} {m1 m2 m' : List Pn} (h : Two w0 a v1 v2 m1 m2) (bt : Built w0 b v' m') (hg : a.grownBy b v1.ownBlock) (hat : v'.ownBlock = v1.ownBlock ∨ v'.ownBlock = some a.heap.size) : Two w0 b v' v2 m' m2 :=
  ⟨bt, h.b.keep hg (fun q hq e => h.ne q e hq) bt.below, fun q hq => by
    rcases hat with e | e
    · rw [e] at hq; exact h.ne q hq
    · rw [e] at hq; intro h2; have := (h.b.far h2).2; have := Option.some.inj hq; omega⟩
theorem Two.pushB {w0 a b : World} {v1 v2 v' : Value} {m1 m2 m' : List Pn} (h : Two w0 a v1 v2 m1 m2) (bt : Built w0 b v' m') (hg : a.grownBy b v2.ownBlock) (hat : v'.ownBlock = v2.ownBlock ∨ v'.ownBlock = some a.heap.size) : Two w0 b v1 v' m1 m' :=
  ⟨h.a.keep hg (fun q hq => h.ne q hq) bt.below, bt, fun q hq => by
    rcases hat with e | e
    · rw [e]; exact h.ne q hq
    · rw [e]; intro h2; have := (h.a.far hq).2; have := Option.some.inj h2; omega⟩
namespace Pan
theorem due_next {m : Int} {l : List Pn} {j : Nat} {x : Pn} (h : l[j]? = some x) (hm : x.p.hi ≤ m) : due m (l.take (j + 1)) = due m (l.take j) ++ [x] ∧ rest m (l.take (j + 1)) = rest m (l.take j) := by
  unfold due rest
  rw [take_snoc h, List.filter_append, List.filter_append]
  simp [hm]
theorem rest_next {m : Int} {l : List Pn} {j : Nat} {x : Pn} (h : l[j]? = some x) (hm : ¬ x.p.hi ≤ m) : due m (l.take (j + 1)) = due m (l.take j) ∧ rest m (l.take (j + 1)) = rest m (l.take j) ++ [x] := by
  unfold due rest
  rw [take_snoc h, List.filter_append, List.filter_append]
  simp [hm]
end Pan
set_option maxRecDepth 100000 in
set_option maxHeartbeats 1000000 in
theorem rfDue (xs : List Pn) (A : Option Addr) (c : Nat) (m : Int) (w : World) (hA : Row w A (pc xs)) (hl : xs.length ≤ 9223372036854775807) :
    Calls Try.prog 46 #[.slice A xs.length c, .int .i64 m] w (GivesPP (if right xs then Pan.due m xs else []) (if right xs then Pan.rest m xs else []) w) := by
  have HR := Lib.hid (fun w' (hb : Below w.heap.size w w') => rfRightL xs A c w' (hA.below hb) hl)
  have HA := Lib.hid hA
  obtain ⟨b1, h1⟩ : ∃ b, b = right xs := ⟨_, rfl⟩
  have g1 : b1 = true → xs.length ≤ 2000 := fun h => ((right_iff xs).1 (h1 ▸ h)).1
  rw [← h1] at HR ⊢
  have HT0 : Hid (Two w ((w.alloc (.cells #[] 59)).alloc (.cells #[] 59)) (.slice (some ⟨w.heap.size, 0, none⟩) 0 0) (.slice (some ⟨w.heap.size + 1, 0, none⟩) 0 0) [] []) := Lib.hid
    ⟨(⟨own_new (Nat.le_refl _), below_al (Below.refl _ _)⟩ : Built w (w.alloc (.cells #[] 59)) _ []).up (below_al (Below.refl _ _)),
      ⟨by have h := own_new (B := w.heap.size) (e := 59) (size := 6) (w := w.alloc (.cells #[] 59)) (by simp); rw [World.size_alloc] at h; exact h, below_al (below_al (Below.refl _ _))⟩,
      fun q hq e => by have h1 := Option.some.inj (show some w.heap.size = some q from hq); have h2 := Option.some.inj (show some (w.heap.size + 1) = some q from e); omega⟩
  clear h1 hA
  cases b1
  · clear g1
    go_enter Try.func46, Try.ntmps46
    go_wp2_with fail
    refine (HR.out _ (below_al (below_al (Below.refl _ _)))).mono ?_
    rintro e w1 ⟨rfl, hb1⟩
    have HB1 := Lib.hid (below_next (below_al (below_al (Below.refl _ _))) hb1)
    clear hb1
    go_wp2_with fail
    go_ret2
    exact ⟨_, 0, _, 0, rfl, Nat.le_refl _, by simp [maxLen], Nat.le_refl _, by simp [maxLen], Row.nil, Row.nil, HB1.out⟩
  · have hx20 := g1 rfl
    clear g1
    go_enter Try.func46, Try.ntmps46
    go_wp2_with fail
    refine (HR.out _ (below_al (below_al (Below.refl _ _)))).mono ?_
    rintro e w1 ⟨rfl, hb1⟩
    have HT1 := Lib.hid (HT0.out.up hb1)
    clear hb1
    go_wp2_with fail
    go_loopw [6, 7, 19] (fun v1 v2 i wr => ∃ j : Nat, i = .int .i64 j ∧ j ≤ xs.length ∧ Two w wr v1 v2 (Pan.due m (xs.take j)) (Pan.rest m (xs.take j))) (fun _ _ i _ => xs.length - (intOf i).toNat)
    case atStart => exact ⟨0, rfl, Nat.zero_le _, HT1.out⟩
    case round =>
      obtain ⟨j, rfl, hj, ht⟩ := hrel
      have HT := Lib.hid ht
      clear ht
      have hl1 : (Pan.due m (xs.take j)).length ≤ 2000 := Nat.le_trans (List.length_filter_le _ _) (by rw [List.length_take]; omega)
      have hl2 : (Pan.rest m (xs.take j)).length ≤ 2000 := Nat.le_trans (List.length_filter_le _ _) (by rw [List.length_take]; omega)
      by_cases hlt : j < xs.length
      · obtain ⟨x, hx⟩ : ∃ x, xs[j]? = some x := ⟨_, List.getElem?_eq_getElem hlt⟩
        obtain ⟨b, off, rfl, c0, c1, c2, c3, c4, c5⟩ := (HA.out.below HT.out.a.below).pn hx
        by_cases hm : x.p.hi ≤ m
        · obtain ⟨e1, e2⟩ := due_next hx hm
          have E1 := Lib.hid e1; have E2 := Lib.hid e2
          clear hx e1 e2
          go_wp2_with (at_builtin; refine hold_mk ?_)
          refine hold_out ?_
          refine wpPush rfl _ _ rfl u6 _ rfl (HT.out.a.up (below_al (below_al (o := .cells (paC x) 59) (Below.refl _ _)))) _ 1 1 [x] rfl (by have h := one_row (wr.alloc (.cells (paC x) 59)) x; rw [World.size_alloc] at h; exact h) rfl (by simp; omega) ?_
          intro v8 w8 bt8 hg8 hat8
          have HT8 := Lib.hid ((HT.out.up (below_al (below_al (o := .cells (paC x) 59) (Below.refl _ _)))).pushA bt8 hg8 hat8)
          clear bt8 hg8 hat8
          go_wp2_with fail
          go_roundw
          case rel => exact ⟨j + 1, by go_num, by omega, by rw [E1.out, E2.out]; exact HT8.out⟩
          case measure => simp [intOf]; omega
        · obtain ⟨e1, e2⟩ := rest_next hx hm
          have E1 := Lib.hid e1; have E2 := Lib.hid e2
          have hd : decide (x.p.hi ≤ m) = false := decide_eq_false hm
          clear hx e1 e2 hm
          go_wp2_with (at_builtin; refine hold_mk ?_)
          refine hold_out ?_
          refine wpPush rfl _ _ rfl u7 _ rfl (HT.out.b.up (below_al (below_al (o := .cells (paC x) 59) (Below.refl _ _)))) _ 1 1 [x] rfl (by have h := one_row (wr.alloc (.cells (paC x) 59)) x; rw [World.size_alloc] at h; exact h) rfl (by simp; omega) ?_
          intro v8 w8 bt8 hg8 hat8
          have HT8 := Lib.hid ((HT.out.up (below_al (below_al (o := .cells (paC x) 59) (Below.refl _ _)))).pushB bt8 hg8 hat8)
          clear bt8 hg8 hat8
          go_wp2_with fail
          go_roundw
          case rel => exact ⟨j + 1, by go_num, by omega, by rw [E1.out, E2.out]; exact HT8.out⟩
          case measure => simp [intOf]; omega
      · have hge : xs.length ≤ j := by omega
        have ht := HT.out
        rw [List.take_of_length_le hge] at ht
        obtain ⟨A5, c5, h5, q1, q2, _, q3, _⟩ := own_form ht.a.own (by omega)
        obtain ⟨A6, c6, h6, r1, r2, _, r3, _⟩ := own_form ht.b.own (by omega)
        have HB := Lib.hid ht.a.below
        have Q3 := Lib.hid q3
        have R3 := Lib.hid r3
        subst h5
        subst h6
        clear hlt hj hl1 hl2 ht q3 r3 HT
        go_wp2_with fail
        go_ret2
        exact ⟨A5, c5, A6, c6, rfl, q1, q2, r1, r2, Q3.out, R3.out, HB.out⟩
end Go.Proofs.Ythfbcfddfbipfaa
