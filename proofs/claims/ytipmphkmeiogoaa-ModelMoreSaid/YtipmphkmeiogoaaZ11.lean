/- PaneRightR, PaneMrg, PaneFind, put together. -/
import Derived.Test.YtipmphkmeiogoaaZ10
/- Right, of the reference. -/
namespace Go.Proofs.Ytipmphkmeiogoaa
open Go.RowKit
open Pan
set_option linter.unusedVariables false
set_option maxRecDepth 8000
theorem rfMayB (x : Pn) (w : World) : Calls Try.prog 79 #[paV x] w (TellsB (may x) w) :=
  (rfMay x w).mono fun e w' ⟨h1, h2⟩ => ⟨h1, by rw [h2]; exact below_al (Below.refl _ _)⟩
theorem rfAheadB (x y : Pn) (w : World) : Calls Try.prog 59 #[paV x, paV y] w (TellsB (Pan.ahead x.p y.p) w) :=
  (rfAhead x y w).mono fun e w' ⟨h1, h2⟩ => ⟨h1, by rw [h2]; exact below_al (below_al (Below.refl _ _))⟩
namespace Pan
theorem right_len {l : List Pn} (h : rightTo l l.length) : right l = decide (l.length ≤ 2000) := by
  by_cases hl : l.length ≤ 2000
  · rw [right_of_to hl h, decide_eq_true hl]
  · unfold right; rw [decide_eq_false hl]; rfl
end Pan
set_option maxRecDepth 100000 in
set_option maxHeartbeats 2000000 in
theorem rfRightL (xs : List Pn) (A : Option Addr) (c : Nat) (w : World) (hA : Row w A (pc xs)) (hl : xs.length ≤ 9223372036854775807) : Calls Try.prog 60 #[.slice A xs.length c] w (TellsB (right xs) w) := by
  have HA := Lib.hid hA
  obtain ⟨r, hr⟩ : ∃ r, r = right xs := ⟨_, rfl⟩
  have HT : Hid (rightTo xs xs.length → r = decide (xs.length ≤ 2000)) := Lib.hid fun h => hr.trans (right_len h)
  have HF : Hid (∀ k x, xs[k]? = some x → may x = false ∨ (∃ j y, k = j + 1 ∧ xs[j]? = some y ∧ Pan.ahead y.p x.p = false) → r = false) := Lib.hid fun k x h1 h2 => hr.trans (not_right h1 h2)
  rw [← hr]
  clear hA hr
  go_enter Try.func60, Try.ntmps60
  go_wp2_with fail
  go_loopw [7] (fun i wr => ∃ k : Nat, i = .int .i64 k ∧ k ≤ xs.length ∧ rightTo xs k ∧ Below w.heap.size w wr) (fun i _ => xs.length - (intOf i).toNat)
  case atStart => exact ⟨0, rfl, Nat.zero_le _, fun i x h => by omega, Below.refl _ _⟩
  case round =>
    obtain ⟨k, rfl, hk, hto, hb⟩ := hrel
    have HB := Lib.hid hb
    have HTO := Lib.hid hto
    clear hb hto
    by_cases hlt : k < xs.length
    · obtain ⟨x, hx⟩ : ∃ x, xs[k]? = some x := ⟨_, List.getElem?_eq_getElem hlt⟩
      obtain ⟨b, off, rfl, c0, c1, c2, c3, c4, c5⟩ := (HA.out.below HB.out).pn hx
      have HX := Lib.hid hx
      clear hx
      go_wp2_with fail
      have W0 := Lib.hid (show At1 w wr.heap.size x (wr.alloc (.cells (paC x) 82)).drew from ⟨(new_pn _ _ _).drew, below_drewOf (below_next HB.out (below_al (Below.refl _ _)))⟩)
      have HV := Lib.hid (fun w => rfMayB x w)
      by_cases hm : may x = true
      · rw [hm] at HV
        rcases k with _ | j
        · refine wide_all (At1 w wr.heap.size x) (by kernel_rfl) (by kernel_rfl) W0.out ?_
          repeat (first
          | go_big_quiet_skip
          | (go_big_quiet_want
             apply wide_op
             · (intro w5 h5; obtain ⟨⟨c0,c1,c2,c3,c4,c5⟩,hB5⟩ := id h5; go_simp; first | done | with_reducible rfl | ((refine (HV.out _).mono ?_; rintro e w6 ⟨rfl, hb6⟩; exact ⟨rfl, h5.next hb6⟩)))
             (try simp only [Act.put, List.setIfInBounds_toArray, List.set_cons_zero, List.set_cons_succ])
             go_big_quiet_on))
          refine wpQuiet_nil ?_
          intro w6 h6
          have H6 := Lib.hid h6
          clear h6
          go_wp2_with fail
          go_roundw
          case rel => exact ⟨1, rfl, by omega, to_next HX.out HTO.out hm fun j y e _ => by omega, H6.out.2⟩
          case measure => simp [intOf]; omega
        · obtain ⟨y, hy⟩ : ∃ y, xs[j]? = some y := ⟨_, List.getElem?_eq_getElem (by omega)⟩
          obtain ⟨b', off', e, hY⟩ := (HA.out.below HB.out).pn hy
          cases e
          have W2 := Lib.hid (show At2 w wr.heap.size x b (off + j * 6) y (wr.alloc (.cells (paC x) 82)).drew from ⟨W0.out.1, (hY.below (below_al (Below.refl _ _))).drew, W0.out.2⟩)
          have HY := Lib.hid hy
          have HO := Lib.hid (fun w => rfAheadB y x w)
          have e1 : IntKind.i64.wrap (j : Int) = (j : Int) := wrap64_in (by omega) (by omega)
          have e2 : (0 : Int) ≤ j := by omega
          have e3 : (j : Int) < xs.length := by omega
          clear hy hY
          by_cases ha : Pan.ahead y.p x.p = true
          · have HAH := Lib.hid ha
            rw [ha] at HO
            clear ha
            refine wide_all (At2 w wr.heap.size x b (off + j * 6) y) (by kernel_rfl) (by kernel_rfl) W2.out ?_
            repeat (first
              | go_big_quiet_skip
              | (go_big_quiet_want
                 apply wide_op
                 · (intro w5 h5; obtain ⟨⟨c0,c1,c2,c3,c4,c5⟩,⟨d0,d1,d2,d3,d4,d5⟩,hB5⟩ := id h5; go_simp; first | done | with_reducible rfl | ((refine (HV.out _).mono ?_; rintro e w6 ⟨rfl, hb6⟩; exact ⟨rfl, h5.next hb6⟩)) | ((refine (HO.out _).mono ?_; rintro e w6 ⟨rfl, hb6⟩; exact ⟨rfl, h5.next hb6⟩)))
                 (try simp only [Act.put, List.setIfInBounds_toArray, List.set_cons_zero, List.set_cons_succ])
                 go_big_quiet_on))
            refine wpQuiet_nil ?_
            intro w6 h6
            have H6 := Lib.hid h6
            clear h6
            go_wp2_with fail
            go_roundw
            case rel => exact ⟨j + 2, by go_num, by omega, to_next HX.out HTO.out hm fun j' y' e h => by cases e; rw [HY.out] at h; cases h; exact HAH.out, H6.out.2.2⟩
            case measure => simp [intOf]; omega
          · have ha' : Pan.ahead y.p x.p = false := by simpa using ha
            have hr := Lib.hid (HF.out (j + 1) x HX.out (.inr ⟨j, y, rfl, HY.out, ha'⟩))
            rw [ha'] at HO
            clear ha ha'
            refine wide_all (At2 w wr.heap.size x b (off + j * 6) y) (by kernel_rfl) (by kernel_rfl) W2.out ?_
            repeat (first
              | go_big_quiet_skip
              | (go_big_quiet_want
                 apply wide_op
                 · (intro w5 h5; obtain ⟨⟨c0,c1,c2,c3,c4,c5⟩,⟨d0,d1,d2,d3,d4,d5⟩,hB5⟩ := id h5; go_simp; first | done | with_reducible rfl | ((refine (HV.out _).mono ?_; rintro e w6 ⟨rfl, hb6⟩; exact ⟨rfl, h5.next hb6⟩)) | ((refine (HO.out _).mono ?_; rintro e w6 ⟨rfl, hb6⟩; exact ⟨rfl, h5.next hb6⟩)))
                 (try simp only [Act.put, List.setIfInBounds_toArray, List.set_cons_zero, List.set_cons_succ])
                 go_big_quiet_on))
            refine wpQuiet_nil ?_
            intro w6 h6
            have H6 := Lib.hid h6
            clear h6
            go_wp2_with fail
            go_ret
            exact ⟨by rw [hr.out]; rfl, H6.out.2.2⟩
      · have hm' : may x = false := by simpa using hm
        rw [hm'] at HV
        have hr := Lib.hid (HF.out k x HX.out (.inl hm'))
        clear hm hm'
        refine wide_all (At1 w wr.heap.size x) (by kernel_rfl) (by kernel_rfl) W0.out ?_
        repeat (first
          | go_big_quiet_skip
          | (go_big_quiet_want
             apply wide_op
             · (intro w5 h5; obtain ⟨⟨c0,c1,c2,c3,c4,c5⟩,hB5⟩ := id h5; go_simp; first | done | with_reducible rfl | ((refine (HV.out _).mono ?_; rintro e w6 ⟨rfl, hb6⟩; exact ⟨rfl, h5.next hb6⟩)))
             (try simp only [Act.put, List.setIfInBounds_toArray, List.set_cons_zero, List.set_cons_succ])
             go_big_quiet_on))
        refine wpQuiet_nil ?_
        intro w6 h6
        have H6 := Lib.hid h6
        clear h6
        go_wp2_with fail
        go_ret
        exact ⟨by rw [hr.out]; rfl, H6.out.2⟩
    · have hge : xs.length ≤ k := by omega
      have hr := Lib.hid (HT.out (by rw [show xs.length = k by omega]; exact HTO.out))
      have hcast : Hid (decide ((xs.length : Int) ≤ 2000) = decide (xs.length ≤ 2000)) := Lib.hid (by rw [decide_eq_decide]; omega)
      go_wp2_with fail
      go_ret
      exact ⟨by rw [hr.out]; exact congrArg (fun b => Ending.returned (Value.bool b)) hcast.out, HB.out⟩
end Go.Proofs.Ytipmphkmeiogoaa
/- Rows of panes merged: what the two ways of doing it come to. -/
namespace Go.Proofs.Ytipmphkmeiogoaa
open Go.RowKit
set_option linter.unusedVariables false
set_option maxRecDepth 8000
namespace Pan
/-- The first p compare below. -/
structure Cut (l : List Pn) (F : Pn → Int) (p : Nat) : Prop where
  le : p ≤ l.length
  lo : ∀ i a, i < p → l[i]? = some a → F a < 0
  hi : ∀ i a, p ≤ i → l[i]? = some a → ¬ F a < 0
def hit (l : List Pn) (F : Pn → Int) (p : Nat) : Bool := match l[p]? with | some a => decide (F a = 0) | none => false
/-- Would the like of x have too great an N? -/
def hitK (k : Int) (x : Pn) (l : List Pn) : Bool := l.any fun a => decide (a.p = x.p) && decide ((Acm.join k a.acc x.acc).n < 1)
def bad (k : Int) : List Pn → List Pn → Bool
  | _, [] => false
  | a, x :: b => hitK k x a || bad k (ins k x a) b
theorem bad_append (k : Int) : ∀ (b a c : List Pn), bad k a (b ++ c) = (bad k a b || bad k (mrg k a b) c)
  | [], a, c => by simp [bad, mrg]
  | x :: b, a, c => by
    rw [List.cons_append, bad, bad, bad_append k b, Bool.or_assoc]
    rfl
theorem mrg_append (k : Int) (a b c : List Pn) : mrg k a (b ++ c) = mrg k (mrg k a b) c := by simp [mrg, List.foldl_append]
theorem mrg_len (k : Int) : ∀ (b a : List Pn), a.length ≤ (mrg k a b).length ∧ (mrg k a b).length ≤ a.length + b.length
  | [], a => by simp [mrg]
  | x :: b, a => by
    have h := mrg_len k b (ins k x a)
    have h2 := len_ins k x a
    show a.length ≤ (mrg k (ins k x a) b).length ∧ _
    have e : mrg k a (x :: b) = mrg k (ins k x a) b := rfl
    rw [e, List.length_cons]
    omega
theorem take_snoc {l : List Pn} {j : Nat} {x : Pn} (h : l[j]? = some x) : l.take (j + 1) = l.take j ++ [x] := by rw [List.take_add_one, h]; rfl
theorem bad_next {k : Int} {a b : List Pn} {j : Nat} {x : Pn} (h : b[j]? = some x) : bad k a (b.take (j + 1)) = (bad k a (b.take j) || hitK k x (mrg k a (b.take j))) := by
  rw [take_snoc h, bad_append, bad, bad, Bool.or_false]
theorem mrg_next {k : Int} {a b : List Pn} {j : Nat} {x : Pn} (h : b[j]? = some x) : mrg k a (b.take (j + 1)) = ins k x (mrg k a (b.take j)) := by
  rw [take_snoc h, mrg_append]; rfl
theorem bad_of_take {k : Int} {a b : List Pn} {j : Nat} (h : bad k a (b.take j) = true) : bad k a b = true := by
  rw [← List.take_append_drop j b, bad_append, h, Bool.true_or]
theorem len_of_take (k : Int) (a b : List Pn) (j : Nat) : (mrg k a (b.take j)).length ≤ (mrg k a b).length := by
  conv => rhs; rw [← List.take_append_drop j b, mrg_append]
  exact (mrg_len k _ _).1
theorem ins_pre {k : Int} {x : Pn} {l : List Pn} : ∀ {ms : List Pn}, (∀ m ∈ ms, ahead m.p x.p = true) → ins k x (ms ++ l) = ms ++ ins k x l
  | [], _ => rfl
  | m :: ms, h => by
    have h0 := h m (by simp)
    rw [List.cons_append, ins, if_neg (ahead_ne h0), if_neg (by rw [ahead_asymm h0]; simp), ins_pre fun b hb => h b (by simp [hb])]
    rfl
theorem cut_ahead {l : List Pn} {x : Pn} {p : Nat} (h : Cut l (fun a => ordN a.p x.p) p) : ∀ m ∈ l.take p, ahead m.p x.p = true := by
  intro m hm
  obtain ⟨i, hi, rfl⟩ := List.getElem_of_mem hm
  rw [List.length_take] at hi
  rw [List.getElem_take]
  exact (ordN_lt _ _).1 (h.lo i _ (by omega) (List.getElem?_eq_getElem (by omega)))
theorem ord_drop {l : List Pn} (h : Ord l) (n : Nat) : Ord (l.drop n) := List.Pairwise.sublist (List.drop_sublist n l) h
theorem ord_get {l : List Pn} (h : Ord l) {i j : Nat} {a b : Pn} (hi : l[i]? = some a) (hj : l[j]? = some b) (hij : i < j) : ahead a.p b.p = true := by
  obtain ⟨h1, rfl⟩ := List.getElem?_eq_some_iff.1 hi
  obtain ⟨h2, rfl⟩ := List.getElem?_eq_some_iff.1 hj
  exact List.pairwise_iff_getElem.1 h i j h1 h2 hij
theorem drop_head {l : List Pn} {p : Nat} {a : Pn} (h : l[p]? = some a) : l.drop p = a :: l.drop (p + 1) := by
  obtain ⟨h1, rfl⟩ := List.getElem?_eq_some_iff.1 h
  exact List.drop_eq_getElem_cons h1
/-- There is its like. -/
theorem ins_hit {k : Int} {l : List Pn} {x a : Pn} {p : Nat} (h : Cut l (fun a => ordN a.p x.p) p) (ha : l[p]? = some a) (he : a.p = x.p) :
    ins k x l = l.take p ++ (⟨a.p, Acm.join k a.acc x.acc⟩ :: l.drop (p + 1)) := by
  conv => lhs; rw [← List.take_append_drop p l]
  rw [ins_pre (cut_ahead h), drop_head ha, ins, if_pos he]
/-- There is none. -/
theorem ins_miss {k : Int} {l : List Pn} {x : Pn} {p : Nat} (h : Cut l (fun a => ordN a.p x.p) p) (hm : hit l (fun a => ordN a.p x.p) p = false) :
    ins k x l = l.take p ++ (x :: l.drop p) := by
  conv => lhs; rw [← List.take_append_drop p l]
  rw [ins_pre (cut_ahead h)]
  cases hp : l[p]? with
  | none =>
    have : l.length ≤ p := List.getElem?_eq_none_iff.1 hp
    rw [List.drop_eq_nil_of_le this]
    rfl
  | some a =>
    have h1 : ordN a.p x.p ≠ 0 := by
      unfold hit at hm
      rw [hp] at hm
      simpa using hm
    have h2 := h.hi p a (Nat.le_refl _) hp
    have h3 : ahead x.p a.p = true := by
      rcases ahead_total x.p a.p with h3 | h3 | h3
      · exact h3
      · exact absurd ((ordN_eq _ _).2 h3.symm) h1
      · exact absurd ((ordN_lt _ _).2 h3) h2
    rw [drop_head hp, ins, if_neg (fun e => h1 ((ordN_eq _ _).2 e)), if_pos h3]
theorem hitK_pre {k : Int} {x : Pn} {l : List Pn} {ms : List Pn} (h : ∀ m ∈ ms, ahead m.p x.p = true) : hitK k x (ms ++ l) = hitK k x l := by
  unfold hitK
  rw [List.any_append]
  have : (ms.any fun a => decide (a.p = x.p) && decide ((Acm.join k a.acc x.acc).n < 1)) = false := by
    rw [List.any_eq_false]
    intro m hm
    rw [decide_eq_false (ahead_ne (h m hm)), Bool.false_and]
    simp
  rw [this, Bool.false_or]
theorem hitK_behind {k : Int} {x : Pn} {l : List Pn} (h : ∀ m ∈ l, ahead x.p m.p = true) : hitK k x l = false := by
  unfold hitK
  rw [List.any_eq_false]
  intro m hm
  rw [decide_eq_false (fun e => ahead_ne (h m hm) e.symm), Bool.false_and]
  simp
theorem mem_drop_get {l : List Pn} {p : Nat} {m : Pn} (h : m ∈ l.drop p) : ∃ i, p ≤ i ∧ l[i]? = some m := by
  obtain ⟨i, hi, rfl⟩ := List.getElem_of_mem h
  rw [List.length_drop] at hi
  refine ⟨p + i, by omega, ?_⟩
  rw [List.getElem_drop, List.getElem?_eq_getElem (by omega)]
theorem hitK_hit {k : Int} {l : List Pn} {x a : Pn} {p : Nat} (ho : Ord l) (h : Cut l (fun a => ordN a.p x.p) p) (ha : l[p]? = some a) (he : a.p = x.p) :
    hitK k x l = decide ((Acm.join k a.acc x.acc).n < 1) := by
  conv => lhs; rw [← List.take_append_drop p l]
  rw [hitK_pre (cut_ahead h), drop_head ha]
  have h2 : hitK k x (l.drop (p + 1)) = false := hitK_behind fun m hm => by
    obtain ⟨i, hi, hg⟩ := mem_drop_get hm
    rw [← he]
    exact ord_get ho ha hg (by omega)
  unfold hitK at h2 ⊢
  rw [List.any_cons, h2, decide_eq_true he, Bool.true_and, Bool.or_false]
theorem hitK_miss {k : Int} {l : List Pn} {x : Pn} {p : Nat} (ho : Ord l) (h : Cut l (fun a => ordN a.p x.p) p) (hm : hit l (fun a => ordN a.p x.p) p = false) : hitK k x l = false := by
  conv => lhs; rw [← List.take_append_drop p l]
  rw [hitK_pre (cut_ahead h)]
  refine hitK_behind fun m hm2 => ?_
  obtain ⟨i, hi, hg⟩ := mem_drop_get hm2
  have h2 := h.hi i m hi hg
  rcases ahead_total x.p m.p with h3 | h3 | h3
  · exact h3
  · exfalso
    have h0 : p < l.length := by have := (List.getElem?_eq_some_iff.1 hg).1; omega
    obtain ⟨a, ha⟩ : ∃ a, l[p]? = some a := ⟨_, List.getElem?_eq_getElem h0⟩
    have h1 : ordN a.p x.p ≠ 0 := by
      unfold hit at hm
      rw [ha] at hm
      simpa using hm
    rcases Nat.lt_or_ge p i with h4 | h4
    · have h5 := ord_get ho ha hg h4
      rw [← h3] at h5
      exact h.hi p a (Nat.le_refl _) ha ((ordN_lt _ _).2 h5)
    · have : i = p := by omega
      subst this
      rw [ha] at hg; cases hg
      exact h1 ((ordN_eq _ _).2 h3.symm)
  · exact absurd ((ordN_lt _ _).2 h3) h2
/-- A place to cut at. -/
theorem cut_ex {l : List Pn} (ho : Ord l) (x : Pl) : ∃ p, Cut l (fun a => ordN a.p x) p := by
  induction l with
  | nil => exact ⟨0, Nat.le_refl _, fun i a h _ => by omega, fun i a _ h => by simp at h⟩
  | cons b r ih =>
    obtain ⟨hb, hr⟩ := List.pairwise_cons.1 ho
    by_cases h : ahead b.p x = true
    · obtain ⟨p, h1, h2, h3⟩ := ih hr
      refine ⟨p + 1, by simp; omega, fun i a hi ha => ?_, fun i a hi ha => ?_⟩
      · rcases i with _ | i
        · simp at ha; subst ha; exact (ordN_lt _ _).2 h
        · exact h2 i a (by omega) (by simpa using ha)
      · rcases i with _ | i
        · omega
        · exact h3 i a (by omega) (by simpa using ha)
    · refine ⟨0, Nat.zero_le _, fun i a hi _ => by omega, fun i a _ ha hlt => ?_⟩
      have h4 := (ordN_lt _ _).1 hlt
      rcases i with _ | i
      · simp at ha; subst ha; exact h h4
      · exact h (ahead_trans (hb a (List.mem_of_getElem? (by simpa using ha))) h4)
/-- What Merge answers, and Add. -/
def mOut (k : Int) (a b : List Pn) : List Pn × Int :=
  if right a && right b && Acm.isK k then (if bad k a b || decide (2000 < (mrg k a b).length) then ([], 3) else (mrg k a b, 0)) else ([], 1)
end Pan
end Go.Proofs.Ytipmphkmeiogoaa
/- The binary search of package pane, with both of its comparisons. -/
namespace Go.Proofs.Ytipmphkmeiogoaa
open Go.RowKit
open Pan
set_option linter.unusedVariables false
set_option maxRecDepth 8000
set_option maxRecDepth 100000 in
set_option maxHeartbeats 2000000 in
theorem paFindP (xs : List Pn) (A : Option Addr) (c : Nat) (y : Pn) (p : Nat) (w : World) (hA : Row w A (pc xs)) (hl : xs.length ≤ 100000) (hp : Cut xs (fun x => ordN x.p y.p) p) :
    Calls Try.prog 71 #[.slice A xs.length c, paV y, .func (.func 72) #[] #[]] w
      fun e w' => e = .returned (.tuple #[.int .i64 p, .bool (Pan.hit xs (fun x => ordN x.p y.p) p)]) ∧ Below w.heap.size w w' := by
  have HA := Lib.hid hA
  have HP := Lib.hid hp
  have hple := hp.le
  clear hA hp
  go_enter Try.func71, Try.ntmps71
  go_wp2_with fail
  go_loopw [8, 9] (fun l h wr => ∃ a b : Nat, l = .int .i64 a ∧ h = .int .i64 b ∧ a ≤ p ∧ p ≤ b ∧ b ≤ xs.length ∧ At1 w w.heap.size y wr) (fun l h _ => (intOf h).toNat - (intOf l).toNat)
  case atStart => exact ⟨0, xs.length, rfl, rfl, Nat.zero_le _, hple, Nat.le_refl _, new_pn _ _ _, below_al (Below.refl _ _)⟩
  case round =>
    obtain ⟨a, b, rfl, rfl, h1, h2, h3, hT, hb⟩ := hrel
    have HB := Lib.hid hb
    have HT := Lib.hid hT
    clear hb hT
    by_cases hlt : a < b
    · obtain ⟨j, hj⟩ : ∃ j, j = a + (b - a) / 2 := ⟨_, rfl⟩
      have g1 : a ≤ j := by omega
      have g2 : j < b := by omega
      have e0 : IntKind.i64.wrap ((b : Int) - a) = (b : Int) - a := wrap64_in (by omega) (by omega)
      have e1 : ((b : Int) - a).tdiv 2 = (j : Int) - a := by rw [Int.tdiv_eq_ediv_of_nonneg (by omega)]; omega
      have e2 : IntKind.i64.wrap ((j : Int) - a) = (j : Int) - a := wrap64_in (by omega) (by omega)
      have e3 : (a : Int) + ((j : Int) - a) = j := by omega
      have e4 : IntKind.i64.wrap (j : Int) = j := wrap64_in (by omega) (by omega)
      have HJ := Lib.hid hj
      clear hj
      obtain ⟨x, hx⟩ : ∃ x, xs[j]? = some x := ⟨_, List.getElem?_eq_getElem (by omega)⟩
      obtain ⟨bb, off, rfl, hX⟩ := (HA.out.below HB.out).pn hx
      have W2 := Lib.hid (show At2 w w.heap.size y bb (off + j * 6) x wr.drew from ⟨HT.out.drew, hX.drew, below_drewOf HB.out⟩)
      have HX := Lib.hid hx
      have HO := Lib.hid (fun w => paOrder x y w)
      have g3 : (0 : Int) ≤ j := by omega
      have g4 : (j : Int) < xs.length := by omega
      have e5 : IntKind.i64.wrap ((j : Int) + 1) = (j : Int) + 1 := wrap64_in (by omega) (by omega)
      clear hx hX
      by_cases hc : ordN x.p y.p < 0
      · have hjp : j < p := by
          rcases Nat.lt_or_ge j p with h | h
          · exact h
          · exact absurd hc (HP.out.hi j x h HX.out)
        go_wp2_with fail
        refine wide_all (At2 w w.heap.size y bb (off + j * 6) x) (by kernel_rfl) (by kernel_rfl) W2.out ?_
        repeat (first
          | go_big_quiet_skip
          | (go_big_quiet_want
             apply wide_op
             · (intro w5 h5; obtain ⟨⟨c0,c1,c2,c3,c4,c5⟩,⟨d0,d1,d2,d3,d4,d5⟩,hB5⟩ := id h5; go_simp; first | done | with_reducible rfl | ((refine (HO.out _).mono ?_; rintro e w6 ⟨rfl, hb6⟩; exact ⟨rfl, h5.next hb6⟩)))
             (try simp only [Act.put, List.setIfInBounds_toArray, List.set_cons_zero, List.set_cons_succ])
             go_big_quiet_on))
        refine wpQuiet_nil ?_
        intro w6 h6
        have H6 := Lib.hid h6
        clear h6
        go_wp2_with fail
        go_roundw
        case rel => exact ⟨j + 1, b, by go_num, rfl, by omega, h2, h3, H6.out.1, H6.out.2.2⟩
        case measure => simp [intOf]; have := HJ.out; omega
      · have hjp : p ≤ j := by
          rcases Nat.lt_or_ge j p with h | h
          · exact absurd (HP.out.lo j x h HX.out) hc
          · exact h
        have hc' : 0 ≤ ordN x.p y.p := by omega
        go_wp2_with fail
        refine wide_all (At2 w w.heap.size y bb (off + j * 6) x) (by kernel_rfl) (by kernel_rfl) W2.out ?_
        repeat (first
          | go_big_quiet_skip
          | (go_big_quiet_want
             apply wide_op
             · (intro w5 h5; obtain ⟨⟨c0,c1,c2,c3,c4,c5⟩,⟨d0,d1,d2,d3,d4,d5⟩,hB5⟩ := id h5; go_simp; first | done | with_reducible rfl | ((refine (HO.out _).mono ?_; rintro e w6 ⟨rfl, hb6⟩; exact ⟨rfl, h5.next hb6⟩)))
             (try simp only [Act.put, List.setIfInBounds_toArray, List.set_cons_zero, List.set_cons_succ])
             go_big_quiet_on))
        refine wpQuiet_nil ?_
        intro w6 h6
        have H6 := Lib.hid h6
        clear h6
        go_wp2_with fail
        go_roundw
        case rel => exact ⟨a, j, rfl, rfl, h1, hjp, by omega, H6.out.1, H6.out.2.2⟩
        case measure => simp [intOf]; have := HJ.out; omega
    · have e1 : a = p := by omega
      have e2 : a = b := by omega
      subst e2
      subst e1
      by_cases hlt2 : a < xs.length
      · obtain ⟨x, hx⟩ : ∃ x, xs[a]? = some x := ⟨_, List.getElem?_eq_getElem hlt2⟩
        obtain ⟨bb, off, rfl, hX⟩ := (HA.out.below HB.out).pn hx
        have hh := Lib.hid (show Pan.hit xs (fun x => ordN x.p y.p) a = decide (ordN x.p y.p = 0) from by unfold Pan.hit; rw [hx])
        have W2 := Lib.hid (show At2 w w.heap.size y bb (off + a * 6) x wr.drew from ⟨HT.out.drew, hX.drew, below_drewOf HB.out⟩)
        have HO := Lib.hid (fun w => paOrder x y w)
        clear hx hX
        have g3 : (0 : Int) ≤ a := by omega
        have g4 : (a : Int) < xs.length := by omega
        go_wp2_with fail
        refine wide_all (At2 w w.heap.size y bb (off + a * 6) x) (by kernel_rfl) (by kernel_rfl) W2.out ?_
        repeat (first
          | go_big_quiet_skip
          | (go_big_quiet_want
             apply wide_op
             · (intro w5 h5; obtain ⟨⟨c0,c1,c2,c3,c4,c5⟩,⟨d0,d1,d2,d3,d4,d5⟩,hB5⟩ := id h5; go_simp; first | done | with_reducible rfl | ((refine (HO.out _).mono ?_; rintro e w6 ⟨rfl, hb6⟩; exact ⟨rfl, h5.next hb6⟩)))
             (try simp only [Act.put, List.setIfInBounds_toArray, List.set_cons_zero, List.set_cons_succ])
             go_big_quiet_on))
        refine wpQuiet_nil ?_
        intro w6 h6
        have H6 := Lib.hid h6
        clear h6
        go_wp2_with fail
        go_ret2
        exact ⟨by rw [hh.out]; first | rfl | (simp [BEq.beq]; done), H6.out.2.2⟩
      · have hh := Lib.hid (show Pan.hit xs (fun x => ordN x.p y.p) a = false from by unfold Pan.hit; rw [List.getElem?_eq_none (by omega)])
        have g4 : decide ((a : Int) < xs.length) = false := decide_eq_false (by omega)
        have W1 := Lib.hid (show At1 w w.heap.size y wr.drew from ⟨HT.out.drew, below_drewOf HB.out⟩)
        go_wp2_with fail
        refine wide_all (At1 w w.heap.size y) (by kernel_rfl) (by kernel_rfl) W1.out ?_
        repeat (first
          | go_big_quiet_skip
          | (go_big_quiet_want
             apply wide_op
             · (intro w5 h5; obtain ⟨⟨c0,c1,c2,c3,c4,c5⟩,hB5⟩ := id h5; go_simp; first | done | with_reducible rfl)
             (try simp only [Act.put, List.setIfInBounds_toArray, List.set_cons_zero, List.set_cons_succ])
             go_big_quiet_on))
        refine wpQuiet_nil ?_
        intro w6 h6
        have H6 := Lib.hid h6
        clear h6
        go_wp2_with fail
        go_ret2
        exact ⟨by rw [hh.out]; rfl, H6.out.2⟩
end Go.Proofs.Ytipmphkmeiogoaa
