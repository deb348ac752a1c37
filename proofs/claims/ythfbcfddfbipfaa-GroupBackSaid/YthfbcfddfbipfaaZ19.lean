/- WinFactsB, GroupTake, GroupAdv, put together. -/
import Derived.Test.YthfbcfddfbipfaaZ18
import Derived.Test.YthfbcfddfbipfaaZ13
/- What holds of the windows of two times, and of those that are open. -/
namespace Go.Proofs.Ythfbcfddfbipfaa
open Tick
set_option linter.unusedVariables false
namespace Win
variable {s d t : Int}
theorem good_mv (h : ok s d = true) (h1 : s ≤ t) (h2 : t < 1099511627776 - s - d) : good s d t = true ∧ good s d (t + d) = true := by
  have := ok_iff.1 h
  constructor <;> (rw [good_iff]; omega)
theorem cnt_mv (h : ok s d = true) (h1 : s ≤ t) : cnt s d (t + d) = cnt s d t := by
  obtain ⟨o1, o2, o3, o4⟩ := ok_iff.1 h
  have e1 : (t + d) / d = t / d + 1 := by
    have := Int.add_mul_ediv_right t 1 (show d ≠ 0 by omega)
    rwa [Int.one_mul] at this
  have e2 : (t + d) % d = t % d := Int.add_emod_right t d
  have hr := floor_lo (show 0 ≤ t by omega) o1
  have hx : 0 ≤ (s - 1 - t % d) / d := Int.ediv_nonneg (by omega) (by omega)
  have hm : (s - 1 - t % d) / d ≤ t / d := Int.ediv_le_ediv (by omega) (by omega)
  unfold cnt
  rw [e1, e2]
  omega
theorem lo_mv (h : ok s d = true) (h1 : s ≤ t) (i : Nat) : lo s d (t + d) i = lo s d t i + d := by
  obtain ⟨o1, o2, o3, o4⟩ := ok_iff.1 h
  have e1 : (t + d) / d = t / d + 1 := by
    have := Int.add_mul_ediv_right t 1 (show d ≠ 0 by omega)
    rwa [Int.one_mul] at this
  unfold lo
  rw [cnt_mv h h1, e1, show t / d + 1 - ((cnt s d t - 1 - i : Nat) : Int) = (t / d - ((cnt s d t - 1 - i : Nat) : Int)) + 1 by omega, Int.add_mul, Int.one_mul]
/-- The windows of a time a slide later. -/
theorem of_mv (h : ok s d = true) (h1 : s ≤ t) (h2 : t < 1099511627776 - s - d) {i : Nat} (hi : i < cnt s d t) :
    ∃ a b, (of s d t)[i]? = some (a, b) ∧ (of s d (t + d))[i]? = some (a + d, b + d) ∧ 0 ≤ a ∧ a ≤ 1099511627776 ∧ 0 ≤ b ∧ b ≤ 1099511627776 := by
  obtain ⟨o1, o2, o3, o4⟩ := ok_iff.1 h
  obtain ⟨g1, g2⟩ := good_mv h h1 h2
  obtain ⟨l0, l1, l2, l3⟩ := lo_bd g1 hi
  refine ⟨_, _, of_at g1 hi, ?_, l0, by omega, ?_, ?_⟩
  · rw [of_at g2 (by rw [cnt_mv h h1]; exact hi), lo_mv h h1]
    have e1 : hiOf s (lo s d t i + d) = lo s d t i + d + s := by unfold hiOf; rw [if_pos (by omega)]
    have e2 : hiOf s (lo s d t i) = lo s d t i + s := by unfold hiOf; rw [if_pos (by omega)]
    rw [e1, e2]
    congr 2
    omega
  · unfold hiOf; split <;> omega
  · unfold hiOf; split <;> omega
/-- A window that holds t holds each u that lies in it: and is among the windows of u. -/
theorem once {u : Int} (h : good s d t = true) {i : Nat} (hi : i < cnt s d t) (hu0 : lo s d t i ≤ u) (hu1 : u < hiOf s (lo s d t i)) :
    ∃ p : Nat, (of s d u)[p]? = some (lo s d t i, hiOf s (lo s d t i)) := by
  obtain ⟨⟨o1, o2, o3, o4⟩, g1, g2⟩ := good_iff.1 h
  obtain ⟨l0, l1, l2, l3⟩ := lo_bd h hi
  obtain ⟨q1, q2, q3⟩ := hi_bd l2 g2
  have hgu : good s d u = true := good_iff.2 ⟨⟨o1, o2, o3, o4⟩, by omega, by omega⟩
  have hle : hiOf s (lo s d t i) ≤ lo s d t i + s := by unfold hiOf; split <;> omega
  have e0 : lo s d t i = (t / d - ((cnt s d t - 1 - i : Nat) : Int)) * d := rfl
  obtain ⟨kk, hkk⟩ : ∃ kk, kk = t / d - ((cnt s d t - 1 - i : Nat) : Int) := ⟨_, rfl⟩
  rw [← hkk] at e0
  have hk0 : 0 ≤ kk := by
    rcases Int.lt_or_le kk 0 with h6 | h6
    · have := Int.mul_neg_of_neg_of_pos h6 (show 0 < d by omega); omega
    · exact h6
  have hku : kk ≤ u / d := by rw [Int.le_ediv_iff_mul_le (by omega)]; omega
  have ha := at_ (s := s) (d := d) (t := u) hk0 hku
  have hj : (u / d - kk).toNat < cnt s d u := (cnt_lt o1 o2 (by omega) _).2 (by rw [ha, ← e0]; omega)
  refine ⟨_, (of_get hgu hj).trans ?_⟩
  unfold win
  rw [ha, ← e0]
theorem while_lt {α : Type} (p : α → Bool) : ∀ l : List α, (∀ (i j : Nat) a b, i < j → l[i]? = some a → l[j]? = some b → p b = true → p a = true) → ∀ (j : Nat) x, l[j]? = some x → (j < (l.takeWhile p).length ↔ p x = true)
  | [], _, j, x, hx => by simp at hx
  | a :: r, h, j, x, hx => by
    have ih := while_lt p r fun i j x y hij hx hy => h (i + 1) (j + 1) x y (by omega) (by simpa using hx) (by simpa using hy)
    by_cases ha : p a = true
    · rw [List.takeWhile_cons_of_pos ha]
      cases j with
      | zero => simp at hx; subst hx; simp [ha]
      | succ j => have := ih j x (by simpa using hx); simp only [List.length_cons]; rw [← this]; omega
    · rw [List.takeWhile_cons_of_neg ha]
      cases j with
      | zero => simp at hx; subst hx; simp [ha]
      | succ j =>
        constructor
        · intro h1; simp at h1
        · intro h1; exact absurd (h 0 (j + 1) a x (by omega) (by simp) hx h1) ha
/-- Windows from the last one on end ever earlier. -/
theorem desc_anti (s d t m : Int) : ∀ (i j : Nat) a b, i < j → (desc s d t)[i]? = some a → (desc s d t)[j]? = some b → (fun p : Int × Int => decide (m < p.2)) b = true → (fun p : Int × Int => decide (m < p.2)) a = true := by
  intro i j a b hij ha hb hp
  by_cases hg : good s d t = true
  · obtain ⟨⟨o1, o2, o3, o4⟩, g1, g2⟩ := good_iff.1 hg
    rw [desc_good hg, List.getElem?_map] at ha hb
    obtain ⟨i', hi, rfl⟩ := Option.map_eq_some_iff.1 ha
    obtain ⟨j', hj, rfl⟩ := Option.map_eq_some_iff.1 hb
    obtain ⟨_, ei⟩ := List.getElem?_eq_some_iff.1 hi
    obtain ⟨_, ej⟩ := List.getElem?_eq_some_iff.1 hj
    have ei' : i' = i := by simpa using ei.symm
    have ej' : j' = j := by simpa using ej.symm
    subst ei' ej'
    have hm : (i' : Int) * d ≤ (j' : Int) * d := Int.mul_le_mul_of_nonneg_right (by omega) (by omega)
    have := hi_mono (s := s) (show top d t - (j' : Int) * d ≤ top d t - (i' : Int) * d by omega)
    have hp' : m < (win s d t j').2 := of_decide_eq_true hp
    exact decide_eq_true (by unfold win at hp' ⊢; simp only at hp' ⊢; omega)
  · rw [desc_not (by simpa using hg)] at ha
    simp at ha
theorem open_le_of (s d t m : Int) : (open_ s d t m).length ≤ (of s d t).length := by rw [open_eq]; exact List.length_filter_le _ _
/-- Those that are open are the last ones. -/
theorem open_drop (s d t m : Int) : open_ s d t m = (of s d t).drop ((of s d t).length - (open_ s d t m).length) := by
  have h0 := List.takeWhile_prefix (fun p : Int × Int => decide (m < p.2)) (l := desc s d t)
  have e := List.prefix_iff_eq_take.1 h0
  have hl := open_le_of s d t m
  unfold open_ of at hl ⊢
  rw [List.length_reverse, List.length_reverse] at hl ⊢
  rw [List.drop_reverse, show (desc s d t).length - ((desc s d t).length - (List.takeWhile (fun p => decide (m < p.2)) (desc s d t)).length) = (List.takeWhile (fun p => decide (m < p.2)) (desc s d t)).length by omega, ← e]
theorem open_iff {m : Int} {i : Nat} {x : Int × Int} (hx : (of s d t)[i]? = some x) : (of s d t).length - (open_ s d t m).length ≤ i ↔ m < x.2 := by
  have hi := (List.getElem?_eq_some_iff.1 hx).1
  have hl := open_le_of s d t m
  rw [of, List.length_reverse] at hi
  rw [of, List.getElem?_reverse hi] at hx
  have h := while_lt (fun p : Int × Int => decide (m < p.2)) (desc s d t) (desc_anti s d t m) _ x hx
  unfold open_ of at hl ⊢
  rw [List.length_reverse, List.length_reverse] at hl ⊢
  have e : m < x.2 ↔ (fun p : Int × Int => decide (m < p.2)) x = true := by simp
  rw [e, ← h]
  omega
/-- At a mark that is not above the time all are open. -/
theorem open_all {m : Int} (hm : m ≤ t) : (open_ s d t m).length = (of s d t).length := by
  by_cases hg : good s d t = true
  · obtain ⟨⟨o1, o2, o3, o4⟩, g1, g2⟩ := good_iff.1 hg
    rw [open_eq]
    congr 1
    rw [List.filter_eq_self]
    intro x hx
    obtain ⟨i, hi, rfl⟩ := List.getElem_of_mem hx
    have hi' : i < cnt s d t := by rw [← of_len hg]; exact hi
    have h := of_at hg hi'
    rw [List.getElem?_eq_getElem hi] at h
    obtain ⟨l0, l1, l2, l3⟩ := lo_bd hg hi'
    obtain ⟨q1, _, _⟩ := hi_bd l2 g2
    have e : (of s d t)[i] = (lo s d t i, hiOf s (lo s d t i)) := by simpa using h
    rw [e]
    simp only [decide_eq_true_eq]
    omega
  · have e := of_not (s := s) (d := d) (t := t) (by simpa using hg)
    rw [open_eq, e]; rfl
theorem of_hi {i : Nat} {x : Int × Int} (hx : (of s d t)[i]? = some x) : t < x.2 := by
  by_cases hg : good s d t = true
  · obtain ⟨⟨o1, o2, o3, o4⟩, g1, g2⟩ := good_iff.1 hg
    have hi' : i < cnt s d t := by rw [← of_len hg]; exact (List.getElem?_eq_some_iff.1 hx).1
    have h := of_at hg hi'
    rw [hx] at h
    obtain ⟨l0, l1, l2, l3⟩ := lo_bd hg hi'
    obtain ⟨q1, _, _⟩ := hi_bd l2 g2
    cases h
    exact q1
  · have e := of_not (s := s) (d := d) (t := t) (by simpa using hg)
    rw [e] at hx; simp at hx
end Win
end Go.Proofs.Ythfbcfddfbipfaa
/- Events that are taken by a group, as plain data: in any order they make the same panes. -/
namespace Go.Proofs.Ythfbcfddfbipfaa
set_option linter.unusedVariables false
namespace Grp
open Pan (Pn Pl plOk allF step right_iff)
/-- An event. -/
structure Ev where
  key : List UInt8
  at_ : Int
  val : Int
def evOk (e : Ev) : Bool := decide (1 ≤ e.key.length ∧ e.key.length ≤ 16 ∧ 0 ≤ e.at_ ∧ e.at_ < 1099511627776)
/-- The windows that an event is put into, with its key and its value. -/
def cells (s d mark : Int) (e : Ev) : List (Pl × Int) := ((Win.of s d e.at_).filter fun p => decide (mark < p.2)).map fun p => (⟨p.1, p.2, e.key⟩, e.val)
def takeO (s d k mark : Int) (ps : List Pn) (e : Ev) : Option (List Pn) := if evOk e then allF k ps (cells s d mark e) else none
/-- Events, one behind the other. -/
def takesO (s d k mark : Int) (ps : List Pn) (l : List Ev) : Option (List Pn) := l.foldl (fun o e => o.bind fun y => takeO s d k mark y e) (some ps)
theorem takes_push (s d k mark : Int) (ps : List Pn) (l : List Ev) (e : Ev) : takesO s d k mark ps (l ++ [e]) = (takesO s d k mark ps l).bind fun y => takeO s d k mark y e := by simp [takesO]
theorem takes_eq (s d k mark : Int) (ps : List Pn) : ∀ l : List Ev, takesO s d k mark ps l = if l.all evOk then allF k ps (l.flatMap (cells s d mark)) else none := by
  refine Pan.list_snoc rfl fun l e ih => ?_
  rw [takes_push, ih, List.all_append, List.flatMap_append]
  by_cases h : l.all evOk = true
  · rw [if_pos h, h, Bool.true_and]
    by_cases h2 : evOk e = true
    · rw [if_pos (by simp [h2]), Pan.allF_append]
      cases allF k ps (l.flatMap (cells s d mark)) with
      | none => rfl
      | some y => simp [takeO, h2]
    · rw [if_neg (by simpa using h2)]
      cases allF k ps (l.flatMap (cells s d mark)) with
      | none => rfl
      | some y => simp [takeO, h2]
  · rw [if_neg h, if_neg (by simp [h])]
    rfl
theorem all_perm {l m : List Ev} (hp : l.Perm m) : l.all evOk = m.all evOk := by
  rw [Bool.eq_iff_iff, List.all_eq_true, List.all_eq_true]
  exact ⟨fun h x hx => h x (hp.mem_iff.2 hx), fun h x hx => h x (hp.mem_iff.1 hx)⟩
theorem cells_perm (s d mark : Int) {l m : List Ev} (hp : l.Perm m) : (l.flatMap (cells s d mark)).Perm (m.flatMap (cells s d mark)) := by
  induction hp with
  | nil => exact .refl _
  | cons x _ ih => simpa using ih.append_left _
  | swap x y l => simp only [List.flatMap_cons, ← List.append_assoc]; exact List.Perm.append_right _ List.perm_append_comm
  | trans _ _ ih1 ih2 => exact ih1.trans ih2
/-- Events in any order make the same panes, if all can be taken. -/
theorem takes_perm {s d k mark : Int} {ps xs ys : List Pn} (hr : Pan.right ps = true) (hn : ∀ a ∈ ps, a.acc.n ≤ 9223372036854775807) {l m : List Ev} (hp : l.Perm m) (h1 : takesO s d k mark ps l = some xs) (h2 : takesO s d k mark ps m = some ys) : xs = ys := by
  rw [takes_eq] at h1 h2
  split at h1
  · split at h2
    · exact Pan.allF_perm hr hn (cells_perm s d mark hp) h1 h2
    · cases h2
  · cases h1
theorem of_len (s d t : Int) : (Win.of s d t).length ≤ 16 := by rw [Win.of, List.length_reverse]; exact Win.len_le s d t
theorem cells_len (s d mark : Int) (e : Ev) : (cells s d mark e).length ≤ 16 := by
  unfold cells
  rw [List.length_map]
  exact Nat.le_trans (List.length_filter_le _ _) (of_len _ _ _)
theorem all_cells_len (s d mark : Int) : ∀ l : List Ev, (l.flatMap (cells s d mark)).length ≤ 16 * l.length
  | [] => by simp
  | e :: r => by
    have h1 := cells_len s d mark e
    have h2 := all_cells_len s d mark r
    rw [List.flatMap_cons, List.length_append, List.length_cons]
    omega
/-- Where there are no panes yet: either all orders can be taken, or none. -/
theorem takes_none {s d k mark : Int} {l m : List Ev} (hp : l.Perm m) (hl : l.length ≤ 20) : takesO s d k mark [] l = takesO s d k mark [] m := by
  rw [takes_eq, takes_eq, all_perm hp, Pan.allF_nil, Pan.allF_nil, Pan.allO_perm (cells_perm s d mark hp) (Nat.le_trans (all_cells_len s d mark l) (by omega))]
/-- The windows of an event that may be are windows. -/
theorem cells_ok {s d mark : Int} {e : Ev} (he : evOk e = true) (hs : Win.ok s d = true) : ∀ c ∈ cells s d mark e, plOk c.1 = true ∧ mark < c.1.hi ∧ c.1.lo ≤ e.at_ ∧ e.at_ < c.1.hi := by
  obtain ⟨h1, h2, h3, h4⟩ := of_decide_eq_true he
  have hg : Win.good s d e.at_ = true := by
    unfold Win.good
    rw [hs, Bool.true_and, decide_eq_true_eq]
    exact ⟨h3, h4⟩
  intro c hc
  unfold cells at hc
  obtain ⟨p, hp, rfl⟩ := List.mem_map.1 hc
  obtain ⟨hp1, hp2⟩ := List.mem_filter.1 hp
  obtain ⟨i, hi⟩ := List.getElem?_of_mem hp1
  have hlt : i < Win.cnt s d e.at_ := by
    have := (List.getElem?_eq_some_iff.1 hi).1
    rwa [Win.of, List.length_reverse, Win.desc_len hg] at this
  have h5 := Win.of_at hg hlt
  rw [hi] at h5
  have h6 := Win.lo_bd hg hlt
  have h7 := Win.hi_bd (s := s) (x := Win.lo s d e.at_ i) h6.2.2.1 h4
  have e1 : p.1 = Win.lo s d e.at_ i ∧ p.2 = Win.hiOf s (Win.lo s d e.at_ i) := by
    cases p; simp only [Option.some.injEq, Prod.mk.injEq] at h5; exact h5
  refine ⟨decide_eq_true ⟨h1, h2, ?_, ?_, ?_⟩, of_decide_eq_true hp2, ?_, ?_⟩
  · show 0 ≤ p.1; rw [e1.1]; exact h6.1
  · show p.1 < p.2; rw [e1.1, e1.2]; omega
  · show p.2 ≤ 1099511627776; rw [e1.2]; exact h7.2.1
  · show p.1 ≤ e.at_; rw [e1.1]; exact h6.2.1
  · show e.at_ < p.2; rw [e1.2]; exact h7.1
theorem mem_get {z : List Pn} (ho : Pan.Ord z) {a : Pn} (ha : a ∈ z) : Pan.get z a.p = some a.acc := by
  induction z with
  | nil => cases ha
  | cons b r ih =>
    obtain ⟨h1, h2⟩ := List.pairwise_cons.1 ho
    rw [Pan.get]
    rcases List.mem_cons.1 ha with rfl | ha
    · rw [if_pos rfl]
    · rw [if_neg (Pan.ahead_ne (h1 a ha)), ih h2 ha]
/-- Panes that values were put to may be again. -/
theorem allF_right {k : Int} {l : List Pn} (hr : Pan.right l = true) (hn : ∀ a ∈ l, a.acc.n ≤ 9223372036854775807) : ∀ (vs : List (Pl × Int)) (z : List Pn), allF k l vs = some z →
    Pan.right z = true ∧ (∀ a ∈ z, a.acc.n ≤ 9223372036854775807) ∧ ∀ a ∈ z, (∃ b ∈ l, b.p = a.p) ∨ ∃ v ∈ vs, v.1 = a.p := by
  intro vs z h
  obtain ⟨h20, hm, ho⟩ := (Pan.right_iff l).1 hr
  have hg : ∀ q a, Pan.get l q = some a → 1 ≤ a.n ∧ a.n ≤ 9223372036854775807 := fun q a h => by
    obtain ⟨b, hb, _, e⟩ := Pan.get_some h
    rw [← e]
    exact ⟨((Pan.may_ok b).1 (hm b hb)).2, hn b hb⟩
  obtain ⟨oz, gz⟩ := Pan.allF_get ho hg vs z h
  -- where panes come from, that their places are places, and how many there are
  have key : ∀ (vs : List (Pl × Int)) (z : List Pn), allF k l vs = some z → z.length ≤ 2000 ∧ ∀ a ∈ z, plOk a.p = true ∧ ((∃ b ∈ l, b.p = a.p) ∨ ∃ v ∈ vs, v.1 = a.p) := by
    refine Pan.list_snoc ?_ ?_
    · intro z h
      cases h
      exact ⟨h20, fun a ha => ⟨((Pan.may_ok a).1 (hm a ha)).1, .inl ⟨a, ha, rfl⟩⟩⟩
    · intro vs v ih z h
      rw [Pan.allF_push] at h
      cases hy : allF k l vs with
      | none => rw [hy, Pan.step_not] at h; cases h
      | some y =>
        rw [hy] at h
        obtain ⟨_, _, hp, _, rfl, hlen⟩ := Pan.step_some h
        obtain ⟨_, hall⟩ := ih y hy
        refine ⟨hlen, fun a ha => ?_⟩
        rcases Pan.mem_ins ha with e | ha
        · exact ⟨by rw [e]; exact hp, .inr ⟨v, by simp, e.symm⟩⟩
        · obtain ⟨h1, h2⟩ := hall a ha
          exact ⟨h1, h2.imp id fun ⟨u, hu, e⟩ => ⟨u, by simp [hu], e⟩⟩
  obtain ⟨kz, kall⟩ := key vs z h
  have hacc : ∀ a ∈ z, 1 ≤ a.acc.n ∧ a.acc.n ≤ 9223372036854775807 := by
    intro a ha
    have hga := mem_get oz ha
    obtain ⟨_, g2, g3⟩ := gz a.p
    rw [hga] at g2 g3
    have g2' : a.acc.n = Pan.nAt (Pan.get l a.p) + ((Pan.vals a.p vs).length : Nat) := g2
    have g3' : a.acc.n ≤ 9223372036854775807 := g3
    refine ⟨?_, g3'⟩
    rcases (kall a ha).2 with ⟨b, hb, e⟩ | ⟨v, hv, e⟩
    · have h1 := mem_get ho hb
      rw [e] at h1
      rw [h1] at g2'
      have h2 : Pan.nAt (some b.acc) = b.acc.n := rfl
      have h3 := (hg _ _ h1).1
      omega
    · have h0 : 0 ≤ Pan.nAt (Pan.get l a.p) := by
        cases hgl : Pan.get l a.p with
        | none => exact Int.le_refl _
        | some b => have := (hg _ b hgl).1; show 0 ≤ b.n; omega
      have h4 : 0 < (Pan.vals a.p vs).length := by
        refine List.length_pos_of_mem (a := v.2) ?_
        unfold Pan.vals
        exact List.mem_map.2 ⟨v, List.mem_filter.2 ⟨hv, decide_eq_true e⟩, rfl⟩
      omega
  exact ⟨(Pan.right_iff z).2 ⟨kz, fun a ha => (Pan.may_ok a).2 ⟨(kall a ha).1, (hacc a ha).1⟩, oz⟩, fun a ha => (hacc a ha).2, fun a ha => (kall a ha).2⟩
/-- What is taken leaves a group that may be. -/
theorem take_right {s d k : Int} {g : Gp} {e : Ev} {z : List Pn} (hg : right g = true) (hn : ∀ a ∈ g.ps, a.acc.n ≤ 9223372036854775807) (hs : Win.ok s d = true) (h : takeO s d k g.mark g.ps e = some z) :
    right ⟨g.no, g.mark, z⟩ = true ∧ ∀ a ∈ z, a.acc.n ≤ 9223372036854775807 := by
  obtain ⟨h1, h2, h3⟩ := (Grp.right_iff g).1 hg
  unfold takeO at h
  split at h
  · rename_i he
    obtain ⟨z1, z2, z3⟩ := allF_right h2 hn _ _ h
    refine ⟨(Grp.right_iff _).2 ⟨h1, z1, fun a ha => ?_⟩, z2⟩
    rcases z3 a ha with ⟨b, hb, e1⟩ | ⟨v, hv, e1⟩
    · have := h3 b hb; rw [e1] at this; exact this
    · have := (cells_ok he hs v hv).2.1; rw [e1] at this; exact this
  · cases h
/-- The windows that are open: all, where the event is not below the mark; none, where the last one is closed. -/
theorem cells_all {s d mark : Int} {e : Ev} (h : mark ≤ e.at_) : (cells s d mark e).length = (Win.of s d e.at_).length := by
  have := Win.open_all (s := s) (d := d) h
  rw [Win.open_eq] at this
  unfold cells
  rw [List.length_map]
  exact this
theorem cells_last {s d mark : Int} {e : Ev} {x : Int × Int} {n : Nat} (hn : (Win.of s d e.at_).length = n + 1) (hx : (Win.of s d e.at_)[n]? = some x) : (cells s d mark e).length = 0 ↔ x.2 ≤ mark := by
  have h1 := Win.open_iff (s := s) (d := d) (t := e.at_) (m := mark) hx
  have h2 : (cells s d mark e).length = (Win.open_ s d e.at_ mark).length := by rw [Win.open_eq]; unfold cells; rw [List.length_map]
  have h3 := Win.open_le_of s d e.at_ mark
  rw [h2]
  constructor
  · intro h0
    rw [h0, hn] at h1
    have : ¬ mark < x.2 := fun hm => by have := h1.2 hm; omega
    omega
  · intro hm
    have : ¬ (Win.of s d e.at_).length - (Win.open_ s d e.at_ mark).length ≤ n := fun h => by have := h1.1 h; omega
    omega
end Grp
end Go.Proofs.Ythfbcfddfbipfaa
/- A group's mark set on, as plain data. -/
namespace Go.Proofs.Ythfbcfddfbipfaa
set_option linter.unusedVariables false
namespace Grp
open Pan (Pn Pl)
/-- The last time at most. -/
def clamp (m : Int) : Int := if 1099511627776 < m then 1099511627776 else m
/-- The group behind a mark, and the panes that are closed by it. -/
def adv (g : Gp) (m : Int) : Gp × List Pn := if m ≤ g.mark then (g, []) else (⟨g.no, clamp m, Pan.rest (clamp m) g.ps⟩, Pan.due (clamp m) g.ps)
theorem clamp_mono {m m' : Int} (h : m ≤ m') : clamp m ≤ clamp m' := by unfold clamp; split <;> split <;> omega
theorem adv_stay {g : Gp} {m : Int} (h : m ≤ g.mark) : adv g m = (g, []) := if_pos h
theorem adv_go {g : Gp} {m : Int} (h : ¬ m ≤ g.mark) : adv g m = (⟨g.no, clamp m, Pan.rest (clamp m) g.ps⟩, Pan.due (clamp m) g.ps) := if_neg h
theorem adv_right {g : Gp} (h : right g = true) (m : Int) : right (adv g m).1 = true := by
  by_cases hm : m ≤ g.mark
  · rw [adv_stay hm]; exact h
  · obtain ⟨⟨h1, h2, h3, h4⟩, h5, h6⟩ := (right_iff g).1 h
    rw [adv_go hm]
    refine (right_iff _).2 ⟨⟨h1, h2, ?_, ?_⟩, Pan.rest_right h5, fun p hp => ?_⟩
    · show 0 ≤ clamp m; unfold clamp; split <;> omega
    · show clamp m ≤ _; unfold clamp; split <;> omega
    · have := (List.mem_filter.1 hp).2
      show clamp m < p.p.hi
      simpa using this
theorem adv_mark {g : Gp} (h : right g = true) (m : Int) : g.mark ≤ (adv g m).1.mark := by
  by_cases hm : m ≤ g.mark
  · rw [adv_stay hm]; exact Int.le_refl _
  · obtain ⟨⟨h1, h2, h3, h4⟩, _, _⟩ := (right_iff g).1 h
    rw [adv_go hm]
    show g.mark ≤ clamp m
    unfold clamp; split <;> omega
/-- No pane is left that is closed. -/
theorem adv_open {g : Gp} (h : right g = true) (m : Int) : ∀ p ∈ (adv g m).1.ps, m < p.p.hi := by
  obtain ⟨⟨h1, h2, h3, h4⟩, h5, h6⟩ := (right_iff g).1 h
  by_cases hm : m ≤ g.mark
  · rw [adv_stay hm]
    intro p hp
    have := h6 p hp
    omega
  · rw [adv_go hm]
    intro p hp
    obtain ⟨hp1, hp2⟩ := List.mem_filter.1 hp
    have hp3 : clamp m < p.p.hi := by simpa using hp2
    have hp4 : p.p.hi ≤ 1099511627776 := by
      have := (Pan.right_iff _).1 h5
      have := of_decide_eq_true (this.2.1 p hp1)
      omega
    unfold clamp at hp3
    split at hp3 <;> omega
/-- Two marks, one behind the other, or the later one at once. -/
theorem adv_two {g : Gp} (h : right g = true) {m m' : Int} (hm : m ≤ m') : (adv (adv g m).1 m').1 = (adv g m').1 ∧ (adv g m).2 ++ (adv (adv g m).1 m').2 = (adv g m').2 := by
  obtain ⟨⟨h1, h2, h3, h4⟩, h5, h6⟩ := (right_iff g).1 h
  have ho := ((Pan.right_iff _).1 h5).2.2
  by_cases h7 : m ≤ g.mark
  · rw [adv_stay h7]; exact ⟨rfl, List.nil_append _⟩
  · have h8 : ¬ m' ≤ g.mark := by omega
    have hc := clamp_mono hm
    rw [adv_go h7, adv_go h8]
    by_cases h9 : m' ≤ clamp m
    · have e : clamp m' = clamp m := by
        unfold clamp at h9 hc ⊢
        split at h9 <;> split <;> omega
      rw [adv_stay (by exact h9), e]
      exact ⟨rfl, List.append_nil _⟩
    · rw [adv_go (by exact h9)]
      refine ⟨?_, Pan.due_app hc g.ps ho⟩
      show (⟨g.no, clamp m', Pan.rest (clamp m') (Pan.rest (clamp m) g.ps)⟩ : Gp) = _
      rw [Pan.rest_two hc]
end Grp
end Go.Proofs.Ythfbcfddfbipfaa
