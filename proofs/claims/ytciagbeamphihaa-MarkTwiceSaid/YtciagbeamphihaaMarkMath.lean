/- Marks as plain data: what may be, what is set, held, freed, told. -/
import Derived.Test.YtciagbeamphihaaRows
namespace Go.Proofs.Ytciagbeamphihaa
set_option linter.unusedVariables false
namespace Wm
/-- An input, a hold, marks. -/
structure In where
  mark : Int
  idle : Bool
deriving DecidableEq
structure Ho where
  no : Int
  at_ : Int
deriving DecidableEq
structure Mk where
  ins : List In
  holds : List Ho
  out : Int
abbrev none_ : Mk := ⟨[], [], 0⟩
def tOk (t : Int) : Bool := decide (0 ≤ t ∧ t ≤ 1099511627776)
theorem tOk_iff (t : Int) : tOk t = true ↔ 0 ≤ t ∧ t ≤ 1099511627776 := by simp [tOk]
def clamp (t : Int) : Int := if t < 0 then 0 else if 1099511627776 < t then 1099511627776 else t
theorem clamp_ok (t : Int) : tOk (clamp t) = true := by
  rw [tOk_iff]; unfold clamp; split
  · omega
  · split <;> omega
theorem clamp_eq (t : Int) : clamp t = min (max t 0) 1099511627776 := by
  unfold clamp; split
  · omega
  · split <;> omega
theorem clamp_self {t : Int} (h : tOk t = true) : clamp t = t := by
  rw [tOk_iff] at h; rw [clamp_eq]; omega
/-- Holds: times, with rising numbers above p. -/
def chain : Int → List Ho → Bool
  | _, [] => true
  | p, h :: r => (decide (p < h.no) && tOk h.at_) && chain h.no r
def prev (l : List Ho) (i : Nat) : Int := if i = 0 then -1 else (l.getD (i - 1) ⟨0, 0⟩).no
def right (m : Mk) : Bool := decide (1 ≤ m.ins.length ∧ m.ins.length ≤ 8 ∧ m.holds.length ≤ 32) && tOk m.out && m.ins.all (fun i => tOk i.mark) && chain (-1) m.holds
theorem right_iff (m : Mk) : right m = true ↔ (1 ≤ m.ins.length ∧ m.ins.length ≤ 8 ∧ m.holds.length ≤ 32) ∧ tOk m.out = true ∧ (∀ i ∈ m.ins, tOk i.mark = true) ∧ chain (-1) m.holds = true := by
  unfold right
  rw [Bool.and_eq_true, Bool.and_eq_true, Bool.and_eq_true, decide_eq_true_eq, List.all_eq_true, and_assoc, and_assoc]
theorem chain_low {p q : Int} {l : List Ho} (h : chain p l = true) (hq : q ≤ p) : chain q l = true := by
  cases l with
  | nil => rfl
  | cons x r =>
    simp only [chain, Bool.and_eq_true, decide_eq_true_eq] at h ⊢
    exact ⟨⟨by omega, h.1.2⟩, h.2⟩
theorem chain_mem : ∀ {p : Int} {l : List Ho}, chain p l = true → ∀ x ∈ l, p < x.no ∧ tOk x.at_ = true
  | p, [], _, x, hx => by simp at hx
  | p, y :: r, h, x, hx => by
    simp only [chain, Bool.and_eq_true, decide_eq_true_eq] at h
    rcases List.mem_cons.1 hx with rfl | hx
    · exact h.1
    · have h1 := chain_mem h.2 x hx
      exact ⟨by have := h.1.1; omega, h1.2⟩
/-- The last number of holds, p if there are none. -/
def lastNo (p : Int) (l : List Ho) : Int := (l.getLast?.map Ho.no).getD p
theorem lastNo_cons (p : Int) (y : Ho) (r : List Ho) : lastNo p (y :: r) = lastNo y.no r := by
  cases r with
  | nil => rfl
  | cons z r => simp [lastNo, List.getLast?_cons]
/-- One hold more, at the end. -/
theorem chain_snoc : ∀ (p : Int) (l : List Ho) (x : Ho), chain p (l ++ [x]) = (chain p l && (decide (lastNo p l < x.no) && tOk x.at_))
  | p, [], x => by
    show ((decide (p < x.no) && tOk x.at_) && true) = (true && (decide (p < x.no) && tOk x.at_))
    rw [Bool.and_true, Bool.true_and]
  | p, y :: r, x => by
    have h := chain_snoc y.no r x
    show ((decide (p < y.no) && tOk y.at_) && chain y.no (r ++ [x])) = (((decide (p < y.no) && tOk y.at_) && chain y.no r) && _)
    rw [h, lastNo_cons]
    simp only [Bool.and_assoc]
theorem chain_next {l : List Ho} {i : Nat} {x : Ho} (h : l[i]? = some x) : chain (-1) (l.take (i + 1)) = (chain (-1) (l.take i) && (decide (prev l i < x.no) && tOk x.at_)) := by
  rw [List.take_add_one, h]
  show chain (-1) (l.take i ++ [x]) = _
  rw [chain_snoc]
  have hi : i < l.length := (List.getElem?_eq_some_iff.1 h).1
  have e : lastNo (-1) (l.take i) = prev l i := by
    unfold prev lastNo
    by_cases h0 : i = 0
    · subst h0; simp
    · rw [if_neg h0]
      have hl : (l.take i).getLast? = l[i - 1]? := by
        rw [List.getLast?_eq_getElem?, List.length_take, Nat.min_eq_left (by omega), List.getElem?_take, if_pos (by omega)]
      rw [hl, List.getElem?_eq_getElem (by omega), List.getD_eq_getElem?_getD, List.getElem?_eq_getElem (by omega)]
      rfl
  rw [e]
theorem chain_to {l : List Ho} {i : Nat} (h : chain (-1) (l.take i) = false) : chain (-1) l = false := by
  cases hc : chain (-1) l
  · rfl
  · exfalso
    have : ∀ (n : Nat) (p : Int) (l : List Ho), chain p l = true → chain p (l.take n) = true := by
      intro n
      induction n with
      | zero => intros; rfl
      | succ n ih =>
        intro p l hl
        cases l with
        | nil => rfl
        | cons y r =>
          simp only [chain, List.take_succ_cons, Bool.and_eq_true] at hl ⊢
          exact ⟨hl.1, ih _ _ hl.2⟩
    rw [this i _ _ hc] at h
    cases h
/-- New. -/
def new (n : Int) : Mk × Nat := if 1 ≤ n ∧ n ≤ 8 then (⟨List.replicate n.toNat ⟨0, false⟩, [], 0⟩, 0) else (none_, 1)
theorem new_right {n : Int} (h : 1 ≤ n ∧ n ≤ 8) : new n = (⟨List.replicate n.toNat ⟨0, false⟩, [], 0⟩, 0) ∧ right (new n).1 = true := by
  have e : new n = (⟨List.replicate n.toNat ⟨0, false⟩, [], 0⟩, 0) := if_pos h
  rw [e]
  refine ⟨rfl, (right_iff _).2 ⟨⟨?_, ?_, ?_⟩, rfl, ?_, rfl⟩⟩
  · simp; omega
  · simp; omega
  · simp
  · intro i hi
    rw [(List.mem_replicate.1 hi).2]; rfl
/-- An input in its place. -/
def inAt (m : Mk) (i : Int) : In := m.ins.getD i.toNat ⟨0, false⟩
def there (m : Mk) (i : Int) : Bool := right m && decide (0 ≤ i ∧ i < m.ins.length)
theorem there_iff (m : Mk) (i : Int) : there m i = true ↔ right m = true ∧ 0 ≤ i ∧ i < m.ins.length := by simp [there]
def setM (m : Mk) (i t : Int) : Mk × Nat := if there m i then (⟨m.ins.set i.toNat ⟨if (inAt m i).mark < clamp t then clamp t else (inAt m i).mark, false⟩, m.holds, m.out⟩, 0) else (none_, 1)
def idleM (m : Mk) (i : Int) : Mk × Nat := if there m i then (⟨m.ins.set i.toNat ⟨(inAt m i).mark, true⟩, m.holds, m.out⟩, 0) else (none_, 1)
theorem inAt_mem {m : Mk} {i : Int} (h : 0 ≤ i ∧ i < m.ins.length) : inAt m i ∈ m.ins := by
  unfold inAt
  rw [List.getD_eq_getElem?_getD, List.getElem?_eq_getElem (by omega)]
  exact List.getElem_mem _
theorem with_right {m : Mk} {i : Int} {x : In} (h : right m = true) (hx : tOk x.mark = true) : right ⟨m.ins.set i.toNat x, m.holds, m.out⟩ = true := by
  obtain ⟨h1, h2, h3, h4⟩ := (right_iff m).1 h
  refine (right_iff _).2 ⟨by simpa using h1, h2, ?_, h4⟩
  intro y hy
  rcases List.mem_or_eq_of_mem_set hy with hy | rfl
  · exact h3 y hy
  · exact hx
/-- Without the hold of a number; with one in its place. -/
def without (l : List Ho) (no : Int) : List Ho := l.filter (fun h => !decide (h.no = no))
def has (l : List Ho) (no : Int) : Bool := l.any (fun h => decide (h.no = no))
def insH (x : Ho) : List Ho → List Ho
  | [] => [x]
  | h :: r => if x.no < h.no then x :: h :: r else h :: insH x r
theorem insH_len (x : Ho) (l : List Ho) : (insH x l).length = l.length + 1 := by
  induction l with
  | nil => rfl
  | cons h r ih =>
    unfold insH; split
    · rfl
    · simp [ih]
theorem without_chain : ∀ {p : Int} {l : List Ho} (no : Int), chain p l = true → chain p (without l no) = true
  | p, [], no, _ => rfl
  | p, x :: r, no, h => by
    simp only [chain, Bool.and_eq_true, decide_eq_true_eq] at h
    have ih := without_chain no h.2
    unfold without at ih ⊢
    rw [List.filter_cons]
    split
    · simp only [chain, Bool.and_eq_true, decide_eq_true_eq]
      exact ⟨h.1, ih⟩
    · exact chain_low ih (by have := h.1.1; omega)
theorem without_none {l : List Ho} {no : Int} (h : has l no = false) : without l no = l := by
  unfold without
  rw [List.filter_eq_self]
  intro x hx
  unfold has at h
  have := List.any_eq_false.1 h x hx
  simpa using this
theorem insH_chain : ∀ {p : Int} {l : List Ho} {x : Ho}, chain p l = true → p < x.no → tOk x.at_ = true → has l x.no = false → chain p (insH x l) = true
  | p, [], x, _, hp, hx, _ => by simp [insH, chain, hp, hx]
  | p, y :: r, x, h, hp, hx, hn => by
    simp only [chain, Bool.and_eq_true, decide_eq_true_eq] at h
    unfold has at hn
    simp only [List.any_cons, Bool.or_eq_false_iff, decide_eq_false_iff_not] at hn
    unfold insH
    split
    · rename_i hlt
      simp only [chain, Bool.and_eq_true, decide_eq_true_eq]
      exact ⟨⟨hp, hx⟩, ⟨hlt, h.1.2⟩, h.2⟩
    · rename_i hlt
      simp only [chain, Bool.and_eq_true, decide_eq_true_eq]
      exact ⟨h.1, insH_chain h.2 (by have := hn.1; omega) hx hn.2⟩
theorem without_has (l : List Ho) (no : Int) : has (without l no) no = false := by
  unfold has without
  rw [List.any_eq_false]
  intro x hx
  have := (List.mem_filter.1 hx).2
  simpa using this
theorem insH_back : ∀ {l : List Ho} {x : Ho}, has l x.no = false → without (insH x l) x.no = l ∧ has (insH x l) x.no = true
  | [], x, _ => by simp [insH, without, has]
  | y :: r, x, hn => by
    have hn0 := hn
    unfold has at hn
    simp only [List.any_cons, Bool.or_eq_false_iff, decide_eq_false_iff_not] at hn
    unfold insH
    split
    · constructor
      · have h := without_none hn0
        unfold without at h ⊢
        rw [List.filter_cons]
        simpa using h
      · simp [has]
    · obtain ⟨h1, h2⟩ := insH_back (l := r) (x := x) hn.2
      unfold without at h1 ⊢
      unfold has at h2 ⊢
      constructor
      · rw [List.filter_cons, if_pos (by simpa using hn.1), h1]
      · rw [List.any_cons, h2, Bool.or_true]
def holdM (m : Mk) (no t : Int) : Mk × Nat :=
  if (right m && decide (0 ≤ no)) = true then (if 32 < (insH ⟨no, clamp t⟩ (without m.holds no)).length then (none_, 3) else (⟨m.ins, insH ⟨no, clamp t⟩ (without m.holds no), m.out⟩, 0)) else (none_, 1)
def freeM (m : Mk) (no : Int) : Mk × Nat := if (right m && has m.holds no) = true then (⟨m.ins, without m.holds no, m.out⟩, 0) else (none_, 1)
theorem without_len (l : List Ho) (no : Int) : (without l no).length ≤ l.length := List.length_filter_le _ _
/-- What any call leaves may be, and has the same time. -/
theorem setM_ok {m : Mk} {i t : Int} (h : (setM m i t).2 = 0) : right (setM m i t).1 = true ∧ (setM m i t).1.out = m.out ∧ there m i = true := by
  unfold setM at h ⊢
  by_cases ht : there m i = true
  · rw [if_pos ht]
    obtain ⟨hr, hi⟩ := (there_iff m i).1 ht
    refine ⟨with_right hr ?_, rfl, ht⟩
    simp only
    split
    · exact clamp_ok t
    · exact ((right_iff m).1 hr).2.2.1 _ (inAt_mem hi)
  · rw [if_neg ht] at h; cases h
theorem idleM_ok {m : Mk} {i : Int} (h : (idleM m i).2 = 0) : right (idleM m i).1 = true ∧ (idleM m i).1.out = m.out ∧ there m i = true := by
  unfold idleM at h ⊢
  by_cases ht : there m i = true
  · rw [if_pos ht]
    obtain ⟨hr, hi⟩ := (there_iff m i).1 ht
    exact ⟨with_right hr (((right_iff m).1 hr).2.2.1 (inAt m i) (inAt_mem hi)), rfl, ht⟩
  · rw [if_neg ht] at h; cases h
theorem holdM_ok {m : Mk} {no t : Int} (h : (holdM m no t).2 = 0) : right (holdM m no t).1 = true ∧ (holdM m no t).1.out = m.out := by
  unfold holdM at h ⊢
  by_cases hr : (right m && decide (0 ≤ no)) = true
  · rw [if_pos hr] at h ⊢
    rw [Bool.and_eq_true, decide_eq_true_eq] at hr
    by_cases hl : 32 < (insH ⟨no, clamp t⟩ (without m.holds no)).length
    · rw [if_pos hl] at h; cases h
    · rw [if_neg hl]
      obtain ⟨h1, h2, h3, h4⟩ := (right_iff m).1 hr.1
      exact ⟨(right_iff _).2 ⟨⟨h1.1, h1.2.1, by show (insH ⟨no, clamp t⟩ (without m.holds no)).length ≤ 32; omega⟩, h2, h3, insH_chain (without_chain no h4) (by show (-1 : Int) < no; omega) (clamp_ok t) (without_has _ _)⟩, rfl⟩
  · rw [if_neg hr] at h; cases h
theorem freeM_ok {m : Mk} {no : Int} (h : (freeM m no).2 = 0) : right (freeM m no).1 = true ∧ (freeM m no).1.out = m.out := by
  unfold freeM at h ⊢
  by_cases hr : (right m && has m.holds no) = true
  · rw [if_pos hr]
    rw [Bool.and_eq_true] at hr
    obtain ⟨h1, h2, h3, h4⟩ := (right_iff m).1 hr.1
    have := without_len m.holds no
    exact ⟨(right_iff _).2 ⟨⟨h1.1, h1.2.1, by show (without m.holds no).length ≤ 32; omega⟩, h2, h3, without_chain no h4⟩, rfl⟩
  · rw [if_neg hr] at h; cases h
/-- What marks allow. -/
def loI (a : Int) (x : In) : Int := if x.idle = false ∧ (a < 0 ∨ x.mark < a) then x.mark else a
def loH (a : Int) (x : Ho) : Int := if a < 0 ∨ x.at_ < a then x.at_ else a
def least (m : Mk) : Int := m.holds.foldl loH (m.ins.foldl loI (-1))
def allows (m : Mk) : Int := if least m < 0 then m.out else least m
def tell (m : Mk) : Mk × Int × Bool := if right m then (if allows m ≤ m.out then (m, m.out, false) else (⟨m.ins, m.holds, allows m⟩, allows m, true)) else (none_, 0, false)
/-- The fold over inputs: negative if there is none, else one of them and least. -/
theorem loI_spec : ∀ (l : List In) (a : Int), (∀ x ∈ l, 0 ≤ x.mark) → (0 ≤ a → 0 ≤ l.foldl loI a ∧ l.foldl loI a ≤ a) ∧ (∀ x ∈ l, x.idle = false → 0 ≤ l.foldl loI a ∧ l.foldl loI a ≤ x.mark) ∧ (l.foldl loI a = a ∨ ∃ x ∈ l, x.idle = false ∧ l.foldl loI a = x.mark)
  | [], a, _ => by simp
  | y :: r, a, h => by
    obtain ⟨h1, h2, h3⟩ := loI_spec r (loI a y) fun x hx => h x (List.mem_cons_of_mem _ hx)
    have hy := h y List.mem_cons_self
    have ha : loI a y = a ∨ (y.idle = false ∧ loI a y = y.mark) := by
      unfold loI; split
      · rename_i hc; exact .inr ⟨hc.1, rfl⟩
      · exact .inl rfl
    have hle : 0 ≤ a → 0 ≤ loI a y ∧ loI a y ≤ a := by
      intro h0; unfold loI; split
      · rename_i hc; exact ⟨hy, by omega⟩
      · exact ⟨h0, Int.le_refl _⟩
    have hym : y.idle = false → 0 ≤ loI a y ∧ loI a y ≤ y.mark := by
      intro h0; unfold loI; split
      · exact ⟨hy, Int.le_refl _⟩
      · rename_i hc
        have : ¬ (a < 0 ∨ y.mark < a) := fun hh => hc ⟨h0, hh⟩
        omega
    simp only [List.foldl_cons]
    refine ⟨fun h0 => ?_, fun x hx hi => ?_, ?_⟩
    · have := hle h0; have := h1 this.1; omega
    · rcases List.mem_cons.1 hx with rfl | hx
      · have := hym hi; have := h1 this.1; omega
      · exact h2 x hx hi
    · rcases h3 with h3 | ⟨x, hx, hi, he⟩
      · rcases ha with ha | ⟨hi, ha⟩
        · exact .inl (h3.trans ha)
        · exact .inr ⟨y, List.mem_cons_self, hi, h3.trans ha⟩
      · exact .inr ⟨x, List.mem_cons_of_mem _ hx, hi, he⟩
theorem loH_spec : ∀ (l : List Ho) (a : Int), (∀ x ∈ l, 0 ≤ x.at_) → (0 ≤ a → 0 ≤ l.foldl loH a ∧ l.foldl loH a ≤ a) ∧ (∀ x ∈ l, 0 ≤ l.foldl loH a ∧ l.foldl loH a ≤ x.at_) ∧ (l.foldl loH a = a ∨ ∃ x ∈ l, l.foldl loH a = x.at_)
  | [], a, _ => by simp
  | y :: r, a, h => by
    obtain ⟨h1, h2, h3⟩ := loH_spec r (loH a y) fun x hx => h x (List.mem_cons_of_mem _ hx)
    have hy := h y List.mem_cons_self
    have ha : loH a y = a ∨ loH a y = y.at_ := by
      unfold loH; split
      · exact .inr rfl
      · exact .inl rfl
    have hym : 0 ≤ loH a y ∧ loH a y ≤ y.at_ := by
      unfold loH; split
      · exact ⟨hy, Int.le_refl _⟩
      · omega
    have hle : 0 ≤ a → loH a y ≤ a := by
      intro h0; unfold loH; split
      · omega
      · exact Int.le_refl _
    simp only [List.foldl_cons]
    refine ⟨fun h0 => ?_, fun x hx => ?_, ?_⟩
    · have := hle h0; have := h1 hym.1; omega
    · rcases List.mem_cons.1 hx with rfl | hx
      · have := h1 hym.1; omega
      · exact h2 x hx
    · rcases h3 with h3 | ⟨x, hx, he⟩
      · rcases ha with ha | ha
        · exact .inl (h3.trans ha)
        · exact .inr ⟨y, List.mem_cons_self, h3.trans ha⟩
      · exact .inr ⟨x, List.mem_cons_of_mem _ hx, he⟩
/-- What marks that may be allow: below all that holds; one of them, or the last time. -/
theorem allows_spec {m : Mk} (hr : right m = true) : tOk (allows m) = true ∧ ((allows m = m.out ∧ least m < 0) ∨ (allows m = least m ∧ (∀ x ∈ m.ins, x.idle = false → allows m ≤ x.mark) ∧ ∀ x ∈ m.holds, allows m ≤ x.at_)) := by
  obtain ⟨h1, h2, h3, h4⟩ := (right_iff m).1 hr
  have h4' := chain_mem h4
  have hi : ∀ x ∈ m.ins, 0 ≤ x.mark := fun x hx => ((tOk_iff _).1 (h3 x hx)).1
  have hh : ∀ x ∈ m.holds, 0 ≤ x.at_ := fun x hx => ((tOk_iff _).1 (h4' x hx).2).1
  obtain ⟨a1, a2, a3⟩ := loI_spec m.ins (-1) hi
  obtain ⟨b1, b2, b3⟩ := loH_spec m.holds (m.ins.foldl loI (-1)) hh
  unfold allows
  by_cases hl : least m < 0
  · rw [if_pos hl]
    exact ⟨h2, .inl ⟨rfl, hl⟩⟩
  · rw [if_neg hl]
    have hl' : least m = m.holds.foldl loH (m.ins.foldl loI (-1)) := rfl
    rw [hl'] at hl ⊢
    refine ⟨?_, .inr ⟨rfl, fun x hx hi => ?_, fun x hx => (b2 x hx).2⟩⟩
    · rw [tOk_iff]
      refine ⟨by omega, ?_⟩
      rcases b3 with b3 | ⟨x, hx, he⟩
      · rcases a3 with a3 | ⟨x, hx, _, he⟩
        · rw [b3, a3]; omega
        · rw [b3, he]; exact ((tOk_iff _).1 (h3 x hx)).2
      · rw [he]; exact ((tOk_iff _).1 (h4' x hx).2).2
    · have c1 := a2 x hx hi
      have c2 := b1 c1.1
      omega
theorem tell_right {m : Mk} (hr : right m = true) : right (tell m).1 = true ∧ m.out ≤ (tell m).2.1 ∧ (tell m).1.out = (tell m).2.1 ∧ (tell m).1.ins = m.ins ∧ (tell m).1.holds = m.holds ∧ ((tell m).2.2 = decide (m.out < (tell m).2.1)) ∧
    ((tell m).2.2 = true → (∀ x ∈ m.ins, x.idle = false → (tell m).2.1 ≤ x.mark) ∧ ∀ x ∈ m.holds, (tell m).2.1 ≤ x.at_) := by
  obtain ⟨s1, s2⟩ := allows_spec hr
  unfold tell
  rw [if_pos hr]
  by_cases hle : allows m ≤ m.out
  · rw [if_pos hle]
    exact ⟨hr, Int.le_refl _, rfl, rfl, rfl, by simp, by simp⟩
  · rw [if_neg hle]
    obtain ⟨h1, h2, h3, h4⟩ := (right_iff m).1 hr
    refine ⟨(right_iff _).2 ⟨h1, s1, h3, h4⟩, by simp only; omega, rfl, rfl, rfl, by simp only; rw [decide_eq_true (by omega)], fun _ => ?_⟩
    rcases s2 with ⟨e, _⟩ | ⟨_, e1, e2⟩
    · omega
    · exact ⟨e1, e2⟩
theorem tell_twice {m : Mk} (hr : right m = true) : tell (tell m).1 = ((tell m).1, (tell m).2.1, false) := by
  have h := tell_right hr
  have hl : least (tell m).1 = least m := by unfold least; rw [h.2.2.2.1, h.2.2.2.2.1]
  have hal : allows (tell m).1 ≤ (tell m).1.out := by
    unfold allows; rw [hl]
    split
    · exact Int.le_refl _
    · rename_i h0
      have e : allows m = least m := if_neg h0
      unfold tell; rw [if_pos hr]
      split
      · simp only; omega
      · simp only; omega
  show (if right (tell m).1 then _ else _) = _
  rw [if_pos h.1, if_pos hal, h.2.2.1]
/-- To set no later a time changes nothing. -/
theorem set_twice {m : Mk} {i t u : Int} (h : (setM m i t).2 = 0) (hu : clamp u ≤ (inAt (setM m i t).1 i).mark) : setM (setM m i t).1 i u = ((setM m i t).1, 0) := by
  obtain ⟨h1, h2, h3⟩ := setM_ok h
  obtain ⟨hr, hi⟩ := (there_iff m i).1 h3
  have e : (setM m i t).1 = ⟨m.ins.set i.toNat ⟨if (inAt m i).mark < clamp t then clamp t else (inAt m i).mark, false⟩, m.holds, m.out⟩ := by unfold setM; rw [if_pos h3]
  obtain ⟨x, hx⟩ : ∃ x : In, x = ⟨if (inAt m i).mark < clamp t then clamp t else (inAt m i).mark, false⟩ := ⟨_, rfl⟩
  rw [← hx] at e
  have hin : inAt (setM m i t).1 i = x := by
    rw [e]; unfold inAt
    rw [List.getD_eq_getElem?_getD, List.getElem?_set_self (by omega)]
    rfl
  have ht : there (setM m i t).1 i = true := (there_iff _ _).2 ⟨h1, hi.1, by rw [e]; simpa using hi.2⟩
  show (if there (setM m i t).1 i then _ else _) = _
  rw [if_pos ht, hin]
  rw [hin] at hu
  rw [if_neg (by omega)]
  have hxx : (⟨x.mark, false⟩ : In) = x := by rw [hx]
  rw [hxx, e]
  simp only [List.set_set]
theorem set_min {m : Mk} {i t : Int} (h : (setM m i t).2 = 0) : clamp (min t (inAt (setM m i t).1 i).mark) ≤ (inAt (setM m i t).1 i).mark := by
  obtain ⟨h1, h2, h3⟩ := setM_ok h
  obtain ⟨hr, hi⟩ := (there_iff m i).1 h3
  have hm : inAt (setM m i t).1 i ∈ (setM m i t).1.ins := inAt_mem ⟨hi.1, by unfold setM; rw [if_pos h3]; simpa using hi.2⟩
  have := (tOk_iff _).1 (((right_iff _).1 h1).2.2.1 _ hm)
  rw [clamp_eq]; omega
/-- A hold that goes again. -/
theorem free_hold {m : Mk} {no t : Int} (hn : has m.holds no = false) (h : (holdM m no t).2 = 0) (hr : right m = true) : freeM (holdM m no t).1 no = (m, 0) := by
  obtain ⟨h1, h2⟩ := holdM_ok h
  have e : (holdM m no t).1 = ⟨m.ins, insH ⟨no, clamp t⟩ m.holds, m.out⟩ := by
    unfold holdM at h ⊢
    by_cases hc : (right m && decide (0 ≤ no)) = true
    · rw [if_pos hc] at h ⊢
      rw [without_none hn] at h ⊢
      by_cases hl : 32 < (insH ⟨no, clamp t⟩ m.holds).length
      · rw [if_pos hl] at h; cases h
      · rw [if_neg hl]
    · rw [if_neg hc] at h; cases h
  obtain ⟨b1, b2⟩ := insH_back (l := m.holds) (x := ⟨no, clamp t⟩) hn
  unfold freeM
  rw [e] at h1 ⊢
  simp only at b1 b2 ⊢
  rw [if_pos (by rw [h1, b2]; rfl), b1]
end Wm
end Go.Proofs.Ytciagbeamphihaa
