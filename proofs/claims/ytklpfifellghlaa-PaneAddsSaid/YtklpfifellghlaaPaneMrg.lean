/- Rows of panes merged: what the two ways of doing it come to. -/
import Derived.Test.YtklpfifellghlaaPaneRow
namespace Go.Proofs.Ytklpfifellghlaa
open Go.RowKit
set_option linter.unusedVariables false
namespace Pan
/-- The first p compare below. -/
structure Cut (l : List Pn) (F : Pn → Int) (p : Nat) : Prop where
  le : p ≤ l.length
  lo : ∀ i a, i < p → l[i]? = some a → F a < 0
  hi : ∀ i a, p ≤ i → l[i]? = some a → ¬ F a < 0
def hit (l : List Pn) (F : Pn → Int) (p : Nat) : Bool := match l[p]? with | some a => decide (F a = 0) | none => false
/-- Would the like of x have too great an N? -/
def hitK (k : Int) (x : Pn) (l : List Pn) : Bool := l.any fun a => decide (a.p = x.p) && decide ((Acm.join k a.acc x.acc).n < 1)
def bad (k : Int) : List Pn → List Pn → Bool
  | _, [] => false
  | a, x :: b => hitK k x a || bad k (ins k x a) b
theorem bad_append (k : Int) : ∀ (b a c : List Pn), bad k a (b ++ c) = (bad k a b || bad k (mrg k a b) c)
  | [], a, c => by simp [bad, mrg]
  | x :: b, a, c => by
    rw [List.cons_append, bad, bad, bad_append k b, Bool.or_assoc]
    rfl
theorem mrg_append (k : Int) (a b c : List Pn) : mrg k a (b ++ c) = mrg k (mrg k a b) c := by simp [mrg, List.foldl_append]
theorem mrg_len (k : Int) : ∀ (b a : List Pn), a.length ≤ (mrg k a b).length ∧ (mrg k a b).length ≤ a.length + b.length
  | [], a => by simp [mrg]
  | x :: b, a => by
    have h := mrg_len k b (ins k x a)
    have h2 := len_ins k x a
    show a.length ≤ (mrg k (ins k x a) b).length ∧ _
    have e : mrg k a (x :: b) = mrg k (ins k x a) b := rfl
    rw [e, List.length_cons]
    omega
theorem take_snoc {l : List Pn} {j : Nat} {x : Pn} (h : l[j]? = some x) : l.take (j + 1) = l.take j ++ [x] := by rw [List.take_add_one, h]; rfl
theorem bad_next {k : Int} {a b : List Pn} {j : Nat} {x : Pn} (h : b[j]? = some x) : bad k a (b.take (j + 1)) = (bad k a (b.take j) || hitK k x (mrg k a (b.take j))) := by
  rw [take_snoc h, bad_append, bad, bad, Bool.or_false]
theorem mrg_next {k : Int} {a b : List Pn} {j : Nat} {x : Pn} (h : b[j]? = some x) : mrg k a (b.take (j + 1)) = ins k x (mrg k a (b.take j)) := by
  rw [take_snoc h, mrg_append]; rfl
theorem bad_of_take {k : Int} {a b : List Pn} {j : Nat} (h : bad k a (b.take j) = true) : bad k a b = true := by
  rw [← List.take_append_drop j b, bad_append, h, Bool.true_or]
theorem len_of_take (k : Int) (a b : List Pn) (j : Nat) : (mrg k a (b.take j)).length ≤ (mrg k a b).length := by
  conv => rhs; rw [← List.take_append_drop j b, mrg_append]
  exact (mrg_len k _ _).1
theorem ins_pre {k : Int} {x : Pn} {l : List Pn} : ∀ {ms : List Pn}, (∀ m ∈ ms, ahead m.p x.p = true) → ins k x (ms ++ l) = ms ++ ins k x l
  | [], _ => rfl
  | m :: ms, h => by
    have h0 := h m (by simp)
    rw [List.cons_append, ins, if_neg (ahead_ne h0), if_neg (by rw [ahead_asymm h0]; simp), ins_pre fun b hb => h b (by simp [hb])]
    rfl
theorem cut_ahead {l : List Pn} {x : Pn} {p : Nat} (h : Cut l (fun a => ordN a.p x.p) p) : ∀ m ∈ l.take p, ahead m.p x.p = true := by
  intro m hm
  obtain ⟨i, hi, rfl⟩ := List.getElem_of_mem hm
  rw [List.length_take] at hi
  rw [List.getElem_take]
  exact (ordN_lt _ _).1 (h.lo i _ (by omega) (List.getElem?_eq_getElem (by omega)))
theorem ord_drop {l : List Pn} (h : Ord l) (n : Nat) : Ord (l.drop n) := List.Pairwise.sublist (List.drop_sublist n l) h
theorem ord_get {l : List Pn} (h : Ord l) {i j : Nat} {a b : Pn} (hi : l[i]? = some a) (hj : l[j]? = some b) (hij : i < j) : ahead a.p b.p = true := by
  obtain ⟨h1, rfl⟩ := List.getElem?_eq_some_iff.1 hi
  obtain ⟨h2, rfl⟩ := List.getElem?_eq_some_iff.1 hj
  exact List.pairwise_iff_getElem.1 h i j h1 h2 hij
theorem drop_head {l : List Pn} {p : Nat} {a : Pn} (h : l[p]? = some a) : l.drop p = a :: l.drop (p + 1) := by
  obtain ⟨h1, rfl⟩ := List.getElem?_eq_some_iff.1 h
  exact List.drop_eq_getElem_cons h1
/-- There is its like. -/
theorem ins_hit {k : Int} {l : List Pn} {x a : Pn} {p : Nat} (h : Cut l (fun a => ordN a.p x.p) p) (ha : l[p]? = some a) (he : a.p = x.p) :
    ins k x l = l.take p ++ (⟨a.p, Acm.join k a.acc x.acc⟩ :: l.drop (p + 1)) := by
  conv => lhs; rw [← List.take_append_drop p l]
  rw [ins_pre (cut_ahead h), drop_head ha, ins, if_pos he]
/-- There is none. -/
theorem ins_miss {k : Int} {l : List Pn} {x : Pn} {p : Nat} (h : Cut l (fun a => ordN a.p x.p) p) (hm : hit l (fun a => ordN a.p x.p) p = false) :
    ins k x l = l.take p ++ (x :: l.drop p) := by
  conv => lhs; rw [← List.take_append_drop p l]
  rw [ins_pre (cut_ahead h)]
  cases hp : l[p]? with
  | none =>
    have : l.length ≤ p := List.getElem?_eq_none_iff.1 hp
    rw [List.drop_eq_nil_of_le this]
    rfl
  | some a =>
    have h1 : ordN a.p x.p ≠ 0 := by
      unfold hit at hm
      rw [hp] at hm
      simpa using hm
    have h2 := h.hi p a (Nat.le_refl _) hp
    have h3 : ahead x.p a.p = true := by
      rcases ahead_total x.p a.p with h3 | h3 | h3
      · exact h3
      · exact absurd ((ordN_eq _ _).2 h3.symm) h1
      · exact absurd ((ordN_lt _ _).2 h3) h2
    rw [drop_head hp, ins, if_neg (fun e => h1 ((ordN_eq _ _).2 e)), if_pos h3]
theorem hitK_pre {k : Int} {x : Pn} {l : List Pn} {ms : List Pn} (h : ∀ m ∈ ms, ahead m.p x.p = true) : hitK k x (ms ++ l) = hitK k x l := by
  unfold hitK
  rw [List.any_append]
  have : (ms.any fun a => decide (a.p = x.p) && decide ((Acm.join k a.acc x.acc).n < 1)) = false := by
    rw [List.any_eq_false]
    intro m hm
    rw [decide_eq_false (ahead_ne (h m hm)), Bool.false_and]
    simp
  rw [this, Bool.false_or]
theorem hitK_behind {k : Int} {x : Pn} {l : List Pn} (h : ∀ m ∈ l, ahead x.p m.p = true) : hitK k x l = false := by
  unfold hitK
  rw [List.any_eq_false]
  intro m hm
  rw [decide_eq_false (fun e => ahead_ne (h m hm) e.symm), Bool.false_and]
  simp
theorem mem_drop_get {l : List Pn} {p : Nat} {m : Pn} (h : m ∈ l.drop p) : ∃ i, p ≤ i ∧ l[i]? = some m := by
  obtain ⟨i, hi, rfl⟩ := List.getElem_of_mem h
  rw [List.length_drop] at hi
  refine ⟨p + i, by omega, ?_⟩
  rw [List.getElem_drop, List.getElem?_eq_getElem (by omega)]
theorem hitK_hit {k : Int} {l : List Pn} {x a : Pn} {p : Nat} (ho : Ord l) (h : Cut l (fun a => ordN a.p x.p) p) (ha : l[p]? = some a) (he : a.p = x.p) :
    hitK k x l = decide ((Acm.join k a.acc x.acc).n < 1) := by
  conv => lhs; rw [← List.take_append_drop p l]
  rw [hitK_pre (cut_ahead h), drop_head ha]
  have h2 : hitK k x (l.drop (p + 1)) = false := hitK_behind fun m hm => by
    obtain ⟨i, hi, hg⟩ := mem_drop_get hm
    rw [← he]
    exact ord_get ho ha hg (by omega)
  unfold hitK at h2 ⊢
  rw [List.any_cons, h2, decide_eq_true he, Bool.true_and, Bool.or_false]
theorem hitK_miss {k : Int} {l : List Pn} {x : Pn} {p : Nat} (ho : Ord l) (h : Cut l (fun a => ordN a.p x.p) p) (hm : hit l (fun a => ordN a.p x.p) p = false) : hitK k x l = false := by
  conv => lhs; rw [← List.take_append_drop p l]
  rw [hitK_pre (cut_ahead h)]
  refine hitK_behind fun m hm2 => ?_
  obtain ⟨i, hi, hg⟩ := mem_drop_get hm2
  have h2 := h.hi i m hi hg
  rcases ahead_total x.p m.p with h3 | h3 | h3
  · exact h3
  · exfalso
    have h0 : p < l.length := by have := (List.getElem?_eq_some_iff.1 hg).1; omega
    obtain ⟨a, ha⟩ : ∃ a, l[p]? = some a := ⟨_, List.getElem?_eq_getElem h0⟩
    have h1 : ordN a.p x.p ≠ 0 := by
      unfold hit at hm
      rw [ha] at hm
      simpa using hm
    rcases Nat.lt_or_ge p i with h4 | h4
    · have h5 := ord_get ho ha hg h4
      rw [← h3] at h5
      exact h.hi p a (Nat.le_refl _) ha ((ordN_lt _ _).2 h5)
    · have : i = p := by omega
      subst this
      rw [ha] at hg; cases hg
      exact h1 ((ordN_eq _ _).2 h3.symm)
  · exact absurd ((ordN_lt _ _).2 h3) h2
/-- A place to cut at. -/
theorem cut_ex {l : List Pn} (ho : Ord l) (x : Pl) : ∃ p, Cut l (fun a => ordN a.p x) p := by
  induction l with
  | nil => exact ⟨0, Nat.le_refl _, fun i a h _ => by omega, fun i a _ h => by simp at h⟩
  | cons b r ih =>
    obtain ⟨hb, hr⟩ := List.pairwise_cons.1 ho
    by_cases h : ahead b.p x = true
    · obtain ⟨p, h1, h2, h3⟩ := ih hr
      refine ⟨p + 1, by simp; omega, fun i a hi ha => ?_, fun i a hi ha => ?_⟩
      · rcases i with _ | i
        · simp at ha; subst ha; exact (ordN_lt _ _).2 h
        · exact h2 i a (by omega) (by simpa using ha)
      · rcases i with _ | i
        · omega
        · exact h3 i a (by omega) (by simpa using ha)
    · refine ⟨0, Nat.zero_le _, fun i a hi _ => by omega, fun i a _ ha hlt => ?_⟩
      have h4 := (ordN_lt _ _).1 hlt
      rcases i with _ | i
      · simp at ha; subst ha; exact h h4
      · exact h (ahead_trans (hb a (List.mem_of_getElem? (by simpa using ha))) h4)
/-- What Merge answers, and Add. -/
def mOut (k : Int) (a b : List Pn) : List Pn × Int :=
  if right a && right b && Acm.isK k then (if bad k a b || decide (2000 < (mrg k a b).length) then ([], 3) else (mrg k a b, 0)) else ([], 1)
end Pan
end Go.Proofs.Ytklpfifellghlaa
