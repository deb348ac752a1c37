/- PaneMath, Still, put together. -/
import Derived.Test.YtipmphkmeiogoaaZ6
import Derived.Test.YtipmphkmeiogoaaZ2
import Derived.StillTailTactics
/- Panes as plain data: the order of places, a row in order, one more value, what is looked up. -/
namespace Go.Proofs.Ytipmphkmeiogoaa
set_option linter.unusedVariables false
set_option maxRecDepth 8000
namespace Pan
abbrev less (x y : List UInt8) : Bool := Op.bytesLess x y
theorem less_cons (a b : UInt8) (x y : List UInt8) : less (a :: x) (b :: y) = true ↔ a < b ∨ (a = b ∧ less x y = true) := by
  simp [less, Op.bytesLess]
theorem less_irrefl : ∀ (x : List UInt8), less x x = false
  | [] => rfl
  | a :: x => by
    have ih := less_irrefl x
    simp only [less, Op.bytesLess] at ih ⊢
    simp [ih]
theorem less_trans : ∀ (x y z : List UInt8), less x y = true → less y z = true → less x z = true
  | [], [], _, h, _ => by simp [less, Op.bytesLess] at h
  | [], _ :: _, [], _, h => by simp [less, Op.bytesLess] at h
  | [], _ :: _, _ :: _, _, _ => by simp [less, Op.bytesLess]
  | _ :: _, [], _, h, _ => by simp [less, Op.bytesLess] at h
  | _ :: _, _ :: _, [], _, h => by simp [less, Op.bytesLess] at h
  | a :: x, b :: y, c :: z, h1, h2 => by
    have ih := less_trans x y z
    rw [less_cons] at h1 h2 ⊢
    rcases h1 with h1 | ⟨rfl, h1⟩
    · rcases h2 with h2 | ⟨rfl, h2⟩
      · exact .inl (UInt8.lt_trans h1 h2)
      · exact .inl h1
    · rcases h2 with h2 | ⟨rfl, h2⟩
      · exact .inl h2
      · exact .inr ⟨rfl, ih h1 h2⟩
theorem less_total : ∀ (x y : List UInt8), less x y = true ∨ x = y ∨ less y x = true
  | [], [] => by simp
  | [], _ :: _ => by simp [less, Op.bytesLess]
  | _ :: _, [] => by simp [less, Op.bytesLess]
  | a :: x, b :: y => by
    have ih := less_total x y
    rw [less_cons, less_cons]
    by_cases h : a = b
    · subst h
      rcases ih with h | rfl | h
      · exact .inl (.inr ⟨rfl, h⟩)
      · exact .inr (.inl rfl)
      · exact .inr (.inr (.inr ⟨rfl, h⟩))
    · by_cases h2 : a < b
      · exact .inl (.inl h2)
      · refine .inr (.inr (.inl ?_))
        rw [UInt8.lt_iff_toNat_lt] at h2 ⊢
        have h3 : a.toNat ≠ b.toNat := fun e => h (UInt8.toNat_inj.1 e)
        omega
/-- A key and a window. -/
structure Pl where
  lo : Int
  hi : Int
  key : List UInt8
deriving DecidableEq
/-- A pane. -/
structure Pn where
  p : Pl
  acc : Acm.Ac
def ahead (a b : Pl) : Bool := if a.hi = b.hi then (if a.lo = b.lo then less a.key b.key else decide (a.lo < b.lo)) else decide (a.hi < b.hi)
theorem ahead_iff (a b : Pl) : ahead a b = true ↔ a.hi < b.hi ∨ (a.hi = b.hi ∧ (a.lo < b.lo ∨ (a.lo = b.lo ∧ less a.key b.key = true))) := by
  unfold ahead
  split
  · rename_i h
    split
    · rename_i h2
      simp only [h, h2, Int.lt_irrefl, false_or, true_and]
    · rename_i h2
      simp only [h, h2, Int.lt_irrefl, false_or, true_and, decide_eq_true_eq, false_and, or_false]
  · rename_i h
    simp only [h, decide_eq_true_eq, false_and, or_false]
theorem ahead_irrefl (a : Pl) : ahead a a = false := by unfold ahead; rw [if_pos rfl, if_pos rfl]; exact less_irrefl _
theorem ahead_trans {a b c : Pl} (h1 : ahead a b = true) (h2 : ahead b c = true) : ahead a c = true := by
  rw [ahead_iff] at h1 h2 ⊢
  rcases h1 with h1 | ⟨e1, h1 | ⟨e2, h1⟩⟩ <;> rcases h2 with h2 | ⟨e3, h2 | ⟨e4, h2⟩⟩
  · exact .inl (by omega)
  · exact .inl (by omega)
  · exact .inl (by omega)
  · exact .inl (by omega)
  · exact .inr ⟨by omega, .inl (by omega)⟩
  · exact .inr ⟨by omega, .inl (by omega)⟩
  · exact .inl (by omega)
  · exact .inr ⟨by omega, .inl (by omega)⟩
  · exact .inr ⟨by omega, .inr ⟨by omega, less_trans _ _ _ h1 h2⟩⟩
theorem ahead_total (a b : Pl) : ahead a b = true ∨ a = b ∨ ahead b a = true := by
  rw [ahead_iff, ahead_iff]
  by_cases h1 : a.hi = b.hi
  · by_cases h2 : a.lo = b.lo
    · rcases less_total a.key b.key with h | h | h
      · exact .inl (.inr ⟨h1, .inr ⟨h2, h⟩⟩)
      · refine .inr (.inl ?_)
        cases a; cases b; simp_all
      · exact .inr (.inr (.inr ⟨h1.symm, .inr ⟨h2.symm, h⟩⟩))
    · by_cases h3 : a.lo < b.lo
      · exact .inl (.inr ⟨h1, .inl h3⟩)
      · exact .inr (.inr (.inr ⟨h1.symm, .inl (by omega)⟩))
  · by_cases h3 : a.hi < b.hi
    · exact .inl (.inl h3)
    · exact .inr (.inr (.inl (by omega)))
theorem ahead_ne {a b : Pl} (h : ahead a b = true) : a ≠ b := fun e => by rw [e, ahead_irrefl] at h; cases h
theorem ahead_asymm {a b : Pl} (h : ahead a b = true) : ahead b a = false := by
  cases h2 : ahead b a with
  | false => rfl
  | true => have := ahead_trans h h2; rw [ahead_irrefl] at this; cases this
/-- In order: each stands ahead of all behind it. -/
abbrev Ord (l : List Pn) : Prop := l.Pairwise fun a b => ahead a.p b.p = true
/-- One after the other, as it is checked. -/
def chain : List Pn → Bool
  | [] => true
  | [_] => true
  | a :: b :: r => ahead a.p b.p && chain (b :: r)
theorem chain_iff : ∀ (l : List Pn), chain l = true ↔ Ord l
  | [] => by simp [chain]
  | [a] => by simp [chain]
  | a :: b :: r => by
    have ih := chain_iff (b :: r)
    rw [chain, Bool.and_eq_true, ih]
    constructor
    · rintro ⟨h1, h2⟩
      refine List.Pairwise.cons (fun c hc => ?_) h2
      rcases List.mem_cons.1 hc with rfl | hc
      · exact h1
      · exact ahead_trans h1 ((List.pairwise_cons.1 h2).1 c hc)
    · intro h
      exact ⟨(List.pairwise_cons.1 h).1 b (by simp), (List.pairwise_cons.1 h).2⟩
/-- What lies at a place. -/
def get : List Pn → Pl → Option Acm.Ac
  | [], _ => none
  | a :: r, q => if a.p = q then some a.acc else get r q
theorem get_none_of {l : List Pn} {q : Pl} (h : ∀ a ∈ l, a.p ≠ q) : get l q = none := by
  induction l with
  | nil => rfl
  | cons a r ih => rw [get, if_neg (h a (by simp)), ih fun b hb => h b (by simp [hb])]
theorem get_ahead {l : List Pn} {q : Pl} (h : ∀ a ∈ l, ahead q a.p = true) : get l q = none := get_none_of fun a ha e => ahead_ne (h a ha) e.symm
theorem get_some {l : List Pn} {q : Pl} {v : Acm.Ac} (h : get l q = some v) : ∃ a ∈ l, a.p = q ∧ a.acc = v := by
  induction l with
  | nil => cases h
  | cons a r ih =>
    rw [get] at h
    split at h
    · exact ⟨a, by simp, by assumption, Option.some.inj h⟩
    · obtain ⟨b, hb, h1, h2⟩ := ih h; exact ⟨b, by simp [hb], h1, h2⟩
/-- Rows in order of which the same is looked up are the same. -/
theorem same_rows : ∀ (l m : List Pn), Ord l → Ord m → (∀ q, get l q = get m q) → l = m
  | [], [], _, _, _ => rfl
  | [], b :: m, _, _, h => by have := h b.p; simp [get] at this
  | a :: l, [], _, _, h => by have := h a.p; simp [get] at this
  | a :: l, b :: m, h1, h2, h => by
    obtain ⟨ha, hl⟩ := List.pairwise_cons.1 h1
    obtain ⟨hb, hm⟩ := List.pairwise_cons.1 h2
    have e1 := h a.p
    have e2 := h b.p
    rw [get, if_pos rfl, get] at e1
    rw [get, get, if_pos rfl] at e2
    have hp : a.p = b.p := by
      rcases ahead_total a.p b.p with h3 | h3 | h3
      · rw [if_neg (fun e => ahead_ne h3 e.symm), get_ahead fun c hc => ahead_trans h3 (hb c hc)] at e1; cases e1
      · exact h3
      · rw [if_neg (fun e => ahead_ne h3 e.symm), get_ahead fun c hc => ahead_trans h3 (ha c hc)] at e2; cases e2
    rw [if_pos hp.symm] at e1
    have hac : a = b := by
      have := Option.some.inj e1
      cases a; cases b; simp_all
    subst hac
    rw [same_rows l m hl hm fun q => ?_]
    have := h q
    rw [get, get] at this
    split at this
    · rename_i hq
      rw [← hq, get_ahead ha, get_ahead hb]
    · exact this
/-- One more, joined with its like. -/
def ins (k : Int) (x : Pn) : List Pn → List Pn
  | [] => [x]
  | a :: r => if a.p = x.p then ⟨a.p, Acm.join k a.acc x.acc⟩ :: r else if ahead x.p a.p then x :: a :: r else a :: ins k x r
theorem mem_ins {k : Int} {x b : Pn} {l : List Pn} (h : b ∈ ins k x l) : b.p = x.p ∨ b ∈ l := by
  induction l with
  | nil => simp [ins] at h; exact .inl (by rw [h])
  | cons a r ih =>
    rw [ins] at h
    split at h
    · rename_i e
      rcases List.mem_cons.1 h with rfl | h
      · exact .inl e
      · exact .inr (by simp [h])
    · split at h
      · rcases List.mem_cons.1 h with rfl | h
        · exact .inl rfl
        · exact .inr h
      · rcases List.mem_cons.1 h with rfl | h
        · exact .inr (by simp)
        · rcases ih h with h | h
          · exact .inl h
          · exact .inr (by simp [h])
theorem ins_ord {k : Int} {x : Pn} {l : List Pn} (h : Ord l) : Ord (ins k x l) := by
  induction l with
  | nil => exact List.pairwise_singleton _ _
  | cons a r ih =>
    obtain ⟨ha, hr⟩ := List.pairwise_cons.1 h
    rw [ins]
    split
    · exact List.Pairwise.cons ha hr
    · rename_i hne
      split
      · rename_i hx
        refine List.Pairwise.cons (fun b hb => ?_) h
        rcases List.mem_cons.1 hb with rfl | hb
        · exact hx
        · exact ahead_trans hx (ha b hb)
      · rename_i hx
        refine List.Pairwise.cons (fun b hb => ?_) (ih hr)
        rcases mem_ins hb with e | hb
        · rw [e]
          rcases ahead_total a.p x.p with h3 | h3 | h3
          · exact h3
          · exact absurd h3 hne
          · exact absurd h3 hx
        · exact ha b hb
/-- What two, of which either may be none, make. -/
def two (k : Int) : Option Acm.Ac → Acm.Ac → Acm.Ac
  | none, v => v
  | some a, v => Acm.join k a v
theorem get_ins {k : Int} {x : Pn} {l : List Pn} (h : Ord l) (q : Pl) : get (ins k x l) q = if x.p = q then some (two k (get l q) x.acc) else get l q := by
  induction l with
  | nil =>
    rw [ins, get, get]
    rfl
  | cons a r ih =>
    obtain ⟨ha, hr⟩ := List.pairwise_cons.1 h
    rw [ins]
    split
    · rename_i e
      rw [get, get]
      simp only [e]
      by_cases hq : x.p = q
      · rw [if_pos hq, if_pos hq, if_pos hq]; rfl
      · rw [if_neg hq, if_neg hq, if_neg hq]
    · rename_i hne
      split
      · rename_i hx
        rw [get]
        by_cases hq : x.p = q
        · subst hq
          rw [if_pos rfl, if_pos rfl, get_ahead fun b hb => ?_]
          · rfl
          · rcases List.mem_cons.1 hb with rfl | hb
            · exact hx
            · exact ahead_trans hx (ha b hb)
        · rw [if_neg hq, if_neg hq]
      · rw [get, get, ih hr]
        by_cases hq : x.p = q
        · subst hq
          rw [if_neg hne, if_pos rfl, if_pos rfl, if_neg hne]
        · rw [if_neg hq, if_neg hq]
theorem len_ins (k : Int) (x : Pn) (l : List Pn) : l.length ≤ (ins k x l).length ∧ (ins k x l).length ≤ l.length + 1 := by
  induction l with
  | nil => simp [ins]
  | cons a r ih =>
    rw [ins]
    split
    · simp
    · split
      · simp
      · simp only [List.length_cons]; omega
/-- Values added to none. -/
def adds (k : Int) (vs : List (Pl × Int)) : List Pn := vs.foldl (fun l v => ins k ⟨v.1, Acm.one k v.2⟩ l) []
theorem adds_push (k : Int) (vs : List (Pl × Int)) (v : Pl × Int) : adds k (vs ++ [v]) = ins k ⟨v.1, Acm.one k v.2⟩ (adds k vs) := by
  unfold adds
  simp [List.foldl_append]
theorem list_snoc {α : Type} {P : List α → Prop} (h0 : P []) (h1 : ∀ l v, P l → P (l ++ [v])) : ∀ l, P l := by
  intro l
  have h : ∀ n, ∀ l : List α, l.length = n → P l := by
    intro n
    induction n with
    | zero => intro l hl; obtain rfl := List.eq_nil_of_length_eq_zero hl; exact h0
    | succ n ih =>
      intro l hl
      rcases List.eq_nil_or_concat l with rfl | ⟨r, v, rfl⟩
      · exact h0
      · rw [List.concat_eq_append]
        exact h1 r v (ih r (by simpa using hl))
  exact h _ l rfl
theorem adds_ord (k : Int) (vs : List (Pl × Int)) : Ord (adds k vs) := by
  refine list_snoc (P := fun vs => Ord (adds k vs)) List.Pairwise.nil (fun l v h => ?_) vs
  rw [adds_push]
  exact ins_ord h
/-- The values of a place. -/
def vals (q : Pl) (vs : List (Pl × Int)) : List Int := (vs.filter fun v => decide (v.1 = q)).map (·.2)
theorem vals_push (q : Pl) (vs : List (Pl × Int)) (v : Pl × Int) : vals q (vs ++ [v]) = if v.1 = q then vals q vs ++ [v.2] else vals q vs := by
  unfold vals
  by_cases h : v.1 = q
  · simp [h]
  · simp [h]
theorem vals_append (q : Pl) (l m : List (Pl × Int)) : vals q (l ++ m) = vals q l ++ vals q m := by simp [vals]
theorem vals_len (q : Pl) (vs : List (Pl × Int)) : (vals q vs).length ≤ vs.length := by
  unfold vals
  rw [List.length_map]
  exact List.length_filter_le _ _
theorem all_of_one {k : Int} (h : 1 ≤ k ∧ k ≤ 5) (v : Int) : Acm.all k [v] = Acm.one k v := Acm.join_l h rfl _
theorem get_adds {k : Int} (h : 1 ≤ k ∧ k ≤ 5) (vs : List (Pl × Int)) (q : Pl) : get (adds k vs) q = if vals q vs = [] then none else some (Acm.all k (vals q vs)) := by
  refine list_snoc (P := fun vs => get (adds k vs) q = if vals q vs = [] then none else some (Acm.all k (vals q vs))) (by simp [adds, get, vals]) (fun l v ih => ?_) vs
  rw [adds_push, get_ins (adds_ord k l), vals_push]
  by_cases hq : v.1 = q
  · have hne : ¬ (vals q l ++ [v.2] = []) := by simp
    rw [if_pos hq, if_pos hq, ih, if_neg hne]
    by_cases hn : vals q l = []
    · rw [if_pos hn, hn]
      exact congrArg some (all_of_one h v.2).symm
    · rw [if_neg hn]
      exact congrArg some (Acm.all_push k _ _).symm
  · rw [if_neg hq, if_neg hq, ih]
/-- THE STAGE'S THEOREM, of rows: in any order the same. -/
theorem adds_perm {k : Int} (h : 1 ≤ k ∧ k ≤ 5) {l m : List (Pl × Int)} (hp : l.Perm m) (hl : l.length ≤ 1000000) : adds k l = adds k m := by
  refine same_rows _ _ (adds_ord k l) (adds_ord k m) fun q => ?_
  have hv : (vals q l).Perm (vals q m) := (hp.filter _).map _
  rw [get_adds h, get_adds h, Acm.all_perm hv (Nat.le_trans (vals_len q l) hl)]
  by_cases hn : vals q l = []
  · have : vals q m = [] := by rw [hn] at hv; exact hv.nil_eq.symm
    rw [if_pos hn, if_pos this]
  · have : vals q m ≠ [] := fun e => by rw [e] at hv; exact hn hv.eq_nil
    rw [if_neg hn, if_neg this]
/-- Two rows together. -/
def mrg (k : Int) (a b : List Pn) : List Pn := b.foldl (fun l x => ins k x l) a
theorem mrg_ord {k : Int} : ∀ (b a : List Pn), Ord a → Ord (mrg k a b)
  | [], _, h => h
  | x :: b, a, h => mrg_ord b (ins k x a) (ins_ord h)
def both (k : Int) : Option Acm.Ac → Option Acm.Ac → Option Acm.Ac
  | x, none => x
  | none, some y => some y
  | some x, some y => some (Acm.join k x y)
theorem get_mrg {k : Int} : ∀ (b a : List Pn), Ord a → Ord b → ∀ q, get (mrg k a b) q = both k (get a q) (get b q)
  | [], a, _, _, q => by show get a q = both k (get a q) (get [] q); rw [get]; cases get a q <;> rfl
  | x :: b, a, ha, hb, q => by
    obtain ⟨hx, hb'⟩ := List.pairwise_cons.1 hb
    show get (mrg k (ins k x a) b) q = _
    rw [get_mrg b (ins k x a) (ins_ord ha) hb' q, get_ins ha, get]
    by_cases hq : x.p = q
    · subst hq
      rw [if_pos rfl, if_pos rfl, get_ahead hx]
      cases get a x.p <;> rfl
    · rw [if_neg hq, if_neg hq]
theorem both_vals {k : Int} (h : 1 ≤ k ∧ k ≤ 5) (l m : List Int) (hl : l.length ≤ 1000000) (hm : m.length ≤ 1000000) :
    both k (if l = [] then none else some (Acm.all k l)) (if m = [] then none else some (Acm.all k m)) = if l ++ m = [] then none else some (Acm.all k (l ++ m)) := by
  by_cases h1 : l = []
  · subst h1
    by_cases h2 : m = []
    · subst h2; rfl
    · rw [if_pos rfl, if_neg h2, List.nil_append, if_neg h2]; rfl
  · by_cases h2 : m = []
    · subst h2; rw [if_neg h1, if_pos rfl, List.append_nil, if_neg h1]; rfl
    · rw [if_neg h1, if_neg h2, if_neg (by simp [h1]), Acm.all_append _ l m rfl hl hm]; rfl
theorem mrg_adds {k : Int} (h : 1 ≤ k ∧ k ≤ 5) (l m : List (Pl × Int)) (hl : l.length ≤ 1000000) (hm : m.length ≤ 1000000) : mrg k (adds k l) (adds k m) = adds k (l ++ m) := by
  refine same_rows _ _ (mrg_ord _ _ (adds_ord k l)) (adds_ord k _) fun q => ?_
  rw [get_mrg _ _ (adds_ord k l) (adds_ord k m), get_adds h, get_adds h, get_adds h, vals_append]
  exact both_vals h _ _ (Nat.le_trans (vals_len q l) hl) (Nat.le_trans (vals_len q m) hm)
theorem mrg_turn {k : Int} (h : 1 ≤ k ∧ k ≤ 5) (l m : List (Pl × Int)) (hl : l.length ≤ 500000) (hm : m.length ≤ 500000) : mrg k (adds k m) (adds k l) = adds k (l ++ m) := by
  rw [mrg_adds h m l (by omega) (by omega)]
  exact adds_perm h List.perm_append_comm (by rw [List.length_append]; omega)
theorem len_adds (k : Int) (vs : List (Pl × Int)) : (adds k vs).length ≤ vs.length := by
  refine list_snoc (P := fun vs => (adds k vs).length ≤ vs.length) (by simp [adds]) (fun l v ih => ?_) vs
  rw [adds_push]
  have := (len_ins k ⟨v.1, Acm.one k v.2⟩ (adds k l)).2
  simp only [List.length_append, List.length_singleton]
  omega
/-- Those that end at the mark or ahead of it, and the others. -/
def due (m : Int) (l : List Pn) : List Pn := l.filter fun a => decide (a.p.hi ≤ m)
def rest (m : Int) (l : List Pn) : List Pn := l.filter fun a => !decide (a.p.hi ≤ m)
theorem hi_le {a b : Pl} (h : ahead a b = true) : a.hi ≤ b.hi := by rw [ahead_iff] at h; omega
theorem due_rest (m : Int) : ∀ (l : List Pn), Ord l → due m l ++ rest m l = l
  | [], _ => rfl
  | a :: l, h => by
    obtain ⟨ha, hl⟩ := List.pairwise_cons.1 h
    have ih := due_rest m l hl
    by_cases hm : a.p.hi ≤ m
    · have e1 : due m (a :: l) = a :: due m l := by simp [due, hm]
      have e2 : rest m (a :: l) = rest m l := by simp [rest, hm]
      rw [e1, e2, List.cons_append, ih]
    · have e1 : due m (a :: l) = [] := by
        unfold due
        rw [List.filter_eq_nil_iff]
        intro b hb
        rcases List.mem_cons.1 hb with rfl | hb
        · simpa using hm
        · have := hi_le (ha b hb); simp; omega
      have e2 : rest m (a :: l) = a :: l := by
        unfold rest
        rw [List.filter_eq_self]
        intro b hb
        rcases List.mem_cons.1 hb with rfl | hb
        · simpa using hm
        · have := hi_le (ha b hb); simp; omega
      rw [e1, e2]; rfl
/-- What is due earlier is the beginning of what is due later. -/
theorem due_later {m m' : Int} (h : m ≤ m') (l : List Pn) (hl : Ord l) : (due m' l).take (due m l).length = due m l := by
  have e1 := due_rest m l hl
  have e2 : due m' l = due m l ++ (rest m l).filter (fun a => decide (a.p.hi ≤ m')) := by
    have e3 : due m' (due m l ++ rest m l) = due m l ++ (rest m l).filter (fun a => decide (a.p.hi ≤ m')) := by
      have e4 : (due m l).filter (fun a => decide (a.p.hi ≤ m')) = due m l := by
        rw [List.filter_eq_self]
        intro a ha
        have := (List.mem_filter.1 ha).2
        simp at this ⊢
        omega
      unfold due at e4 ⊢
      rw [List.filter_append, e4]
    rwa [e1] at e3
  rw [e2, List.take_left']
  rfl
/-- How many values the row's accumulators have together. -/
def total (l : List Pn) : Int := (l.map (·.acc.n)).sum
theorem total_ins {k : Int} (h : 1 ≤ k ∧ k ≤ 5) (q : Pl) (v : Int) : ∀ (l : List Pn), (∀ a ∈ l, 1 ≤ a.acc.n ∧ a.acc.n ≤ 1000000) → total (ins k ⟨q, Acm.one k v⟩ l) = total l + 1
  | [], _ => by simp [ins, total, Acm.one_n h]
  | a :: l, hn => by
    have ih := total_ins h q v l fun b hb => hn b (by simp [hb])
    have ha := hn a (by simp)
    rw [ins]
    split
    · have e : (Acm.join k a.acc (Acm.one k v)).n = a.acc.n + 1 := by
        rw [Acm.join_b h (by omega) (by rw [Acm.one_n h]; omega)]
        show Acm.wr (a.acc.n + (Acm.one k v).n) = _
        rw [Acm.one_n h, Acm.wr_in (by omega) (by omega)]
      simp only [total, List.map_cons, List.sum_cons, e]
      omega
    · split
      · simp only [total, List.map_cons, List.sum_cons, Acm.one_n h]
        omega
      · simp only [total, List.map_cons, List.sum_cons] at ih ⊢
        omega
theorem mem_adds {k : Int} (h : 1 ≤ k ∧ k ≤ 5) {vs : List (Pl × Int)} {a : Pn} (ha : a ∈ adds k vs) : get (adds k vs) a.p = some a.acc := by
  have : ∀ (l : List Pn), Ord l → a ∈ l → get l a.p = some a.acc := by
    intro l
    induction l with
    | nil => intro _ hm; cases hm
    | cons b l ih =>
      intro ho hm
      obtain ⟨hb, hl⟩ := List.pairwise_cons.1 ho
      rw [get]
      rcases List.mem_cons.1 hm with rfl | hm
      · rw [if_pos rfl]
      · rw [if_neg (ahead_ne (hb a hm)), ih hl hm]
  exact this _ (adds_ord k vs) ha
theorem adds_n {k : Int} (h : 1 ≤ k ∧ k ≤ 5) {vs : List (Pl × Int)} (hl : vs.length ≤ 1000000) : ∀ a ∈ adds k vs, 1 ≤ a.acc.n ∧ a.acc.n ≤ 1000000 := by
  intro a ha
  have e := mem_adds h ha
  rw [get_adds h] at e
  split at e
  · cases e
  · rename_i hne
    have e2 := Option.some.inj e
    have hv := vals_len a.p vs
    have hs := (Acm.shape h _ (vals a.p vs) rfl (by omega)).1
    rw [e2] at hs
    have : (vals a.p vs).length ≠ 0 := fun h0 => hne (List.eq_nil_of_length_eq_zero h0)
    omega
theorem total_adds {k : Int} (h : 1 ≤ k ∧ k ≤ 5) (vs : List (Pl × Int)) : vs.length ≤ 1000000 → total (adds k vs) = vs.length := by
  refine list_snoc (P := fun vs => vs.length ≤ 1000000 → total (adds k vs) = vs.length) (by simp [adds, total]) (fun l v ih => ?_) vs
  intro hl
  simp only [List.length_append, List.length_singleton] at hl ⊢
  rw [adds_push, total_ins h _ _ _ (adds_n h (by omega)), ih (by omega)]
  omega
end Pan
end Go.Proofs.Ytipmphkmeiogoaa
/- A region that draws its order, whose operations but the last ones only read and call quietly: the world under one name. -/
namespace Go.Proofs.Ytipmphkmeiogoaa
open Go.RowKit
theorem still_of {P : Program} {f : FuncId} {args : Array Value} {w : World} {v : Value} (h : Calls P f args w fun e w' => e = .returned v ∧ w = w') : Calls P f args w fun e w'' => e = .returned v ∧ w'' = w :=
  h.mono fun _ _ ⟨h1, h2⟩ => ⟨h1, h2.symm⟩
theorem still_tail {P : Program} {id : Nat} {Q : Exit → Act → World → Prop} {a : Act} {w : World} {l : List Oper} (n : Nat) (hm : P.follows .mixedOrders = true) (hB : Region.lexTailB .any l.toArray n = true)
    (h : ∀ w1, w.drew = w1 → wpStill P l.toArray w1 (fun a' => wpList P l.toArray Q (l.drop n) a' w1) (l.take n) a) : (Code.region id l.toArray true).wp P Q a w :=
  wp_region_still_tail n hm hB (h _ rfl)
theorem Lies.drew {b : Nat} {C : Array Value} {T : TypeId} {w : World} (h : Lies b C T w) : Lies b C T w.drew := h
theorem Lies.below {b : Nat} {C : Array Value} {T : TypeId} {w w' : World} (h : Lies b C T w) (hb : Below w.heap.size w w') : Lies b C T w' := (hb.block b (lt_of_block h)).trans h
theorem Lies.set3 {b : Nat} {T : TypeId} {w : World} {u0 u1 u2 : Value} (h : Lies b #[u0, u1, u2] T w) (v0 v1 v2 : Value) : Lies b #[v0, v1, v2] T (((w.setCell ⟨b, 0, none⟩ v0).setCell ⟨b, 1, none⟩ v1).setCell ⟨b, 2, none⟩ v2) := by
  have h2 := ((h.set 0 v0).set 1 v1).set 2 v2
  simpa using h2
theorem below_set3 {B b : Nat} {u w : World} (h : Below B u w) (hb : B ≤ b) (v0 v1 v2 : Value) : Below B u (((w.setCell ⟨b, 0, none⟩ v0).setCell ⟨b, 1, none⟩ v1).setCell ⟨b, 2, none⟩ v2) :=
  ((h.setCell (p := ⟨b, 0, none⟩) hb v0).setCell (p := ⟨b, 1, none⟩) hb v1).setCell (p := ⟨b, 2, none⟩) hb v2
end Go.Proofs.Ytipmphkmeiogoaa
