/- GroupMath, VlqMath, put together. -/
import Derived.Test.YthfbcfddfbipfaaZ6
import Derived.Test.YthfbcfddfbipfaaRows
/- Values put into panes that are there already: in any order they make the same panes; what is due at two marks. -/
namespace Go.Proofs.Ythfbcfddfbipfaa
set_option linter.unusedVariables false
namespace Pan
/-- What comes of values that are put to panes, or nothing. -/
def allF (k : Int) (l : List Pn) (vs : List (Pl × Int)) : Option (List Pn) := vs.foldl (step k) (some l)
theorem allF_push (k : Int) (l : List Pn) (vs : List (Pl × Int)) (v : Pl × Int) : allF k l (vs ++ [v]) = step k (allF k l vs) v := by simp [allF]
theorem allF_append (k : Int) (l : List Pn) (vs us : List (Pl × Int)) : allF k l (vs ++ us) = (allF k l vs).bind fun y => allF k y us := by
  unfold allF
  rw [List.foldl_append]
  cases vs.foldl (step k) (some l) with
  | none => exact foldl_none k us
  | some y => rfl
theorem allF_nil (k : Int) (vs : List (Pl × Int)) : allF k [] vs = allO k vs := rfl
/-- One more value: what its success tells. -/
theorem step_some {k : Int} {y z : List Pn} {v : Pl × Int} (h : step k (some y) v = some z) :
    right y = true ∧ (1 ≤ k ∧ k ≤ 5) ∧ plOk v.1 = true ∧ hitK k ⟨v.1, Acm.one k v.2⟩ y = false ∧ z = ins k ⟨v.1, Acm.one k v.2⟩ y ∧ z.length ≤ 2000 := by
  unfold step at h
  simp only [Option.bind_some] at h
  split at h
  · rename_i h0
    unfold aOut mOut at h0
    split at h0
    · rename_i hr
      rw [Bool.and_eq_true, Bool.and_eq_true] at hr
      obtain ⟨⟨h1, h2⟩, h3⟩ := hr
      split at h0
      · cases h0
      · rename_i hb
        have hk : 1 ≤ k ∧ k ≤ 5 := of_decide_eq_true h3
        have hb' : bad k y [⟨v.1, Acm.one k v.2⟩] = false ∧ ¬ 2000 < (mrg k y [⟨v.1, Acm.one k v.2⟩]).length := by
          rw [Bool.or_eq_true, not_or, decide_eq_true_eq] at hb
          exact ⟨by simpa using hb.1, hb.2⟩
        have hbad : bad k y [⟨v.1, Acm.one k v.2⟩] = (hitK k ⟨v.1, Acm.one k v.2⟩ y || false) := by simp [bad]
        have hz : z = ins k ⟨v.1, Acm.one k v.2⟩ y := by
          have hzz := Option.some.inj h
          rw [← hzz]
          unfold aOut mOut
          rw [if_pos (by rw [h1, h2, h3]; rfl), if_neg (by rw [hb'.1]; simpa using hb'.2)]
          rfl
        refine ⟨h1, hk, ?_, ?_, hz, ?_⟩
        · rw [right_one] at h2
          exact ((may_ok _).1 h2).1
        · have := hb'.1
          rw [hbad, Bool.or_false] at this
          exact this
        · have h5 := hb'.2
          rw [hz]
          have e : mrg k y [⟨v.1, Acm.one k v.2⟩] = ins k ⟨v.1, Acm.one k v.2⟩ y := rfl
          rw [e] at h5
          omega
    · cases h0
  · cases h
theorem step_not (k : Int) (v : Pl × Int) : step k none v = none := rfl
/-- Values put to what is at a place. -/
def acF (k : Int) (o : Option Acm.Ac) (vs : List Int) : Option Acm.Ac := vs.foldl (fun o v => some (two k o (Acm.one k v))) o
theorem acF_push (k : Int) (o : Option Acm.Ac) (vs : List Int) (v : Int) : acF k o (vs ++ [v]) = some (two k (acF k o vs) (Acm.one k v)) := by simp [acF]
theorem hitK_get {k : Int} {x : Pn} {l : List Pn} {a : Acm.Ac} (h : hitK k x l = false) (hg : get l x.p = some a) : 1 ≤ (Acm.join k a x.acc).n := by
  obtain ⟨b, hb, e1, e2⟩ := get_some hg
  unfold hitK at h
  rw [List.any_eq_false] at h
  have := h b hb
  rw [decide_eq_true e1, Bool.true_and, decide_eq_true_eq] at this
  rw [← e2]
  omega
/-- How many are at a place. -/
def nAt : Option Acm.Ac → Int
  | none => 0
  | some a => a.n
/-- What is looked up behind values that were all put. -/
theorem allF_get {k : Int} {l : List Pn} (hl : Ord l) (hn : ∀ q a, get l q = some a → 1 ≤ a.n ∧ a.n ≤ 9223372036854775807) : ∀ (vs : List (Pl × Int)) (z : List Pn), allF k l vs = some z →
    Ord z ∧ ∀ q, get z q = acF k (get l q) (vals q vs) ∧ nAt (get z q) = nAt (get l q) + (vals q vs).length ∧ nAt (get z q) ≤ 9223372036854775807 := by
  refine list_snoc ?_ ?_
  · intro z h
    cases h
    refine ⟨hl, fun q => ⟨rfl, by simp [vals], ?_⟩⟩
    cases hg : get l q with
    | none => simp [nAt]
    | some a => exact (hn q a hg).2
  · intro vs v ih z h
    rw [allF_push] at h
    cases hy : allF k l vs with
    | none => rw [hy, step_not] at h; cases h
    | some y =>
      rw [hy] at h
      obtain ⟨_, hk, _, hh, rfl, _⟩ := step_some h
      obtain ⟨ho, hg⟩ := ih y hy
      refine ⟨ins_ord ho, fun q => ?_⟩
      rw [get_ins ho, vals_push]
      obtain ⟨g1, g2, g3⟩ := hg q
      by_cases e : v.1 = q
      · subst e
        rw [if_pos rfl, if_pos rfl, acF_push, ← g1, List.length_append, List.length_singleton]
        refine ⟨rfl, ?_⟩
        show (two k (get y v.1) (Acm.one k v.2)).n = _ ∧ (two k (get y v.1) (Acm.one k v.2)).n ≤ _
        cases hgy : get y v.1 with
        | none =>
          rw [hgy] at g2
          have h1 : (two k none (Acm.one k v.2)).n = 1 := Acm.one_n hk v.2
          rw [h1]
          have g2' : (0 : Int) = nAt (get l v.1) + ((vals v.1 vs).length : Nat) := g2
          omega
        | some a =>
          rw [hgy] at g2 g3
          have hj := hitK_get (x := ⟨v.1, Acm.one k v.2⟩) hh hgy
          have h1n := Acm.one_n hk v.2
          have g2' : a.n = nAt (get l v.1) + ((vals v.1 vs).length : Nat) := g2
          have g3' : a.n ≤ 9223372036854775807 := g3
          clear g2 g3
          have ha : 0 ≤ a.n := by
            have : 0 ≤ nAt (get l v.1) := by
              cases hgl : get l v.1 with
              | none => simp [nAt]
              | some b => have := (hn _ b hgl).1; show 0 ≤ b.n; omega
            omega
          show (Acm.join k a (Acm.one k v.2)).n = _ ∧ (Acm.join k a (Acm.one k v.2)).n ≤ _
          have hja : (Acm.join k a (Acm.one k v.2)).n = a.n + 1 := by
            by_cases h0 : a.n = 0
            · rw [Acm.join_l hk h0, h1n, h0]; rfl
            · have hb : (Acm.join k a (Acm.one k v.2)).n = Acm.wr (a.n + 1) := by
                rw [Acm.join_b hk h0 (by rw [h1n]; omega)]
                show Acm.wr (a.n + (Acm.one k v.2).n) = _
                rw [h1n]
              have hj' : 1 ≤ Acm.wr (a.n + 1) := by rw [← hb]; exact hj
              rw [hb]
              by_cases hm : a.n = 9223372036854775807
              · rw [hm] at hj'
                have e5 : Acm.wr (9223372036854775807 + 1) = -9223372036854775808 := by unfold Acm.wr RowKit.wrap64; omega
                rw [e5] at hj'
                omega
              · exact Acm.wr_in (by omega) (by omega)
          have hle : a.n + 1 ≤ 9223372036854775807 := by
            rw [← hja]
            by_cases h0 : a.n = 0
            · rw [hja, h0]; omega
            · rw [Acm.join_b hk h0 (by rw [h1n]; omega)]
              exact Acm.wr_hi _
          rw [hja]
          omega
      · rw [if_neg e, if_neg e]
        exact ⟨g1, g2, g3⟩
/-- Two values in either order. -/
theorem two_turn {k : Int} (hk : 1 ≤ k ∧ k ≤ 5) {a : Acm.Ac} (h0 : 0 ≤ a.n) (h1 : a.n + 2 ≤ 9223372036854775807) (u v : Int) : Acm.join k (Acm.join k a (Acm.one k u)) (Acm.one k v) = Acm.join k (Acm.join k a (Acm.one k v)) (Acm.one k u) := by
  have nu := Acm.one_n hk u
  have nv := Acm.one_n hk v
  by_cases ha : a.n = 0
  · rw [Acm.join_l hk ha, Acm.join_l hk ha]
    rw [Acm.join_b hk (by rw [nu]; omega) (by rw [nv]; omega), Acm.join_b hk (by rw [nv]; omega) (by rw [nu]; omega)]
    unfold Acm.both
    rw [Int.add_comm, Acm.fA_comm, Acm.fB_comm]
  · have e : ∀ w : Int, (Acm.join k a (Acm.one k w)) = Acm.both k a (Acm.one k w) := fun w => Acm.join_b hk ha (by rw [Acm.one_n hk w]; omega)
    have en : ∀ w : Int, (Acm.both k a (Acm.one k w)).n = a.n + 1 := fun w => by
      show Acm.wr (a.n + (Acm.one k w).n) = _
      rw [Acm.one_n hk w]
      exact Acm.wr_in (by omega) (by omega)
    rw [e u, e v, Acm.join_b hk (by rw [en]; omega) (by rw [nv]; omega), Acm.join_b hk (by rw [en]; omega) (by rw [nu]; omega)]
    refine Acm.ext ?_ ?_ ?_
    · show Acm.wr ((Acm.both k a (Acm.one k u)).n + (Acm.one k v).n) = Acm.wr ((Acm.both k a (Acm.one k v)).n + (Acm.one k u).n)
      rw [en, en, nu, nv]
    · show Acm.fA k (Acm.fA k a.a (Acm.one k u).a) (Acm.one k v).a = Acm.fA k (Acm.fA k a.a (Acm.one k v).a) (Acm.one k u).a
      rw [Acm.fA_assoc, Acm.fA_assoc, Acm.fA_comm k (Acm.one k u).a]
    · show Acm.fB k (Acm.fB k a.b (Acm.one k u).b) (Acm.one k v).b = Acm.fB k (Acm.fB k a.b (Acm.one k v).b) (Acm.one k u).b
      rw [Acm.fB_assoc, Acm.fB_assoc, Acm.fB_comm k (Acm.one k u).b]
theorem acF_some (k : Int) (a : Acm.Ac) : ∀ (vs : List Int), acF k (some a) vs = some (vs.foldl (fun x v => Acm.join k x (Acm.one k v)) a) := by
  refine list_snoc rfl fun vs v ih => ?_
  rw [acF_push, ih, List.foldl_append]
  rfl
theorem join_n1 {k : Int} (hk : 1 ≤ k ∧ k ≤ 5) {a : Acm.Ac} (h0 : 0 ≤ a.n) (h1 : a.n + 1 ≤ 9223372036854775807) (v : Int) : (Acm.join k a (Acm.one k v)).n = a.n + 1 := by
  have nv := Acm.one_n hk v
  by_cases ha : a.n = 0
  · rw [Acm.join_l hk ha, nv, ha]; rfl
  · rw [Acm.join_b hk ha (by rw [nv]; omega)]
    show Acm.wr (a.n + (Acm.one k v).n) = _
    rw [nv]
    exact Acm.wr_in (by omega) (by omega)
theorem acc_perm {k : Int} (hk : 1 ≤ k ∧ k ≤ 5) {vs us : List Int} (hp : vs.Perm us) : ∀ (a : Acm.Ac), 0 ≤ a.n → a.n + vs.length ≤ 9223372036854775807 → vs.foldl (fun x v => Acm.join k x (Acm.one k v)) a = us.foldl (fun x v => Acm.join k x (Acm.one k v)) a := by
  induction hp with
  | nil => intro a _ _; rfl
  | cons x hp ih =>
    intro a h0 h1
    rw [List.length_cons] at h1
    have hn := join_n1 hk h0 (by omega) x
    exact ih _ (by rw [hn]; omega) (by rw [hn]; omega)
  | swap x y l =>
    intro a h0 h1
    simp only [List.length_cons] at h1
    rw [List.foldl_cons, List.foldl_cons, List.foldl_cons, List.foldl_cons, two_turn hk h0 (by omega)]
  | trans hp1 hp2 ih1 ih2 =>
    intro a h0 h1
    exact (ih1 a h0 h1).trans (ih2 a h0 (by rw [← hp1.length_eq]; exact h1))
theorem acF_perm {k : Int} (hk : 1 ≤ k ∧ k ≤ 5) {o : Option Acm.Ac} {vs us : List Int} (hp : vs.Perm us) (h0 : 0 ≤ nAt o) (h1 : nAt o + vs.length ≤ 9223372036854775807) : acF k o vs = acF k o us := by
  cases o with
  | some a => rw [acF_some, acF_some, acc_perm hk hp a h0 h1]
  | none =>
    have hz : ∀ ws : List Int, acF k none ws = if ws = [] then none else some (ws.foldl (fun x v => Acm.join k x (Acm.one k v)) Acm.zero) := by
      intro ws
      cases ws with
      | nil => rfl
      | cons w r =>
        rw [if_neg (by simp)]
        show acF k (some (two k none (Acm.one k w))) r = _
        rw [acF_some, List.foldl_cons, Acm.join_l hk rfl]
        rfl
    rw [hz, hz, acc_perm hk hp Acm.zero (Int.le_refl _) (by simpa [nAt] using h1)]
    have : vs = [] ↔ us = [] := by
      constructor
      · intro e; subst e; exact (List.nil_perm.1 hp)
      · intro e; subst e; exact (List.perm_nil.1 hp)
    by_cases e : vs = []
    · rw [if_pos e, if_pos (this.1 e)]
    · rw [if_neg e, if_neg (fun h => e (this.2 h))]
theorem vals_perm {q : Pl} {vs us : List (Pl × Int)} (hp : vs.Perm us) : (vals q vs).Perm (vals q us) := (hp.filter _).map _
/-- Values in any order make the same panes, if they can all be put. -/
theorem allF_perm {k : Int} {l xs ys : List Pn} (hr : right l = true) (hn : ∀ a ∈ l, a.acc.n ≤ 9223372036854775807) {vs us : List (Pl × Int)} (hp : vs.Perm us) (h1 : allF k l vs = some xs) (h2 : allF k l us = some ys) : xs = ys := by
  cases vs with
  | nil =>
    have : us = [] := (List.nil_perm.1 hp)
    subst this
    rw [h1] at h2; cases h2; rfl
  | cons v r =>
    obtain ⟨_, hm, ho⟩ := (right_iff l).1 hr
    have hg : ∀ q a, get l q = some a → 1 ≤ a.n ∧ a.n ≤ 9223372036854775807 := fun q a h => by
      obtain ⟨b, hb, _, e⟩ := get_some h
      rw [← e]
      exact ⟨((may_ok b).1 (hm b hb)).2, hn b hb⟩
    have hk : 1 ≤ k ∧ k ≤ 5 := by
      have h1' := h1
      unfold allF at h1'
      rw [List.foldl_cons] at h1'
      cases hs : step k (some l) v with
      | none => rw [hs, foldl_none] at h1'; cases h1'
      | some z => exact (step_some hs).2.1
    obtain ⟨o1, g1⟩ := allF_get ho hg _ _ h1
    obtain ⟨o2, g2⟩ := allF_get ho hg _ _ h2
    refine same_rows _ _ o1 o2 fun q => ?_
    obtain ⟨a1, a2, a3⟩ := g1 q
    obtain ⟨b1, _, _⟩ := g2 q
    rw [a1, b1]
    refine acF_perm hk (vals_perm hp) ?_ (by rw [← a2]; exact a3)
    cases hgl : get l q with
    | none => exact Int.le_refl _
    | some b => have := (hg q b hgl).1; show 0 ≤ b.n; omega
theorem due_app {m m' : Int} (h : m ≤ m') : ∀ (l : List Pn), Ord l → due m l ++ due m' (rest m l) = due m' l
  | [], _ => rfl
  | x :: r, ho => by
    obtain ⟨h1, h2⟩ := List.pairwise_cons.1 ho
    by_cases hx : x.p.hi ≤ m
    · have e1 : due m (x :: r) = x :: due m r := by simp [due, hx]
      have e2 : rest m (x :: r) = rest m r := by simp [rest, hx]
      have e3 : due m' (x :: r) = x :: due m' r := by simp [due, show x.p.hi ≤ m' by omega]
      rw [e1, e2, e3, List.cons_append, due_app h r h2]
    · have hall : ∀ a ∈ x :: r, ¬ a.p.hi ≤ m := fun a ha => by
        rcases List.mem_cons.1 ha with rfl | ha
        · exact hx
        · have := hi_le (h1 a ha); omega
      have e1 : due m (x :: r) = [] := List.filter_eq_nil_iff.2 fun a ha => by simpa using hall a ha
      have e2 : rest m (x :: r) = x :: r := List.filter_eq_self.2 fun a ha => by simpa using hall a ha
      rw [e1, e2]; rfl
theorem rest_two {m m' : Int} (h : m ≤ m') (l : List Pn) : rest m' (rest m l) = rest m' l := by
  unfold rest
  rw [List.filter_filter]
  congr 1
  funext t
  by_cases h1 : t.p.hi ≤ m'
  · simp [h1]
  · have : ¬ t.p.hi ≤ m := by omega
    simp [h1, this]
theorem rest_ord {m : Int} {l : List Pn} (h : Ord l) : Ord (rest m l) := List.Pairwise.filter _ h
theorem rest_right {m : Int} {l : List Pn} (h : right l = true) : right (rest m l) = true := by
  obtain ⟨h1, h2, h3⟩ := (right_iff l).1 h
  exact (right_iff _).2 ⟨Nat.le_trans (List.length_filter_le _ _) h1, fun a ha => h2 a (List.mem_filter.1 ha).1, rest_ord h3⟩
theorem due_right {m : Int} {l : List Pn} (h : right l = true) : right (due m l) = true := by
  obtain ⟨h1, h2, h3⟩ := (right_iff l).1 h
  exact (right_iff _).2 ⟨Nat.le_trans (List.length_filter_le _ _) h1, fun a ha => h2 a (List.mem_filter.1 ha).1, List.Pairwise.filter _ h3⟩
end Pan
end Go.Proofs.Ythfbcfddfbipfaa
/- The plain mathematics of numbers as bytes, most significant digits first: what is written, what is read. -/
namespace Go.Proofs.Ythfbcfddfbipfaa
namespace Vlq
/-- The digits that are not the last one. -/
def hi (n : Nat) : List UInt8 := if n = 0 then [] else hi (n / 128) ++ [UInt8.ofNat (n % 128 + 128)]
termination_by n
decreasing_by omega
def enc (n : Nat) : List UInt8 := hi (n / 128) ++ [UInt8.ofNat (n % 128)]
theorem hi_zero : hi 0 = [] := by rw [hi]; simp
theorem hi_pos {n : Nat} (h : n ≠ 0) : hi n = hi (n / 128) ++ [UInt8.ofNat (n % 128 + 128)] := by rw [hi]; simp [h]
theorem hi_step {n c : Nat} (h : n ≠ 0 ∨ c ≠ 0) (hc : c < 128) : hi (n * 128 + c) = hi n ++ [UInt8.ofNat (c + 128)] := by
  rw [hi_pos (by omega), show (n * 128 + c) / 128 = n by omega, show (n * 128 + c) % 128 = c by omega]
theorem enc_step {n c : Nat} (hc : c < 128) : enc (n * 128 + c) = hi n ++ [UInt8.ofNat c] := by
  rw [enc, show (n * 128 + c) / 128 = n by omega, show (n * 128 + c) % 128 = c by omega]
theorem hi_len : ∀ (k n : Nat), n < 128 ^ k → (hi n).length ≤ k := by
  intro k
  induction k with
  | zero => intro n h; have : n = 0 := by simpa using h
            subst this; simp [hi_zero]
  | succ k ih =>
    intro n h
    by_cases h0 : n = 0
    · subst h0; simp [hi_zero]
    · rw [hi_pos h0, List.length_append]
      have := ih (n / 128) (by rw [Nat.pow_succ] at h; omega)
      simp; omega
theorem enc_len (n : Nat) (h : n < 18446744073709551616) : (enc n).length ≤ 10 := by
  rw [enc, List.length_append]
  have := hi_len 9 (n / 128) (by have : (128 : Nat) ^ 9 = 9223372036854775808 := by decide
                                 omega)
  simp; omega
theorem enc_pos (n : Nat) : 1 ≤ (enc n).length := by rw [enc, List.length_append]; simp
theorem enc_ne (n : Nat) : enc n ≠ [] := by intro h; have := enc_pos n; rw [h] at this; simp at this

def rdGo (most : Nat) : List UInt8 → Nat → Nat → Nat × Nat × Nat
  | [], _, _ => (0, 0, 20)
  | c :: r, n, i => if most / 128 < n then (0, 0, 21) else if c.toNat < 128 then (n * 128 + c.toNat % 128, i + 1, 0) else rdGo most r (n * 128 + c.toNat % 128) (i + 1)
def rd (most : Nat) (l : List UInt8) (i : Nat) : Nat × Nat × Nat :=
  if (l.drop i).head? = some 128 then (0, 0, 21) else rdGo most (l.drop i) 0 i

theorem rdGo_bad {most : Nat} : ∀ (l : List UInt8) (n i : Nat), (rdGo most l n i).2.2 ≠ 0 → (rdGo most l n i).1 = 0 ∧ (rdGo most l n i).2.1 = 0 := by
  intro l
  induction l with
  | nil => intro n i _; exact ⟨rfl, rfl⟩
  | cons c r ih =>
    intro n i h
    unfold rdGo at h ⊢
    split
    · exact ⟨rfl, rfl⟩
    · split
      · simp_all
      · rw [if_neg (by assumption), if_neg (by assumption)] at h; exact ih _ _ h
theorem rd_bad {most : Nat} {l : List UInt8} {i : Nat} (h : (rd most l i).2.2 ≠ 0) : (rd most l i).1 = 0 ∧ (rd most l i).2.1 = 0 := by
  unfold rd at h ⊢
  split
  · exact ⟨rfl, rfl⟩
  · rw [if_neg (by assumption)] at h; exact rdGo_bad _ _ _ h
theorem rdGo_err {most : Nat} : ∀ (l : List UInt8) (n i : Nat), (rdGo most l n i).2.2 = 0 ∨ (rdGo most l n i).2.2 = 20 ∨ (rdGo most l n i).2.2 = 21 := by
  intro l
  induction l with
  | nil => intro n i; right; left; rfl
  | cons c r ih =>
    intro n i
    unfold rdGo
    split
    · right; right; rfl
    · split
      · left; rfl
      · exact ih _ _
theorem rd_err (most : Nat) (l : List UInt8) (i : Nat) : (rd most l i).2.2 = 0 ∨ (rd most l i).2.2 = 20 ∨ (rd most l i).2.2 = 21 := by
  unfold rd
  split
  · right; right; rfl
  · exact rdGo_err _ _ _
theorem u8_lt (c : UInt8) : c.toNat < 256 := c.toNat_lt
theorem u8_128 {c : UInt8} : c = 128 ↔ c.toNat = 128 := by
  constructor
  · rintro rfl; rfl
  · intro h; exact UInt8.toNat_inj.1 (by simpa using h)
theorem ofNat_hi {c : UInt8} (h : ¬ c.toNat < 128) : UInt8.ofNat (c.toNat % 128 + 128) = c := by
  have := u8_lt c
  rw [show c.toNat % 128 + 128 = c.toNat by omega]
  simp
theorem ofNat_lo {c : UInt8} (h : c.toNat < 128) : UInt8.ofNat (c.toNat % 128) = c := by
  rw [show c.toNat % 128 = c.toNat by omega]
  simp
/-- What is read, written again, is what was read. -/
theorem rdGo_once {most : Nat} (hm : most % 128 = 127) : ∀ (l : List UInt8) (n i m to : Nat), (n ≠ 0 ∨ l.head? ≠ some 128) → rdGo most l n i = (m, to, 0) →
    i < to ∧ to - i ≤ l.length ∧ m ≤ most ∧ hi n ++ l.take (to - i) = enc m := by
  intro l
  induction l with
  | nil => intro n i m to _ h; simp [rdGo] at h
  | cons c r ih =>
    intro n i m to h0 h
    unfold rdGo at h
    split at h
    · simp at h
    · split at h
      · rename_i h1 h2
        simp only [Prod.mk.injEq, and_true] at h
        obtain ⟨rfl, rfl⟩ := h
        refine ⟨by omega, by simp, by omega, ?_⟩
        rw [enc_step (by omega), ofNat_lo h2, show i + 1 - i = 1 by omega]
        simp
      · rename_i h1 h2
        have hz : n ≠ 0 ∨ c.toNat % 128 ≠ 0 := by
          rcases h0 with h0 | h0
          · exact .inl h0
          · right
            intro hc
            apply h0
            have := u8_lt c
            simp only [List.head?_cons, Option.some.injEq]
            exact u8_128.2 (by omega)
        have hn : n * 128 + c.toNat % 128 ≠ 0 := by omega
        obtain ⟨a1, a2, a3, a4⟩ := ih _ _ _ _ (.inl hn) h
        refine ⟨by omega, by simp; omega, a3, ?_⟩
        rw [hi_step hz (by omega), ofNat_hi h2] at a4
        rw [← a4, show to - i = (to - (i + 1)) + 1 by omega, List.take_succ_cons]
        simp
theorem rd_once {most : Nat} (hm : most % 128 = 127) {l : List UInt8} {i m to : Nat} (h : rd most l i = (m, to, 0)) :
    i < to ∧ to ≤ l.length ∧ m ≤ most ∧ (l.drop i).take (to - i) = enc m := by
  unfold rd at h
  split at h
  · simp at h
  · rename_i h0
    obtain ⟨a1, a2, a3, a4⟩ := rdGo_once hm _ _ _ _ _ (.inr h0) h
    rw [hi_zero, List.nil_append] at a4
    rw [List.length_drop] at a2
    exact ⟨a1, by omega, a3, a4⟩
theorem rdGo_hi {most : Nat} : ∀ (m : Nat) (rest : List UInt8) (i : Nat), m ≤ most → m / 128 ≤ most / 128 → rdGo most (hi m ++ rest) 0 i = rdGo most rest m (i + (hi m).length) := by
  intro m
  induction m using Nat.strongRecOn with
  | _ m ih =>
    intro rest i h1 h2
    by_cases h0 : m = 0
    · subst h0; simp [hi_zero]
    · rw [hi_pos h0, List.append_assoc, ih (m / 128) (by omega) _ _ (by omega) (by omega), List.singleton_append, rdGo, if_neg (by omega)]
      have e : (UInt8.ofNat (m % 128 + 128)).toNat = m % 128 + 128 := by
        rw [UInt8.toNat_ofNat']; omega
      rw [e, if_neg (by omega), show m / 128 * 128 + (m % 128 + 128) % 128 = m by omega, List.length_append]
      simp [Nat.add_assoc]
theorem hi_head : ∀ (m : Nat) (rest : List UInt8), m ≠ 0 → (hi m ++ rest).head? ≠ some 128 := by
  intro m
  induction m using Nat.strongRecOn with
  | _ m ih =>
    intro rest h0
    rw [hi_pos h0, List.append_assoc]
    by_cases h1 : m / 128 = 0
    · rw [h1, hi_zero]
      simp only [List.nil_append, List.singleton_append, List.head?_cons, ne_eq, Option.some.injEq]
      rw [u8_128, UInt8.toNat_ofNat']
      omega
    · exact ih (m / 128) (by omega) _ h1
theorem enc_head (n : Nat) (rest : List UInt8) : (enc n ++ rest).head? ≠ some 128 := by
  rw [enc, List.append_assoc]
  by_cases h1 : n / 128 = 0
  · rw [h1, hi_zero]
    simp only [List.nil_append, List.singleton_append, List.head?_cons, ne_eq, Option.some.injEq]
    rw [u8_128, UInt8.toNat_ofNat']
    omega
  · exact hi_head _ _ h1
/-- What is written is read again. -/
theorem rd_enc {most n : Nat} (h : n ≤ most) (a b : List UInt8) : rd most (a ++ (enc n ++ b)) a.length = (n, a.length + (enc n).length, 0) := by
  unfold rd
  rw [List.drop_left, if_neg (enc_head n b), enc, List.append_assoc, rdGo_hi _ _ _ (by omega) (by omega), List.singleton_append, rdGo, if_neg (by omega)]
  have e : (UInt8.ofNat (n % 128)).toNat = n % 128 := by
    rw [UInt8.toNat_ofNat']; omega
  rw [e, if_pos (by omega), List.length_append]
  simp
  omega
/-- What is cut off ends too early. -/
theorem rdGo_cut {most : Nat} : ∀ (m k i : Nat), m ≤ most / 128 → rdGo most ((hi m).take k) 0 i = (0, 0, 20) := by
  intro m
  induction m using Nat.strongRecOn with
  | _ m ih =>
    intro k i h
    by_cases h0 : m = 0
    · subst h0; simp [hi_zero, rdGo]
    · by_cases hk : k ≤ (hi (m / 128)).length
      · rw [hi_pos h0, List.take_append_of_le_length hk]
        exact ih _ (by omega) _ _ (by omega)
      · have hl : (hi m).length ≤ k := by rw [hi_pos h0, List.length_append]; simp; omega
        rw [List.take_of_length_le hl]
        have := rdGo_hi (most := most) m [] i (by omega) (by omega)
        rw [List.append_nil] at this
        rw [this]; rfl
theorem rd_cut {most n k : Nat} (h : n ≤ most) (hk : k < (enc n).length) : rd most ((enc n).take k) 0 = (0, 0, 20) := by
  have hl : (enc n).take k = (hi (n / 128)).take k := by
    rw [enc, List.length_append] at hk
    rw [enc, List.take_append_of_le_length (by simp at hk; omega)]
  unfold rd
  rw [List.drop_zero]
  have hh : ((enc n).take k).head? ≠ some 128 := by
    intro hc
    have := enc_head n []
    rw [List.append_nil] at this
    apply this
    rw [List.head?_take] at hc
    split at hc
    · cases hc
    · exact hc
  rw [if_neg hh, hl]
  exact rdGo_cut _ _ _ (by omega)
/-- In order. -/
theorem hi_mono : ∀ (b a : Nat), a ≤ b → (hi a).length ≤ (hi b).length := by
  intro b
  induction b using Nat.strongRecOn with
  | _ b ih =>
    intro a h
    by_cases h0 : a = 0
    · subst h0; simp [hi_zero]
    · rw [hi_pos h0, hi_pos (by omega : b ≠ 0), List.length_append, List.length_append]
      have := ih (b / 128) (by omega) (a / 128) (by omega)
      simp; omega
theorem lex_app {a b : List UInt8} (h : a < b) (hl : a.length = b.length) (c d : List UInt8) : a ++ c < b ++ d := by
  induction a generalizing b with
  | nil => cases b with
    | nil => exact absurd h (List.lt_irrefl _)
    | cons _ _ => simp at hl
  | cons x a ih =>
    cases b with
    | nil => simp at hl
    | cons y b =>
      rw [List.cons_lt_cons_iff] at h
      rw [List.cons_append, List.cons_append, List.cons_lt_cons_iff]
      rcases h with h | ⟨h1, h2⟩
      · exact .inl h
      · exact .inr ⟨h1, ih h2 (by simpa using hl)⟩
theorem lex_last {a : List UInt8} {c d : UInt8} (h : c < d) : a ++ [c] < a ++ [d] := by
  induction a with
  | nil => simpa [List.cons_lt_cons_iff] using h
  | cons x a ih => rw [List.cons_append, List.cons_append, List.cons_lt_cons_iff]; exact .inr ⟨rfl, ih⟩
theorem ofNat_lt {c d : Nat} (h : c < d) (hd : d < 256) : UInt8.ofNat c < UInt8.ofNat d := by
  rw [UInt8.lt_iff_toNat_lt, UInt8.toNat_ofNat', UInt8.toNat_ofNat']; omega
theorem hi_lex : ∀ (b a : Nat), a < b → (hi a).length < (hi b).length ∨ (hi a).length = (hi b).length ∧ hi a < hi b := by
  intro b
  induction b using Nat.strongRecOn with
  | _ b ih =>
    intro a h
    have hb := hi_pos (by omega : b ≠ 0)
    by_cases h0 : a = 0
    · subst h0; left; rw [hi_zero, hb, List.length_append]; simp
    · rw [hi_pos h0, hb, List.length_append, List.length_append]
      by_cases hq : a / 128 = b / 128
      · right
        refine ⟨by rw [hq]; simp, ?_⟩
        rw [hq]
        exact lex_last (ofNat_lt (by omega) (by omega))
      · rcases ih (b / 128) (by omega) (a / 128) (by omega) with h1 | ⟨h1, h2⟩
        · left; simp; omega
        · right; exact ⟨by simp; omega, lex_app h2 h1 _ _⟩
theorem enc_lex {a b : Nat} (h : a < b) : (enc a).length < (enc b).length ∨ (enc a).length = (enc b).length ∧ enc a < enc b := by
  rw [enc, enc, List.length_append, List.length_append]
  by_cases hq : a / 128 = b / 128
  · right
    refine ⟨by rw [hq]; simp, ?_⟩
    rw [hq]
    exact lex_last (ofNat_lt (by omega) (by omega))
  · rcases hi_lex (b / 128) (a / 128) (by omega) with h1 | ⟨h1, h2⟩
    · left; simp; omega
    · right; exact ⟨by simp; omega, lex_app h2 h1 _ _⟩
/-- A signed number, folded. -/
def zz (n : Int) : Nat := if n < 0 then (-2 * n - 1).toNat else (2 * n).toNat
def un (n : Nat) : Int := if n % 2 = 0 then (n / 2 : Nat) else -((n / 2 : Nat) : Int) - 1
theorem un_zz (n : Int) : un (zz n) = n := by
  unfold un zz
  split <;> split <;> omega
theorem zz_un (n : Nat) : zz (un n) = n := by
  unfold un zz
  split <;> split <;> omega
theorem zz_lt {n : Int} (h1 : -9223372036854775808 ≤ n) (h2 : n ≤ 9223372036854775807) : zz n < 18446744073709551616 := by
  unfold zz
  split <;> omega
end Vlq
end Go.Proofs.Ythfbcfddfbipfaa
