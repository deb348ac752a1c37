/- Timers as plain data: their order, a row in order, a heap in a list, what Less, up, down and Init keep. -/
import Derived.Test.YtklgehfbfokdlaaMem
namespace Go.Proofs.Ytklgehfbfokdlaa
set_option linter.unusedVariables false
namespace Tim
abbrev less (x y : List UInt8) : Bool := Op.bytesLess x y
theorem less_cons (a b : UInt8) (x y : List UInt8) : less (a :: x) (b :: y) = true ↔ a < b ∨ (a = b ∧ less x y = true) := by
  simp [less, Op.bytesLess]
theorem less_irrefl : ∀ (x : List UInt8), less x x = false
  | [] => rfl
  | a :: x => by
    have ih := less_irrefl x
    simp only [less, Op.bytesLess] at ih ⊢
    simp [ih]
theorem less_trans : ∀ (x y z : List UInt8), less x y = true → less y z = true → less x z = true
  | [], [], _, h, _ => by simp [less, Op.bytesLess] at h
  | [], _ :: _, [], _, h => by simp [less, Op.bytesLess] at h
  | [], _ :: _, _ :: _, _, _ => by simp [less, Op.bytesLess]
  | _ :: _, [], _, h, _ => by simp [less, Op.bytesLess] at h
  | _ :: _, _ :: _, [], _, h => by simp [less, Op.bytesLess] at h
  | a :: x, b :: y, c :: z, h1, h2 => by
    have ih := less_trans x y z
    rw [less_cons] at h1 h2 ⊢
    rcases h1 with h1 | ⟨rfl, h1⟩
    · rcases h2 with h2 | ⟨rfl, h2⟩
      · exact .inl (UInt8.lt_trans h1 h2)
      · exact .inl h1
    · rcases h2 with h2 | ⟨rfl, h2⟩
      · exact .inl h2
      · exact .inr ⟨rfl, ih h1 h2⟩
theorem less_total : ∀ (x y : List UInt8), less x y = true ∨ x = y ∨ less y x = true
  | [], [] => by simp
  | [], _ :: _ => by simp [less, Op.bytesLess]
  | _ :: _, [] => by simp [less, Op.bytesLess]
  | a :: x, b :: y => by
    have ih := less_total x y
    rw [less_cons, less_cons]
    by_cases h : a = b
    · subst h
      rcases ih with h | rfl | h
      · exact .inl (.inr ⟨rfl, h⟩)
      · exact .inr (.inl rfl)
      · exact .inr (.inr (.inr ⟨rfl, h⟩))
    · by_cases h2 : a < b
      · exact .inl (.inl h2)
      · refine .inr (.inr (.inl ?_))
        rw [UInt8.lt_iff_toNat_lt] at h2 ⊢
        have h3 : a.toNat ≠ b.toNat := fun e => h (UInt8.toNat_inj.1 e)
        omega
/-- A timer. -/
structure Tm where
  at_ : Int
  name : List UInt8
deriving DecidableEq
instance : Inhabited Tm := ⟨⟨0, []⟩⟩
/-- a stands ahead of b. -/
def ahead (a b : Tm) : Bool := decide (a.at_ < b.at_) || (decide (a.at_ = b.at_) && less a.name b.name)
theorem ahead_iff (a b : Tm) : ahead a b = true ↔ a.at_ < b.at_ ∨ (a.at_ = b.at_ ∧ less a.name b.name = true) := by simp [ahead]
theorem ahead_irrefl (a : Tm) : ahead a a = false := by
  have := less_irrefl a.name
  simp [ahead, this]
theorem ahead_trans {a b c : Tm} (h1 : ahead a b = true) (h2 : ahead b c = true) : ahead a c = true := by
  rw [ahead_iff] at h1 h2 ⊢
  rcases h1 with h1 | ⟨e1, h1⟩
  · rcases h2 with h2 | ⟨e2, h2⟩
    · exact .inl (by omega)
    · exact .inl (by omega)
  · rcases h2 with h2 | ⟨e2, h2⟩
    · exact .inl (by omega)
    · exact .inr ⟨by omega, less_trans _ _ _ h1 h2⟩
theorem ahead_total (a b : Tm) : ahead a b = true ∨ a = b ∨ ahead b a = true := by
  rw [ahead_iff, ahead_iff]
  by_cases h1 : a.at_ < b.at_
  · exact .inl (.inl h1)
  · by_cases h2 : b.at_ < a.at_
    · exact .inr (.inr (.inl h2))
    · have e : a.at_ = b.at_ := by omega
      rcases less_total a.name b.name with h | h | h
      · exact .inl (.inr ⟨e, h⟩)
      · refine .inr (.inl ?_)
        cases a; cases b; simp_all
      · exact .inr (.inr (.inr ⟨e.symm, h⟩))
theorem ahead_asymm {a b : Tm} (h : ahead a b = true) : ahead b a = false := by
  cases h2 : ahead b a with
  | false => rfl
  | true => exact absurd (ahead_trans h h2) (by simp [ahead_irrefl])
/-- b does not stand ahead of a. -/
def le (a b : Tm) : Prop := ahead b a = false
theorem le_refl (a : Tm) : le a a := ahead_irrefl a
theorem le_of_ahead {a b : Tm} (h : ahead a b = true) : le a b := ahead_asymm h
theorem le_antisymm {a b : Tm} (h1 : le a b) (h2 : le b a) : a = b := by
  unfold le at h1 h2
  rcases ahead_total a b with h | h | h
  · rw [h] at h2; cases h2
  · exact h
  · rw [h] at h1; cases h1
theorem le_trans {a b c : Tm} (h1 : le a b) (h2 : le b c) : le a c := by
  unfold le at *
  rcases ahead_total a b with h | h | h
  · cases h3 : ahead c a with
    | false => rfl
    | true => rw [ahead_trans h3 h] at h2; cases h2
  · subst h; exact h2
  · rw [h] at h1; cases h1
theorem le_or (a b : Tm) : le a b ∨ le b a := by
  unfold le
  cases h : ahead b a with
  | false => exact .inl rfl
  | true => exact .inr (ahead_asymm h)
/-- A row in order. -/
def Srt (l : List Tm) : Prop := l.Pairwise le
/-- A row in order, with one more. -/
def ins (x : Tm) : List Tm → List Tm
  | [] => [x]
  | t :: r => if ahead x t then x :: t :: r else t :: ins x r
theorem ins_perm (x : Tm) : ∀ l, (ins x l).Perm (x :: l)
  | [] => .refl _
  | t :: r => by
    unfold ins
    split
    · exact .refl _
    · exact ((ins_perm x r).cons t).trans (.swap _ _ _)
theorem ins_len (x : Tm) (l : List Tm) : (ins x l).length = l.length + 1 := by simpa using (ins_perm x l).length_eq
theorem ins_srt (x : Tm) : ∀ l, Srt l → Srt (ins x l)
  | [], _ => by simp [ins, Srt]
  | t :: r, h => by
    unfold Srt at h
    rw [List.pairwise_cons] at h
    unfold ins
    split
    · rename_i hx
      refine List.pairwise_cons.2 ⟨fun y hy => ?_, List.pairwise_cons.2 h⟩
      rcases List.mem_cons.1 hy with rfl | hy
      · exact le_of_ahead hx
      · exact le_trans (le_of_ahead hx) (h.1 y hy)
    · rename_i hx
      refine List.pairwise_cons.2 ⟨fun y hy => ?_, ins_srt x r h.2⟩
      rcases List.mem_cons.1 ((ins_perm x r).mem_iff.1 hy) with rfl | hy
      · simpa [le] using hx
      · exact h.1 y hy
theorem srt_nil : Srt [] := List.Pairwise.nil
theorem srt_uniq : ∀ {l m : List Tm}, Srt l → Srt m → l.Perm m → l = m
  | [], m, _, _, h => (List.nil_perm.1 h).symm ▸ rfl
  | x :: r, m, hl, hm, h => by
    match m, hm, h with
    | [], _, h => exact absurd h.length_eq (by simp)
    | y :: s, hm, h =>
      have hl' := List.pairwise_cons.1 hl
      have hm' := List.pairwise_cons.1 hm
      have e : x = y := by
        have h1 : x ∈ y :: s := h.mem_iff.1 (by simp)
        have h2 : y ∈ x :: r := h.mem_iff.2 (by simp)
        rcases List.mem_cons.1 h1 with h1 | h1
        · exact h1
        · rcases List.mem_cons.1 h2 with h2 | h2
          · exact h2.symm
          · exact le_antisymm (hl'.1 y h2) (hm'.1 x h1)
      subst e
      rw [srt_uniq hl'.2 hm'.2 (List.Perm.cons_inv h)]
theorem ins_filter (p : Tm → Bool) (x : Tm) (l : List Tm) (h : Srt l) : (ins x l).filter p = if p x then ins x (l.filter p) else l.filter p := by
  have h1 : Srt ((ins x l).filter p) := List.Pairwise.filter p (ins_srt x l h)
  have h2 : ((ins x l).filter p).Perm ((x :: l).filter p) := (ins_perm x l).filter p
  have h3 : Srt (l.filter p) := List.Pairwise.filter p h
  cases hp : p x with
  | true =>
    rw [if_pos rfl]
    refine srt_uniq h1 (ins_srt x _ h3) (h2.trans ?_)
    rw [List.filter_cons, if_pos hp]
    exact (ins_perm x _).symm
  | false =>
    rw [if_neg (by simp)]
    refine srt_uniq h1 h3 (h2.trans ?_)
    rw [List.filter_cons, if_neg (by simp [hp])]
/-- All of a list put in. -/
def insAll (l : List Tm) : List Tm := l.foldl (fun s x => ins x s) []
theorem insAll_srt (l : List Tm) : Srt (insAll l) := by
  unfold insAll
  have g : ∀ (l s : List Tm), Srt s → Srt (l.foldl (fun s x => ins x s) s) := by
    intro l
    induction l with
    | nil => intro s h; exact h
    | cons x r ih => intro s h; exact ih _ (ins_srt x s h)
  exact g l [] srt_nil
theorem insAll_perm (l : List Tm) : (insAll l).Perm l := by
  unfold insAll
  have g : ∀ (l s : List Tm), (l.foldl (fun s x => ins x s) s).Perm (l ++ s) := by
    intro l
    induction l with
    | nil => intro s; exact .refl _
    | cons x r ih =>
      intro s
      refine (ih _).trans ?_
      exact ((ins_perm x s).append_left r).trans List.perm_middle
  simpa using g l []
theorem insAll_push (l : List Tm) (x : Tm) : insAll (l ++ [x]) = ins x (insAll l) := by simp [insAll]
/-- Those that are due at a mark, and the others: in a row in order. -/
def due (m : Int) (l : List Tm) : List Tm := l.filter fun t => decide (t.at_ ≤ m)
def rest (m : Int) (l : List Tm) : List Tm := l.filter fun t => !decide (t.at_ ≤ m)
theorem at_le {a b : Tm} (h : le a b) : a.at_ ≤ b.at_ := by
  unfold le at h
  rcases Int.lt_or_le b.at_ a.at_ with h1 | h1
  · rw [(ahead_iff b a).2 (.inl h1)] at h; cases h
  · exact h1
theorem due_stop {m : Int} {x : Tm} {l : List Tm} (h : Srt (x :: l)) (hx : ¬ x.at_ ≤ m) : due m (x :: l) = [] ∧ rest m (x :: l) = x :: l := by
  have h' := List.pairwise_cons.1 h
  have g : ∀ y ∈ x :: l, ¬ y.at_ ≤ m := by
    intro y hy
    rcases List.mem_cons.1 hy with rfl | hy
    · exact hx
    · have := at_le (h'.1 y hy); omega
  refine ⟨List.filter_eq_nil_iff.2 fun y hy => by simpa using g y hy, List.filter_eq_self.2 fun y hy => by simpa using g y hy⟩
theorem due_go {m : Int} {x : Tm} {l : List Tm} (hx : x.at_ ≤ m) : due m (x :: l) = x :: due m l ∧ rest m (x :: l) = rest m l := by
  constructor
  · simp [due, hx]
  · simp [rest, hx]
/-- Two places exchanged: x stands at i, y at j. -/
def swp (d : List Tm) (i j : Nat) (x y : Tm) : List Tm := (d.set i y).set j x
theorem swp_len (d : List Tm) (i j : Nat) (x y : Tm) : (swp d i j x y).length = d.length := by simp [swp]
theorem swp_get {d : List Tm} {i j : Nat} {x y : Tm} (hi : d[i]? = some x) (hj : d[j]? = some y) (k : Nat) : (swp d i j x y)[k]? = if k = j then some x else if k = i then some y else d[k]? := by
  have h1 := (List.getElem?_eq_some_iff.1 hi).1
  have h2 := (List.getElem?_eq_some_iff.1 hj).1
  unfold swp
  rw [List.getElem?_set, List.getElem?_set]
  by_cases e : j = k
  · rw [if_pos e, if_pos (by simpa using h2), if_pos e.symm]
  · rw [if_neg e, if_neg (Ne.symm e)]
    by_cases e2 : i = k
    · rw [if_pos e2, if_pos h1, if_pos e2.symm]
    · rw [if_neg e2, if_neg (Ne.symm e2)]
theorem swp_perm {d : List Tm} {i j : Nat} {x y : Tm} (hi : d[i]? = some x) (hj : d[j]? = some y) : (swp d i j x y).Perm d := by
  have h1 := (List.getElem?_eq_some_iff.1 hi)
  have h2 := (List.getElem?_eq_some_iff.1 hj)
  obtain ⟨l1, e1⟩ := h1
  obtain ⟨l2, e2⟩ := h2
  by_cases hij : i = j
  · subst hij
    rw [e1] at e2
    subst e2
    unfold swp
    rw [List.set_set, ← e1, List.set_getElem_self]
  · rw [List.perm_iff_count]
    intro a
    unfold swp
    rw [List.count_set (by simpa using l2), List.count_set l1]
    have e3 : (d.set i y)[j]'(by simpa using l2) = y := by rw [List.getElem_set_ne hij]; exact e2
    rw [e3, e1]
    have c1 : (if x == a then 1 else 0) ≤ d.count a := by
      split
      · rename_i h
        have hx : x ∈ d := List.mem_of_getElem? hi
        rw [← eq_of_beq h]
        exact List.count_pos_iff.2 hx
      · omega
    by_cases ex : (x == a) = true <;> by_cases ey : (y == a) = true <;> simp only [ex, ey] at c1 ⊢ <;> simp_all <;> omega
/-- Among the first n: nothing from lo on stands ahead of its parent. -/
def HpN (d : List Tm) (n lo : Nat) : Prop := ∀ k x y, 0 < k → k < n → lo ≤ (k - 1) / 2 → d[k]? = some x → d[(k - 1) / 2]? = some y → ahead x y = false
/-- A heap. -/
def Hp (d : List Tm) : Prop := HpN d d.length 0
/-- A heap but for what stands at j, which may have to go up. -/
def UpAt (d : List Tm) (j : Nat) : Prop :=
  (∀ k x y, 0 < k → k ≠ j → d[k]? = some x → d[(k - 1) / 2]? = some y → ahead x y = false) ∧
  (∀ k x y, 0 < k → 0 < j → (k - 1) / 2 = j → d[k]? = some x → d[(j - 1) / 2]? = some y → ahead x y = false)
theorem up_start {c : List Tm} {x : Tm} (h : Hp c) : UpAt (c ++ [x]) c.length := by
  refine ⟨fun k u v hk hne h1 h2 => ?_, fun k u v hk hj e h1 h2 => ?_⟩
  · have hl : k < c.length := by
      have := (List.getElem?_eq_some_iff.1 h1).1
      simp only [List.length_append, List.length_singleton] at this
      omega
    rw [List.getElem?_append_left hl] at h1
    rw [List.getElem?_append_left (by omega)] at h2
    exact h k u v hk hl (Nat.zero_le _) h1 h2
  · have := (List.getElem?_eq_some_iff.1 h1).1
    simp only [List.length_append, List.length_singleton] at this
    omega
theorem up_zero {d : List Tm} (h : UpAt d 0) : Hp d := fun k x y hk _ _ h1 h2 => h.1 k x y hk (by omega) h1 h2
theorem up_stop {d : List Tm} {j : Nat} {x y : Tm} (h : UpAt d j) (hj : d[j]? = some x) (hi : d[(j - 1) / 2]? = some y) (hn : ahead x y = false) : Hp d := by
  intro k u v hk _ _ h1 h2
  by_cases e : k = j
  · subst e
    rw [hj] at h1; rw [hi] at h2; cases h1; cases h2
    exact hn
  · exact h.1 k u v hk e h1 h2
theorem up_step {d : List Tm} {j : Nat} {x y : Tm} (h : UpAt d j) (h0 : 0 < j) (hi : d[(j - 1) / 2]? = some x) (hj : d[j]? = some y) (ha : ahead y x = true) : UpAt (swp d ((j - 1) / 2) j x y) ((j - 1) / 2) := by
  refine ⟨fun k u v hk hne h1 h2 => ?_, fun k u v hk hp e h1 h2 => ?_⟩
  · rw [swp_get hi hj] at h1 h2
    by_cases e : k = j
    · subst e
      rw [if_pos rfl] at h1
      rw [if_neg (by omega), if_pos rfl] at h2
      cases h1; cases h2
      exact ahead_asymm ha
    · rw [if_neg e, if_neg hne] at h1
      by_cases e2 : (k - 1) / 2 = j
      · rw [if_pos e2] at h2
        cases h2
        exact h.2 k u x hk h0 e2 h1 hi
      · rw [if_neg e2] at h2
        by_cases e3 : (k - 1) / 2 = (j - 1) / 2
        · rw [if_pos e3] at h2
          cases h2
          have g := h.1 k u x hk e h1 (by rw [e3]; exact hi)
          exact le_trans (le_of_ahead ha) g
        · rw [if_neg e3] at h2
          exact h.1 k u v hk e h1 h2
  · rw [swp_get hi hj] at h1 h2
    rw [if_neg (by omega), if_neg (by omega)] at h2
    have g0 := h.1 ((j - 1) / 2) x v hp (by omega) hi h2
    by_cases e1 : k = j
    · rw [if_pos e1] at h1
      cases h1
      exact g0
    · rw [if_neg e1, if_neg (by omega)] at h1
      have g := h.1 k u x hk e1 h1 (by rw [e]; exact hi)
      exact le_trans g0 g
/-- The same for what stands at i and may have to go down, among the first n, from lo on. -/
structure DownAt (d : List Tm) (n lo i : Nat) : Prop where
  from_ : lo ≤ i
  rest : ∀ k x y, 0 < k → k < n → lo ≤ (k - 1) / 2 → (k - 1) / 2 ≠ i → d[k]? = some x → d[(k - 1) / 2]? = some y → ahead x y = false
  far : ∀ k x y, 0 < k → k < n → lo < i → lo ≤ (i - 1) / 2 → (k - 1) / 2 = i → d[k]? = some x → d[(i - 1) / 2]? = some y → ahead x y = false
theorem down_start {d : List Tm} {n lo : Nat} (h : HpN d n (lo + 1)) : DownAt d n lo lo :=
  ⟨Nat.le_refl _, fun k x y hk hn hlo hne h1 h2 => h k x y hk hn (by omega) h1 h2, fun k x y _ _ h _ _ _ _ => absurd h (Nat.lt_irrefl _)⟩
theorem down_none {d : List Tm} {n lo i : Nat} (h : DownAt d n lo i) (hi : n ≤ 2 * i + 1) : HpN d n lo :=
  fun k x y hk hn hlo h1 h2 => h.rest k x y hk hn hlo (by omega) h1 h2
/-- y is the least of i's children. -/
def Least (d : List Tm) (n i : Nat) (y : Tm) : Prop := ∀ k z, 0 < k → k < n → (k - 1) / 2 = i → d[k]? = some z → ahead z y = false
theorem least_one {d : List Tm} {n i : Nat} {y : Tm} (hn : n ≤ 2 * i + 2) (hy : d[2 * i + 1]? = some y) : Least d n i y := by
  intro k z hk hkn e hz
  have : k = 2 * i + 1 := by omega
  subst this
  rw [hy] at hz; cases hz
  exact ahead_irrefl _
theorem least_left {d : List Tm} {n i : Nat} {y z : Tm} (hy : d[2 * i + 1]? = some y) (hz : d[2 * i + 2]? = some z) (h : ahead z y = false) : Least d n i y := by
  intro k u hk hkn e hu
  have : k = 2 * i + 1 ∨ k = 2 * i + 2 := by omega
  rcases this with rfl | rfl
  · rw [hy] at hu; cases hu; exact ahead_irrefl _
  · rw [hz] at hu; cases hu; exact h
theorem least_right {d : List Tm} {n i : Nat} {y z : Tm} (hy : d[2 * i + 1]? = some y) (hz : d[2 * i + 2]? = some z) (h : ahead z y = true) : Least d n i z := by
  intro k u hk hkn e hu
  have : k = 2 * i + 1 ∨ k = 2 * i + 2 := by omega
  rcases this with rfl | rfl
  · rw [hy] at hu; cases hu; exact ahead_asymm h
  · rw [hz] at hu; cases hu; exact ahead_irrefl _
theorem down_stop {d : List Tm} {n lo i : Nat} {x y : Tm} (h : DownAt d n lo i) (hx : d[i]? = some x) (hl : Least d n i y) (hn : ahead y x = false) : HpN d n lo := by
  intro k u v hk hkn hlo h1 h2
  by_cases e : (k - 1) / 2 = i
  · rw [e, hx] at h2
    cases h2
    exact le_trans (a := x) (b := y) (c := u) hn (hl k u hk hkn e h1)
  · exact h.rest k u v hk hkn hlo e h1 h2
theorem down_step {d : List Tm} {n lo i j : Nat} {x y : Tm} (h : DownAt d n lo i) (hx : d[i]? = some x) (hy : d[j]? = some y) (h0 : 0 < j) (hj : (j - 1) / 2 = i) (hjn : j < n) (hl : Least d n i y) (ha : ahead y x = true) : DownAt (swp d i j x y) n lo j := by
  have hlo := h.from_
  refine ⟨by omega, fun k u v hk hkn hp hne h1 h2 => ?_, fun k u v hk hkn hlt hp e h1 h2 => ?_⟩
  · rw [swp_get hx hy] at h1 h2
    rw [if_neg hne] at h2
    by_cases e : (k - 1) / 2 = i
    · rw [if_pos e] at h2
      cases h2
      by_cases e1 : k = j
      · rw [if_pos e1] at h1; cases h1
        exact ahead_asymm ha
      · rw [if_neg e1, if_neg (by omega)] at h1
        exact hl k u hk hkn e h1
    · rw [if_neg e] at h2
      have e1 : k ≠ j := fun e1 => e (e1 ▸ hj)
      rw [if_neg e1] at h1
      by_cases e2 : k = i
      · rw [if_pos e2] at h1
        cases h1
        subst e2
        exact h.far j y v h0 hjn (by omega) hp hj hy h2
      · rw [if_neg e2] at h1
        exact h.rest k u v hk hkn hp e h1 h2
  · rw [swp_get hx hy] at h1 h2
    rw [if_neg (by omega), if_pos hj] at h2
    rw [if_neg (by omega), if_neg (by omega)] at h1
    cases h2
    exact h.rest k u y hk hkn (by omega) (by omega) h1 (by rw [e]; exact hy)
theorem init_start (d : List Tm) : HpN d d.length (d.length / 2) := fun k x y hk hkn hlo _ _ => by omega
/-- The first of a heap stands behind none. -/
theorem hp_first {d : List Tm} {y : Tm} (h : Hp d) (h0 : d[0]? = some y) : ∀ (k : Nat) (x : Tm), d[k]? = some x → le y x := by
  intro k
  induction k using Nat.strongRecOn with
  | ind k ih =>
    intro x hx
    rcases Nat.eq_zero_or_pos k with e | e
    · subst e
      rw [h0] at hx; cases hx
      exact le_refl _
    · have hl := (List.getElem?_eq_some_iff.1 hx).1
      obtain ⟨z, hz⟩ : ∃ z, d[(k - 1) / 2]? = some z := ⟨_, List.getElem?_eq_getElem (by omega)⟩
      exact le_trans (ih _ (by omega) z hz) (h k x z e hl (Nat.zero_le _) hx hz)
/-- d is a heap that holds what the row in order holds. -/
structure Rep (d l : List Tm) : Prop where
  hp : Hp d
  perm : d.Perm l
  srt : Srt l
theorem Rep.len {d l : List Tm} (h : Rep d l) : d.length = l.length := h.perm.length_eq
theorem Rep.nil : Rep [] [] := ⟨fun k x y _ hk => by simp at hk, .refl _, srt_nil⟩
theorem Rep.head {d : List Tm} {x y : Tm} {r : List Tm} (h : Rep d (x :: r)) (hy : d[0]? = some y) : y = x := by
  have h1 := hp_first h.hp hy
  have hx : x ∈ d := h.perm.mem_iff.2 (by simp)
  have hym : y ∈ x :: r := h.perm.mem_iff.1 (List.mem_of_getElem? hy)
  obtain ⟨k, hk⟩ := List.getElem?_of_mem hx
  rcases List.mem_cons.1 hym with e | e
  · exact e
  · exact le_antisymm (h1 k x hk) ((List.pairwise_cons.1 h.srt).1 y e)
theorem Rep.pushed {d d' l : List Tm} {x : Tm} (h : Rep d l) (hh : Hp d') (hp : d'.Perm (d ++ [x])) : Rep d' (ins x l) :=
  ⟨hh, hp.trans ((List.perm_append_singleton x d).trans ((h.perm.cons x).trans (ins_perm x l).symm)), ins_srt x l h.srt⟩
/-- Ahead of down in Pop: the first one and the last one are exchanged. -/
theorem pop_start {d : List Tm} {n : Nat} {x y : Tm} (h : Hp d) (hn : d.length = n + 1) (hx : d[0]? = some x) (hy : d[n]? = some y) : DownAt (swp d 0 n x y) n 0 0 := by
  refine down_start fun k u v hk hkn hp h1 h2 => ?_
  rw [swp_get hx hy, if_neg (by omega), if_neg (by omega)] at h1 h2
  exact h k u v hk (by omega) (Nat.zero_le _) h1 h2
theorem Rep.popped {d d1 d2 r : List Tm} {n : Nat} {x y z : Tm} (h : Rep d (x :: r)) (hn : d.length = n + 1) (hx : d[0]? = some y) (hy : d[n]? = some z) (h2 : HpN d2 n 0) (hp : d2.Perm (swp d 0 n y z)) (hk : ∀ k, n ≤ k → d2[k]? = (swp d 0 n y z)[k]?) :
    d2[n]? = some x ∧ Rep (d2.take n) r ∧ (d2.take n).length = n := by
  have e : y = x := h.head hx
  subst e
  have hl : d2.length = n + 1 := by rw [hp.length_eq, swp_len, hn]
  have hlast : d2[n]? = some y := by rw [hk n (Nat.le_refl _), swp_get hx hy, if_pos rfl]
  have hsplit : d2 = d2.take n ++ [y] := by
    have e1 := (List.getElem?_eq_some_iff.1 hlast)
    obtain ⟨l1, e1⟩ := e1
    have : d2.take (n + 1) = d2.take n ++ [d2[n]] := by rw [List.take_succ_eq_append_getElem l1]
    rw [List.take_of_length_le (by omega), e1] at this
    exact this
  have hlt : (d2.take n).length = n := by rw [List.length_take]; omega
  refine ⟨hlast, ⟨?_, ?_, (List.pairwise_cons.1 h.srt).2⟩, hlt⟩
  · intro k u v hk0 hkn hp0 h1 h3
    rw [hlt] at hkn
    rw [List.getElem?_take, if_pos hkn] at h1
    rw [List.getElem?_take, if_pos (by omega)] at h3
    exact h2 k u v hk0 hkn (Nat.zero_le _) h1 h3
  · have g1 : d2.Perm (y :: r) := hp.trans ((swp_perm hx hy).trans h.perm)
    rw [hsplit] at g1
    exact List.Perm.cons_inv ((List.perm_append_singleton y _).symm.trans g1)
end Tim
end Go.Proofs.Ytklgehfbfokdlaa
