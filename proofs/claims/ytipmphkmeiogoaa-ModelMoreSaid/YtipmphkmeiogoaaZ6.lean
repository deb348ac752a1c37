/- FoldMath, FoldFacts, put together. -/
import Derived.WalkKit
import Derived.RowKit
/- Accumulators as plain data. -/
namespace Go.Proofs.Ytipmphkmeiogoaa
set_option linter.unusedVariables false
set_option maxRecDepth 8000
namespace Acm
structure Ac where
  n : Int
  a : Int
  b : Int
abbrev zero : Ac := ⟨0, 0, 0⟩
abbrev acC (x : Ac) : Array Value := #[.int .i64 x.n, .int .i64 x.a, .int .i64 x.b]
abbrev acV (x : Ac) : Value := .agg (acC x)
def wr (n : Int) : Int := RowKit.wrap64 n
def lo (a b : Int) : Int := if b < a then b else a
def hi (a b : Int) : Int := if a < b then b else a
def fA (k a b : Int) : Int := if k = 2 then wr (a + b) else if k = 3 then lo a b else if k = 4 then hi a b else if k = 5 then lo a b else 0
def fB (k a b : Int) : Int := if k = 5 then hi a b else 0
def both (k : Int) (x y : Ac) : Ac := ⟨wr (x.n + y.n), fA k x.a y.a, fB k x.b y.b⟩
def join (k : Int) (x y : Ac) : Ac := if 1 ≤ k ∧ k ≤ 5 then (if x.n = 0 then y else if y.n = 0 then x else both k x y) else zero
def one (k v : Int) : Ac := if k = 1 then ⟨1, 0, 0⟩ else if k = 2 ∨ k = 3 ∨ k = 4 then ⟨1, v, 0⟩ else if k = 5 then ⟨1, v, v⟩ else zero
def all (k : Int) (l : List Int) : Ac := l.foldl (fun x v => join k x (one k v)) zero
def val (k : Int) (x : Ac) : Int := if x.n = 0 then 0 else if k = 1 then x.n else if k = 2 ∨ k = 3 ∨ k = 4 then x.a else if k = 5 then wr (x.b - x.a) else 0
def isK (k : Int) : Bool := decide (1 ≤ k ∧ k ≤ 5)
theorem join_bad {k : Int} (h : ¬ (1 ≤ k ∧ k ≤ 5)) (x y : Ac) : join k x y = zero := if_neg h
theorem join_l {k : Int} (h : 1 ≤ k ∧ k ≤ 5) {x : Ac} (hx : x.n = 0) (y : Ac) : join k x y = y := by unfold join; rw [if_pos h, if_pos hx]
theorem join_r {k : Int} (h : 1 ≤ k ∧ k ≤ 5) {x : Ac} (hx : x.n ≠ 0) {y : Ac} (hy : y.n = 0) : join k x y = x := by unfold join; rw [if_pos h, if_neg hx, if_pos hy]
theorem join_b {k : Int} (h : 1 ≤ k ∧ k ≤ 5) {x : Ac} (hx : x.n ≠ 0) {y : Ac} (hy : y.n ≠ 0) : join k x y = both k x y := by unfold join; rw [if_pos h, if_neg hx, if_neg hy]
theorem kinds {k : Int} (h : 1 ≤ k ∧ k ≤ 5) : k = 1 ∨ k = 2 ∨ k = 3 ∨ k = 4 ∨ k = 5 := by omega
theorem all_snoc {k : Int} {zs : List Int} {j : Nat} {x : Int} (h : zs[j]? = some x) : all k (zs.take (j + 1)) = join k (all k (zs.take j)) (one k x) := by
  unfold all
  rw [List.take_add_one, h]
  simp [List.foldl_append]
theorem all_bad {k : Int} (h : ¬ (1 ≤ k ∧ k ≤ 5)) (zs : List Int) : all k zs = zero := by
  unfold all
  suffices h2 : ∀ x, zs.foldl (fun x v => join k x (one k v)) x = if zs = [] then x else zero by
    rw [h2]; split <;> rfl
  induction zs with
  | nil => intro x; rfl
  | cons z zs ih => intro x; rw [List.foldl_cons, ih, join_bad h]; simp
theorem all_push (k : Int) (l : List Int) (v : Int) : all k (l ++ [v]) = join k (all k l) (one k v) := by
  unfold all
  simp [List.foldl_append]
theorem wr_in {n : Int} (h1 : -9223372036854775808 ≤ n) (h2 : n ≤ 9223372036854775807) : wr n = n := by unfold wr RowKit.wrap64; omega
theorem wr_lo (n : Int) : -9223372036854775808 ≤ wr n := by unfold wr RowKit.wrap64; omega
theorem wr_hi (n : Int) : wr n ≤ 9223372036854775807 := by unfold wr RowKit.wrap64; omega
theorem one_n {k : Int} (h : 1 ≤ k ∧ k ≤ 5) (v : Int) : (one k v).n = 1 := by
  rcases kinds h with rfl | rfl | rfl | rfl | rfl <;> rfl
/-- The values behind: a, b that a fold does not have are 0; as many as there are. -/
theorem shape {k : Int} (h : 1 ≤ k ∧ k ≤ 5) : ∀ (m : Nat) (l : List Int), l.length = m → m ≤ 9223372036854775807 → (all k l).n = m ∧ (k ≠ 5 → (all k l).b = 0) ∧ (k = 1 → (all k l).a = 0) := by
  intro m
  induction m with
  | zero => intro l hl _; obtain rfl := List.eq_nil_of_length_eq_zero hl; exact ⟨rfl, fun _ => rfl, fun _ => rfl⟩
  | succ m ih =>
    intro l hl hm
    rcases List.eq_nil_or_concat l with rfl | ⟨r, v, rfl⟩
    · simp at hl
    · have hr : r.length = m := by simpa using hl
      obtain ⟨h1, h2, h3⟩ := ih r hr (by omega)
      rw [List.concat_eq_append, all_push]
      by_cases h0 : m = 0
      · subst h0
        rw [join_l h (by omega)]
        refine ⟨by rw [one_n h]; rfl, fun hk => ?_, fun hk => by subst hk; rfl⟩
        rcases kinds h with rfl | rfl | rfl | rfl | rfl <;> first | rfl | exact absurd rfl hk
      · rw [join_b h (by omega) (by rw [one_n h]; omega)]
        refine ⟨?_, fun hk => ?_, fun hk => ?_⟩
        · show wr ((all k r).n + (one k v).n) = _
          rw [one_n h, h1, wr_in (by omega) (by omega)]; omega
        · show fB k _ _ = 0
          exact if_neg hk
        · subst hk; rfl
theorem wr1 : wr (zero.n + 1) = 1 := by
  show wr (0 + 1) = 1
  unfold wr RowKit.wrap64; omega
theorem ext {x y : Ac} (h1 : x.n = y.n) (h2 : x.a = y.a) (h3 : x.b = y.b) : x = y := by cases x; cases y; simp_all
section
variable {l : List Int} (hl : l.length ≤ 9223372036854775806) (v : Int)
include hl
theorem first_ {k : Int} (h : 1 ≤ k ∧ k ≤ 5) (h0 : l.length = 0) : all k (l ++ [v]) = one k v := by
  obtain rfl := List.eq_nil_of_length_eq_zero h0
  rw [all_push]
  exact join_l h rfl _
theorem next_ {k : Int} (h : 1 ≤ k ∧ k ≤ 5) (h0 : l.length ≠ 0) : all k (l ++ [v]) = both k (all k l) (one k v) := by
  rw [all_push]
  exact join_b h (by rw [(shape h _ l rfl (by omega)).1]; omega) (by rw [one_n h]; omega)
theorem empty_ {k : Int} (h0 : l.length = 0) : all k l = zero := by
  obtain rfl := List.eq_nil_of_length_eq_zero h0; rfl
theorem step_1 : all 1 (l ++ [v]) = ⟨wr ((all 1 l).n + 1), (all 1 l).a, (all 1 l).b⟩ := by
  have hs := shape (k := 1) (by omega) _ l rfl (by omega)
  by_cases h0 : l.length = 0
  · rw [first_ hl v (by omega) h0, empty_ hl h0, wr1]; rfl
  · rw [next_ hl v (by omega) h0]
    exact ext rfl (hs.2.2 rfl).symm (hs.2.1 (by omega)).symm
theorem step_2 (h1 : -9223372036854775808 ≤ v) (h2 : v ≤ 9223372036854775807) : all 2 (l ++ [v]) = ⟨wr ((all 2 l).n + 1), wr ((all 2 l).a + v), (all 2 l).b⟩ := by
  have hs := shape (k := 2) (by omega) _ l rfl (by omega)
  by_cases h0 : l.length = 0
  · rw [first_ hl v (by omega) h0, empty_ hl h0]
    exact ext wr1.symm (by show v = wr (0 + v); rw [wr_in (by omega) (by omega)]; omega) rfl
  · rw [next_ hl v (by omega) h0]
    exact ext rfl rfl (hs.2.1 (by omega)).symm
theorem step_3 (h : l.length = 0 ∨ v < (all 3 l).a) : all 3 (l ++ [v]) = ⟨wr ((all 3 l).n + 1), v, (all 3 l).b⟩ := by
  have hs := shape (k := 3) (by omega) _ l rfl (by omega)
  by_cases h0 : l.length = 0
  · rw [first_ hl v (by omega) h0, empty_ hl h0, wr1]; rfl
  · rw [next_ hl v (by omega) h0]
    exact ext rfl (if_pos (h.resolve_left h0)) (hs.2.1 (by omega)).symm
theorem step_3k (h0 : l.length ≠ 0) (h : ¬ v < (all 3 l).a) : all 3 (l ++ [v]) = ⟨wr ((all 3 l).n + 1), (all 3 l).a, (all 3 l).b⟩ := by
  have hs := shape (k := 3) (by omega) _ l rfl (by omega)
  rw [next_ hl v (by omega) h0]
  exact ext rfl (if_neg h) (hs.2.1 (by omega)).symm
theorem step_4 (h : l.length = 0 ∨ (all 4 l).a < v) : all 4 (l ++ [v]) = ⟨wr ((all 4 l).n + 1), v, (all 4 l).b⟩ := by
  have hs := shape (k := 4) (by omega) _ l rfl (by omega)
  by_cases h0 : l.length = 0
  · rw [first_ hl v (by omega) h0, empty_ hl h0, wr1]; rfl
  · rw [next_ hl v (by omega) h0]
    exact ext rfl (if_pos (h.resolve_left h0)) (hs.2.1 (by omega)).symm
theorem step_4k (h0 : l.length ≠ 0) (h : ¬ (all 4 l).a < v) : all 4 (l ++ [v]) = ⟨wr ((all 4 l).n + 1), (all 4 l).a, (all 4 l).b⟩ := by
  have hs := shape (k := 4) (by omega) _ l rfl (by omega)
  rw [next_ hl v (by omega) h0]
  exact ext rfl (if_neg h) (hs.2.1 (by omega)).symm
theorem step_5 (h0 : l.length = 0) : all 5 (l ++ [v]) = ⟨wr ((all 5 l).n + 1), v, v⟩ := by
  rw [first_ hl v (by omega) h0, empty_ hl h0, wr1]; rfl
theorem step_5n (h0 : l.length ≠ 0) : all 5 (l ++ [v]) = ⟨wr ((all 5 l).n + 1), lo (all 5 l).a v, hi (all 5 l).b v⟩ := by
  rw [next_ hl v (by omega) h0]; rfl
theorem step_5pp (h0 : l.length ≠ 0) (h1 : v < (all 5 l).a) (h2 : (all 5 l).b < v) : all 5 (l ++ [v]) = ⟨wr ((all 5 l).n + 1), v, v⟩ := by
  rw [step_5n hl v h0]
  exact ext rfl (if_pos h1) (if_pos h2)
theorem step_5pn (h0 : l.length ≠ 0) (h1 : v < (all 5 l).a) (h2 : ¬ (all 5 l).b < v) : all 5 (l ++ [v]) = ⟨wr ((all 5 l).n + 1), v, (all 5 l).b⟩ := by
  rw [step_5n hl v h0]
  exact ext rfl (if_pos h1) (if_neg h2)
theorem step_5np (h0 : l.length ≠ 0) (h1 : ¬ v < (all 5 l).a) (h2 : (all 5 l).b < v) : all 5 (l ++ [v]) = ⟨wr ((all 5 l).n + 1), (all 5 l).a, v⟩ := by
  rw [step_5n hl v h0]
  exact ext rfl (if_neg h1) (if_pos h2)
theorem step_5nn (h0 : l.length ≠ 0) (h1 : ¬ v < (all 5 l).a) (h2 : ¬ (all 5 l).b < v) : all 5 (l ++ [v]) = ⟨wr ((all 5 l).n + 1), (all 5 l).a, (all 5 l).b⟩ := by
  rw [step_5n hl v h0]
  exact ext rfl (if_neg h1) (if_neg h2)
end
end Acm
end Go.Proofs.Ytipmphkmeiogoaa
/- What accumulators of lists owe: any grouping, any order; the least and the greatest. -/
namespace Go.Proofs.Ytipmphkmeiogoaa
set_option linter.unusedVariables false
set_option maxRecDepth 8000
namespace Acm
/-- Of so few values; of none only if it is the empty one. -/
structure Few (m : Int) (x : Ac) : Prop where
  lo : 0 ≤ x.n
  hi : x.n ≤ m
  none : x.n = 0 → x = zero
theorem Few.all {k : Int} (h : 1 ≤ k ∧ k ≤ 5) {l : List Int} {m : Nat} (hl : l.length ≤ m) (hm : m ≤ 9223372036854775807) : Few m (all k l) := by
  have hs := (shape h _ l rfl (by omega)).1
  refine ⟨by omega, by omega, fun h0 => ?_⟩
  obtain rfl := List.eq_nil_of_length_eq_zero (show l.length = 0 by omega)
  rfl
theorem lo_comm (a b : Int) : lo a b = lo b a := by unfold lo; split <;> split <;> omega
theorem hi_comm (a b : Int) : hi a b = hi b a := by unfold hi; split <;> split <;> omega
theorem lo_assoc (a b c : Int) : lo (lo a b) c = lo a (lo b c) := by unfold lo; repeat' split <;> omega
theorem hi_assoc (a b c : Int) : hi (hi a b) c = hi a (hi b c) := by unfold hi; repeat' split <;> omega
theorem wr_assoc (a b c : Int) : wr (wr (a + b) + c) = wr (a + wr (b + c)) := by unfold wr RowKit.wrap64; omega
theorem fA_comm (k a b : Int) : fA k a b = fA k b a := by unfold fA; rw [Int.add_comm, lo_comm, hi_comm]
theorem fB_comm (k a b : Int) : fB k a b = fB k b a := by unfold fB; rw [hi_comm]
theorem fA_assoc (k a b c : Int) : fA k (fA k a b) c = fA k a (fA k b c) := by
  unfold fA
  split
  · exact wr_assoc a b c
  · split
    · exact lo_assoc a b c
    · split
      · exact hi_assoc a b c
      · split
        · exact lo_assoc a b c
        · rfl
theorem fB_assoc (k a b c : Int) : fB k (fB k a b) c = fB k a (fB k b c) := by
  unfold fB
  split
  · exact hi_assoc a b c
  · rfl
theorem both_n {k m : Int} {x y : Ac} (hm : m ≤ 4611686018427387903) (hx : Few m x) (hy : Few m y) : (both k x y).n = x.n + y.n := by
  have h1 := hx.lo; have h2 := hx.hi; have h3 := hy.lo; have h4 := hy.hi
  exact wr_in (by omega) (by omega)
theorem join_comm {k m : Int} {x y : Ac} (hx : Few m x) (hy : Few m y) : join k x y = join k y x := by
  by_cases h : 1 ≤ k ∧ k ≤ 5
  · by_cases h1 : x.n = 0
    · by_cases h2 : y.n = 0
      · rw [hx.none h1, hy.none h2]
      · rw [join_l h h1, join_r h h2 h1]
    · by_cases h2 : y.n = 0
      · rw [join_r h h1 h2, join_l h h2]
      · rw [join_b h h1 h2, join_b h h2 h1]
        exact ext (by show wr _ = wr _; rw [Int.add_comm]) (fA_comm _ _ _) (fB_comm _ _ _)
  · rw [join_bad h, join_bad h]
theorem join_assoc {k m : Int} (hm : m ≤ 2305843009213693951) {x y z : Ac} (hx : Few m x) (hy : Few m y) (hz : Few m z) : join k (join k x y) z = join k x (join k y z) := by
  by_cases h : 1 ≤ k ∧ k ≤ 5
  · by_cases h1 : x.n = 0
    · rw [join_l h h1, join_l h h1]
    · by_cases h2 : y.n = 0
      · rw [join_r h h1 h2, join_l h h2]
      · have hn := both_n (k := k) (by omega) hx hy
        have hn2 := both_n (k := k) (by omega) hy hz
        have a1 := hx.lo; have a2 := hy.lo; have a3 := hz.lo
        by_cases h3 : z.n = 0
        · rw [join_b h h1 h2, join_r h (by omega) h3, join_r h h2 h3, join_b h h1 h2]
        · rw [join_b h h1 h2, join_b h (by omega) h3, join_b h h2 h3, join_b h h1 (by omega)]
          exact ext (wr_assoc _ _ _) (fA_assoc _ _ _ _) (fB_assoc _ _ _ _)
  · rw [join_bad h, join_bad h]
theorem join_zero {k m : Int} {x : Ac} (h : 1 ≤ k ∧ k ≤ 5) (hx : Few m x) : join k x zero = x := by
  by_cases h1 : x.n = 0
  · rw [hx.none h1]; exact join_l h rfl _
  · exact join_r h h1 rfl
theorem all_append {k : Int} : ∀ (n : Nat) (l m : List Int), m.length = n → l.length ≤ 1000000 → m.length ≤ 1000000 → all k (l ++ m) = join k (all k l) (all k m) := by
  by_cases h : 1 ≤ k ∧ k ≤ 5
  · intro n
    induction n with
    | zero =>
      intro l m hm hl _
      obtain rfl := List.eq_nil_of_length_eq_zero hm
      rw [List.append_nil]
      exact (join_zero h (Few.all h (m := 1000000) hl (by omega))).symm
    | succ n ih =>
      intro l m hm hl hm2
      rcases List.eq_nil_or_concat m with rfl | ⟨r, v, rfl⟩
      · simp at hm
      · simp only [List.concat_eq_append, List.length_append, List.length_singleton] at hm hm2 ⊢
        rw [← List.append_assoc, all_push, ih l r (by omega) hl (by omega), all_push]
        refine join_assoc (m := 1000001) (by omega) ?_ ?_ ?_
        · exact Few.all h (m := 1000001) (by omega) (by omega)
        · exact Few.all h (m := 1000001) (by omega) (by omega)
        · have := Few.all h (l := [v]) (m := 1000001) (by simp) (by omega)
          rwa [show all k [v] = join k zero (one k v) from rfl, join_l h rfl] at this
  · intro n l m _ _ _
    rw [join_bad h]
    exact all_bad h _
theorem all_turn {k : Int} {l m : List Int} (hl : l.length ≤ 1000000) (hm : m.length ≤ 1000000) : all k (m ++ l) = all k (l ++ m) := by
  by_cases h : 1 ≤ k ∧ k ≤ 5
  · rw [all_append _ m l rfl hm hl, all_append _ l m rfl hl hm]
    exact join_comm (Few.all h hm (by omega)) (Few.all h hl (by omega))
  · rw [all_bad h, all_bad h]
theorem all_perm {k : Int} {l m : List Int} (hp : List.Perm l m) : l.length ≤ 1000000 → all k l = all k m := by
  have app : ∀ (a : Int) (l : List Int), l.length < 1000000 → all k (a :: l) = join k (all k [a]) (all k l) := fun a l hl => by
    have := all_append (k := k) _ [a] l rfl (by simp) (by omega)
    exact this
  by_cases h : 1 ≤ k ∧ k ≤ 5
  · induction hp with
    | nil => intro _; rfl
    | cons a _ ih =>
      intro hl
      rename_i l1 l2 hp
      simp only [List.length_cons] at hl
      have := hp.length_eq
      rw [app a l1 (by omega), app a l2 (by omega), ih (by omega)]
    | swap a b l =>
      intro hl
      simp only [List.length_cons] at hl
      rw [app b (a :: l) (by simp only [List.length_cons]; omega), app a l (by omega), app a (b :: l) (by simp only [List.length_cons]; omega), app b l (by omega)]
      have e1 := Few.all h (l := [a]) (m := 1000000) (by simp) (by omega)
      have e2 := Few.all h (l := [b]) (m := 1000000) (by simp) (by omega)
      have e3 := Few.all h (l := l) (m := 1000000) (by omega) (by omega)
      rw [← join_assoc (m := 1000000) (by omega) e2 e1 e3, join_comm e2 e1, join_assoc (m := 1000000) (by omega) e1 e2 e3]
    | trans h1 h2 ih1 ih2 =>
      intro hl
      have := h1.length_eq
      rw [ih1 hl, ih2 (by omega)]
  · intro _; rw [all_bad h, all_bad h]
/-- Least, greatest, both ends. -/
theorem ends {l : List Int} : ∀ (n : Nat), l.length = n → n ≤ 1000000 → 0 < n → (∀ v ∈ l, (all 3 l).a ≤ v ∧ v ≤ (all 4 l).a) ∧ (all 3 l).a ∈ l ∧ (all 5 l).a = (all 3 l).a ∧ (all 5 l).b = (all 4 l).a := by
  intro n
  induction n generalizing l with
  | zero => intro _ _ h; omega
  | succ n ih =>
    intro hl hn _
    rcases List.eq_nil_or_concat l with rfl | ⟨r, v, rfl⟩
    · simp at hl
    · simp only [List.concat_eq_append, List.length_append, List.length_singleton] at hl ⊢
      by_cases h0 : n = 0
      · have h0' : r.length = 0 := by omega
        rw [first_ (by omega) v (k := 3) (by omega) h0', first_ (by omega) v (k := 4) (by omega) h0', first_ (by omega) v (k := 5) (by omega) h0']
        obtain rfl := List.eq_nil_of_length_eq_zero h0'
        refine ⟨fun x hx => ?_, by simp [one], rfl, rfl⟩
        simp at hx
        subst hx
        exact ⟨Int.le_refl _, Int.le_refl _⟩
      · obtain ⟨h1, h2, h3, h4⟩ := ih (l := r) (by omega) (by omega) (by omega)
        have h0' : r.length ≠ 0 := by omega
        rw [next_ (by omega) v (k := 3) (by omega) h0', next_ (by omega) v (k := 4) (by omega) h0', next_ (by omega) v (k := 5) (by omega) h0']
        have e3 : (both 3 (all 3 r) (one 3 v)).a = lo (all 3 r).a v := rfl
        have e4 : (both 4 (all 4 r) (one 4 v)).a = hi (all 4 r).a v := rfl
        have e5 : (both 5 (all 5 r) (one 5 v)).a = lo (all 5 r).a v := rfl
        have e6 : (both 5 (all 5 r) (one 5 v)).b = hi (all 5 r).b v := rfl
        rw [e3, e4, e5, e6, h3, h4]
        refine ⟨fun x hx => ?_, ?_, rfl, rfl⟩
        · rw [List.mem_append] at hx
          rcases hx with hx | hx
          · have := h1 x hx
            unfold lo hi
            refine ⟨?_, ?_⟩ <;> split <;> omega
          · simp at hx
            subst hx
            unfold lo hi
            refine ⟨?_, ?_⟩ <;> split <;> omega
        · unfold lo
          split
          · simp
          · exact List.mem_append_left _ h2
theorem count {l : List Int} (hl : l.length ≤ 1000000) : val 1 (all 1 l) = l.length := by
  have hs := (shape (k := 1) (by omega) _ l rfl (by omega)).1
  unfold val
  by_cases h : (all 1 l).n = 0
  · rw [if_pos h]; omega
  · rw [if_neg h, if_pos rfl, hs]
theorem val_of {k : Int} (h : 1 ≤ k ∧ k ≤ 5) {l : List Int} (hl : l.length ≤ 1000000) (h0 : 0 < l.length) : val k (all k l) = if k = 1 then (all k l).n else if k = 2 ∨ k = 3 ∨ k = 4 then (all k l).a else if k = 5 then wr ((all k l).b - (all k l).a) else 0 := by
  have hs := (shape h _ l rfl (by omega)).1
  unfold val
  rw [if_neg (by omega)]
theorem ends_val {l : List Int} (hl : l.length ≤ 1000000) : val 5 (all 5 l) = wr (val 4 (all 4 l) - val 3 (all 3 l)) ∧ (∀ v ∈ l, val 3 (all 3 l) ≤ v ∧ v ≤ val 4 (all 4 l)) ∧ (0 < l.length → val 3 (all 3 l) ∈ l) := by
  by_cases h0 : 0 < l.length
  · obtain ⟨h1, h2, h3, h4⟩ := ends (l := l) l.length rfl hl h0
    have e3 : val 3 (all 3 l) = (all 3 l).a := val_of (k := 3) (by omega) hl h0
    have e4 : val 4 (all 4 l) = (all 4 l).a := val_of (k := 4) (by omega) hl h0
    have e5 : val 5 (all 5 l) = wr ((all 5 l).b - (all 5 l).a) := val_of (k := 5) (by omega) hl h0
    rw [e3, e4, e5, h3, h4]
    exact ⟨rfl, h1, fun _ => h2⟩
  · obtain rfl := List.eq_nil_of_length_eq_zero (show l.length = 0 by omega)
    refine ⟨?_, by simp, fun h => absurd h h0⟩
    show (0 : Int) = wr (0 - 0)
    unfold wr RowKit.wrap64; omega
/-- Whether the least one was saw behind j values. -/
def saw (l : List Int) (v : Int) (j : Nat) : Bool := decide (l.length = 0) || (l.take j).any (· == v)
theorem saw_0 {l : List Int} (v : Int) (h : l.length ≠ 0) : saw l v 0 = false := by simp [saw]; intro hl; exact h (by simp [hl])
theorem saw_nil {l : List Int} (v : Int) (h : l.length = 0) (j : Nat) : saw l v j = true := by simp [saw, h]
theorem saw_next {l : List Int} {v x : Int} {j : Nat} (h : l[j]? = some x) : saw l v (j + 1) = (saw l v j || (x == v)) := by
  unfold saw
  rw [List.take_add_one, h]
  simp [Bool.or_assoc]
theorem saw_all {l : List Int} {v : Int} (h : v ∈ l) : saw l v l.length = true := by
  unfold saw
  rw [List.take_length, Bool.or_eq_true]
  exact .inr (List.any_eq_true.2 ⟨v, h, by simp⟩)
/-- What joining owes, of three lists. -/
theorem rules (k : Int) (l m n : List Int) (hl : l.length ≤ 2000) (hm : m.length ≤ 2000) (hn : n.length ≤ 2000) :
    join k (all k m) (all k l) = join k (all k l) (all k m) ∧ join k (all k l) (join k (all k m) (all k n)) = join k (join k (all k l) (all k m)) (all k n) ∧ join k (all k l) zero = all k l ∧ join k zero (all k l) = all k l := by
  by_cases h : 1 ≤ k ∧ k ≤ 5
  · have e1 := Few.all h (l := l) (m := 2000) hl (by omega)
    have e2 := Few.all h (l := m) (m := 2000) hm (by omega)
    have e3 := Few.all h (l := n) (m := 2000) hn (by omega)
    exact ⟨join_comm e2 e1, (join_assoc (m := 2000) (by omega) e1 e2 e3).symm, join_zero h e1, join_l h rfl _⟩
  · simp only [join_bad h, all_bad h]
    exact ⟨trivial, trivial, trivial, trivial⟩
end Acm
end Go.Proofs.Ytipmphkmeiogoaa
