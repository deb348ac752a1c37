/- Accumulators as plain data. -/
import Derived.WalkKit
import Derived.RowKit
namespace Go.Proofs.Ytklpfifellghlaa
set_option linter.unusedVariables false
namespace Acm
structure Ac where
  n : Int
  a : Int
  b : Int
abbrev zero : Ac := ⟨0, 0, 0⟩
abbrev acC (x : Ac) : Array Value := #[.int .i64 x.n, .int .i64 x.a, .int .i64 x.b]
abbrev acV (x : Ac) : Value := .agg (acC x)
def wr (n : Int) : Int := RowKit.wrap64 n
def lo (a b : Int) : Int := if b < a then b else a
def hi (a b : Int) : Int := if a < b then b else a
def fA (k a b : Int) : Int := if k = 2 then wr (a + b) else if k = 3 then lo a b else if k = 4 then hi a b else if k = 5 then lo a b else 0
def fB (k a b : Int) : Int := if k = 5 then hi a b else 0
def both (k : Int) (x y : Ac) : Ac := ⟨wr (x.n + y.n), fA k x.a y.a, fB k x.b y.b⟩
def join (k : Int) (x y : Ac) : Ac := if 1 ≤ k ∧ k ≤ 5 then (if x.n = 0 then y else if y.n = 0 then x else both k x y) else zero
def one (k v : Int) : Ac := if k = 1 then ⟨1, 0, 0⟩ else if k = 2 ∨ k = 3 ∨ k = 4 then ⟨1, v, 0⟩ else if k = 5 then ⟨1, v, v⟩ else zero
def all (k : Int) (l : List Int) : Ac := l.foldl (fun x v => join k x (one k v)) zero
def val (k : Int) (x : Ac) : Int := if x.n = 0 then 0 else if k = 1 then x.n else if k = 2 ∨ k = 3 ∨ k = 4 then x.a else if k = 5 then wr (x.b - x.a) else 0
def isK (k : Int) : Bool := decide (1 ≤ k ∧ k ≤ 5)
theorem join_bad {k : Int} (h : ¬ (1 ≤ k ∧ k ≤ 5)) (x y : Ac) : join k x y = zero := if_neg h
theorem join_l {k : Int} (h : 1 ≤ k ∧ k ≤ 5) {x : Ac} (hx : x.n = 0) (y : Ac) : join k x y = y := by unfold join; rw [if_pos h, if_pos hx]
theorem join_r {k : Int} (h : 1 ≤ k ∧ k ≤ 5) {x : Ac} (hx : x.n ≠ 0) {y : Ac} (hy : y.n = 0) : join k x y = x := by unfold join; rw [if_pos h, if_neg hx, if_pos hy]
theorem join_b {k : Int} (h : 1 ≤ k ∧ k ≤ 5) {x : Ac} (hx : x.n ≠ 0) {y : Ac} (hy : y.n ≠ 0) : join k x y = both k x y := by unfold join; rw [if_pos h, if_neg hx, if_neg hy]
theorem kinds {k : Int} (h : 1 ≤ k ∧ k ≤ 5) : k = 1 ∨ k = 2 ∨ k = 3 ∨ k = 4 ∨ k = 5 := by omega
theorem all_snoc {k : Int} {zs : List Int} {j : Nat} {x : Int} (h : zs[j]? = some x) : all k (zs.take (j + 1)) = join k (all k (zs.take j)) (one k x) := by
  unfold all
  rw [List.take_add_one, h]
  simp [List.foldl_append]
theorem all_bad {k : Int} (h : ¬ (1 ≤ k ∧ k ≤ 5)) (zs : List Int) : all k zs = zero := by
  unfold all
  suffices h2 : ∀ x, zs.foldl (fun x v => join k x (one k v)) x = if zs = [] then x else zero by
    rw [h2]; split <;> rfl
  induction zs with
  | nil => intro x; rfl
  | cons z zs ih => intro x; rw [List.foldl_cons, ih, join_bad h]; simp
theorem all_push (k : Int) (l : List Int) (v : Int) : all k (l ++ [v]) = join k (all k l) (one k v) := by
  unfold all
  simp [List.foldl_append]
theorem wr_in {n : Int} (h1 : -9223372036854775808 ≤ n) (h2 : n ≤ 9223372036854775807) : wr n = n := by unfold wr RowKit.wrap64; omega
theorem wr_lo (n : Int) : -9223372036854775808 ≤ wr n := by unfold wr RowKit.wrap64; omega
theorem wr_hi (n : Int) : wr n ≤ 9223372036854775807 := by unfold wr RowKit.wrap64; omega
theorem one_n {k : Int} (h : 1 ≤ k ∧ k ≤ 5) (v : Int) : (one k v).n = 1 := by
  rcases kinds h with rfl | rfl | rfl | rfl | rfl <;> rfl
/-- The values behind: a, b that a fold does not have are 0; as many as there are. -/
theorem shape {k : Int} (h : 1 ≤ k ∧ k ≤ 5) : ∀ (m : Nat) (l : List Int), l.length = m → m ≤ 9223372036854775807 → (all k l).n = m ∧ (k ≠ 5 → (all k l).b = 0) ∧ (k = 1 → (all k l).a = 0) := by
  intro m
  induction m with
  | zero => intro l hl _; obtain rfl := List.eq_nil_of_length_eq_zero hl; exact ⟨rfl, fun _ => rfl, fun _ => rfl⟩
  | succ m ih =>
    intro l hl hm
    rcases List.eq_nil_or_concat l with rfl | ⟨r, v, rfl⟩
    · simp at hl
    · have hr : r.length = m := by simpa using hl
      obtain ⟨h1, h2, h3⟩ := ih r hr (by omega)
      rw [List.concat_eq_append, all_push]
      by_cases h0 : m = 0
      · subst h0
        rw [join_l h (by omega)]
        refine ⟨by rw [one_n h]; rfl, fun hk => ?_, fun hk => by subst hk; rfl⟩
        rcases kinds h with rfl | rfl | rfl | rfl | rfl <;> first | rfl | exact absurd rfl hk
      · rw [join_b h (by omega) (by rw [one_n h]; omega)]
        refine ⟨?_, fun hk => ?_, fun hk => ?_⟩
        · show wr ((all k r).n + (one k v).n) = _
          rw [one_n h, h1, wr_in (by omega) (by omega)]; omega
        · show fB k _ _ = 0
          exact if_neg hk
        · subst hk; rfl
theorem wr1 : wr (zero.n + 1) = 1 := by
  show wr (0 + 1) = 1
  unfold wr RowKit.wrap64; omega
theorem ext {x y : Ac} (h1 : x.n = y.n) (h2 : x.a = y.a) (h3 : x.b = y.b) : x = y := by cases x; cases y; simp_all
section
variable {l : List Int} (hl : l.length ≤ 9223372036854775806) (v : Int)
include hl
theorem first_ {k : Int} (h : 1 ≤ k ∧ k ≤ 5) (h0 : l.length = 0) : all k (l ++ [v]) = one k v := by
  obtain rfl := List.eq_nil_of_length_eq_zero h0
  rw [all_push]
  exact join_l h rfl _
theorem next_ {k : Int} (h : 1 ≤ k ∧ k ≤ 5) (h0 : l.length ≠ 0) : all k (l ++ [v]) = both k (all k l) (one k v) := by
  rw [all_push]
  exact join_b h (by rw [(shape h _ l rfl (by omega)).1]; omega) (by rw [one_n h]; omega)
theorem empty_ {k : Int} (h0 : l.length = 0) : all k l = zero := by
  obtain rfl := List.eq_nil_of_length_eq_zero h0; rfl
theorem step_1 : all 1 (l ++ [v]) = ⟨wr ((all 1 l).n + 1), (all 1 l).a, (all 1 l).b⟩ := by
  have hs := shape (k := 1) (by omega) _ l rfl (by omega)
  by_cases h0 : l.length = 0
  · rw [first_ hl v (by omega) h0, empty_ hl h0, wr1]; rfl
  · rw [next_ hl v (by omega) h0]
    exact ext rfl (hs.2.2 rfl).symm (hs.2.1 (by omega)).symm
theorem step_2 (h1 : -9223372036854775808 ≤ v) (h2 : v ≤ 9223372036854775807) : all 2 (l ++ [v]) = ⟨wr ((all 2 l).n + 1), wr ((all 2 l).a + v), (all 2 l).b⟩ := by
  have hs := shape (k := 2) (by omega) _ l rfl (by omega)
  by_cases h0 : l.length = 0
  · rw [first_ hl v (by omega) h0, empty_ hl h0]
    exact ext wr1.symm (by show v = wr (0 + v); rw [wr_in (by omega) (by omega)]; omega) rfl
  · rw [next_ hl v (by omega) h0]
    exact ext rfl rfl (hs.2.1 (by omega)).symm
theorem step_3 (h : l.length = 0 ∨ v < (all 3 l).a) : all 3 (l ++ [v]) = ⟨wr ((all 3 l).n + 1), v, (all 3 l).b⟩ := by
  have hs := shape (k := 3) (by omega) _ l rfl (by omega)
  by_cases h0 : l.length = 0
  · rw [first_ hl v (by omega) h0, empty_ hl h0, wr1]; rfl
  · rw [next_ hl v (by omega) h0]
    exact ext rfl (if_pos (h.resolve_left h0)) (hs.2.1 (by omega)).symm
theorem step_3k (h0 : l.length ≠ 0) (h : ¬ v < (all 3 l).a) : all 3 (l ++ [v]) = ⟨wr ((all 3 l).n + 1), (all 3 l).a, (all 3 l).b⟩ := by
  have hs := shape (k := 3) (by omega) _ l rfl (by omega)
  rw [next_ hl v (by omega) h0]
  exact ext rfl (if_neg h) (hs.2.1 (by omega)).symm
theorem step_4 (h : l.length = 0 ∨ (all 4 l).a < v) : all 4 (l ++ [v]) = ⟨wr ((all 4 l).n + 1), v, (all 4 l).b⟩ := by
  have hs := shape (k := 4) (by omega) _ l rfl (by omega)
  by_cases h0 : l.length = 0
  · rw [first_ hl v (by omega) h0, empty_ hl h0, wr1]; rfl
  · rw [next_ hl v (by omega) h0]
    exact ext rfl (if_pos (h.resolve_left h0)) (hs.2.1 (by omega)).symm
theorem step_4k (h0 : l.length ≠ 0) (h : ¬ (all 4 l).a < v) : all 4 (l ++ [v]) = ⟨wr ((all 4 l).n + 1), (all 4 l).a, (all 4 l).b⟩ := by
  have hs := shape (k := 4) (by omega) _ l rfl (by omega)
  rw [next_ hl v (by omega) h0]
  exact ext rfl (if_neg h) (hs.2.1 (by omega)).symm
theorem step_5 (h0 : l.length = 0) : all 5 (l ++ [v]) = ⟨wr ((all 5 l).n + 1), v, v⟩ := by
  rw [first_ hl v (by omega) h0, empty_ hl h0, wr1]; rfl
theorem step_5n (h0 : l.length ≠ 0) : all 5 (l ++ [v]) = ⟨wr ((all 5 l).n + 1), lo (all 5 l).a v, hi (all 5 l).b v⟩ := by
  rw [next_ hl v (by omega) h0]; rfl
theorem step_5pp (h0 : l.length ≠ 0) (h1 : v < (all 5 l).a) (h2 : (all 5 l).b < v) : all 5 (l ++ [v]) = ⟨wr ((all 5 l).n + 1), v, v⟩ := by
  rw [step_5n hl v h0]
  exact ext rfl (if_pos h1) (if_pos h2)
theorem step_5pn (h0 : l.length ≠ 0) (h1 : v < (all 5 l).a) (h2 : ¬ (all 5 l).b < v) : all 5 (l ++ [v]) = ⟨wr ((all 5 l).n + 1), v, (all 5 l).b⟩ := by
  rw [step_5n hl v h0]
  exact ext rfl (if_pos h1) (if_neg h2)
theorem step_5np (h0 : l.length ≠ 0) (h1 : ¬ v < (all 5 l).a) (h2 : (all 5 l).b < v) : all 5 (l ++ [v]) = ⟨wr ((all 5 l).n + 1), (all 5 l).a, v⟩ := by
  rw [step_5n hl v h0]
  exact ext rfl (if_neg h1) (if_pos h2)
theorem step_5nn (h0 : l.length ≠ 0) (h1 : ¬ v < (all 5 l).a) (h2 : ¬ (all 5 l).b < v) : all 5 (l ++ [v]) = ⟨wr ((all 5 l).n + 1), (all 5 l).a, (all 5 l).b⟩ := by
  rw [step_5n hl v h0]
  exact ext rfl (if_neg h1) (if_neg h2)
end
end Acm
end Go.Proofs.Ytklpfifellghlaa
