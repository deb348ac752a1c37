/- Digits by their number: greater numbers are later texts; which digits are a number up to 2^63 - 1. -/
import Derived.Test.YtileonenphmkkaaDoorJobLine3
namespace Go.Proofs.YtileonenphmkkaaDoor
open Go.RowKit
set_option linter.unusedVariables false
namespace Jo
theorem val_from : ∀ (l : List UInt8) (a : Nat), l.foldl (fun a b => 10 * a + (b.toNat - 48)) a = a * 10 ^ l.length + val l
  | [], a => by simp [val]
  | x :: l, a => by
    have h0 : val (x :: l) = l.foldl (fun a b => 10 * a + (b.toNat - 48)) (10 * 0 + (x.toNat - 48)) := rfl
    rw [h0, List.foldl_cons, val_from l (10 * a + (x.toNat - 48)), val_from l (10 * 0 + (x.toNat - 48)), List.length_cons, Nat.pow_succ]
    simp only [Nat.mul_zero, Nat.zero_add, Nat.add_mul]
    have : 10 * a * 10 ^ l.length = a * (10 ^ l.length * 10) := by
      rw [Nat.mul_comm 10 a, Nat.mul_assoc, Nat.mul_comm 10]
    omega
theorem val_cons (x : UInt8) (l : List UInt8) : val (x :: l) = (x.toNat - 48) * 10 ^ l.length + val l := by
  have h0 : val (x :: l) = l.foldl (fun a b => 10 * a + (b.toNat - 48)) (10 * 0 + (x.toNat - 48)) := rfl
  rw [h0, val_from]
  simp
theorem isD_iff {b : UInt8} : isD b = true ↔ 48 ≤ b.toNat ∧ b.toNat ≤ 57 := by
  unfold isD
  rw [decide_eq_true_eq]
theorem val_lt : ∀ (l : List UInt8), (∀ b ∈ l, isD b = true) → val l < 10 ^ l.length
  | [], _ => by simp [val]
  | x :: l, h => by
    have hx := isD_iff.1 (h x (by simp))
    have ih := val_lt l fun b hb => h b (by simp [hb])
    rw [val_cons, List.length_cons, Nat.pow_succ]
    have : (x.toNat - 48) * 10 ^ l.length ≤ 9 * 10 ^ l.length := Nat.mul_le_mul_right _ (by omega)
    omega
theorem val_ge {x : UInt8} {l : List UInt8} (hx : isD x = true) (h0 : x ≠ 48) : 10 ^ l.length ≤ val (x :: l) := by
  have := isD_iff.1 hx
  have hne : x.toNat ≠ 48 := fun e => h0 (UInt8.toNat_inj.1 e)
  rw [val_cons]
  have : 1 * 10 ^ l.length ≤ (x.toNat - 48) * 10 ^ l.length := Nat.mul_le_mul_right _ (by omega)
  omega
theorem less_val : ∀ (a b : List UInt8), a.length = b.length → (∀ x ∈ a, isD x = true) → (∀ x ∈ b, isD x = true) → (Op.bytesLess a b || a == b) = decide (val a ≤ val b)
  | [], [], _, _, _ => by simp [Op.bytesLess]
  | x :: a, y :: b, hl, ha, hb => by
    have hl' : a.length = b.length := by simpa using hl
    have ih := less_val a b hl' (fun z hz => ha z (by simp [hz])) (fun z hz => hb z (by simp [hz]))
    have hx := isD_iff.1 (ha x (by simp))
    have hy := isD_iff.1 (hb y (by simp))
    have la := val_lt a fun z hz => ha z (by simp [hz])
    have lb := val_lt b fun z hz => hb z (by simp [hz])
    rw [val_cons, val_cons, hl']
    rw [hl'] at la
    generalize hP : 10 ^ b.length = P at la lb ⊢
    by_cases h1 : x < y
    · have h2 : x.toNat < y.toNat := UInt8.lt_iff_toNat_lt.1 h1
      have e : ((x.toNat - 48) + 1) * P ≤ (y.toNat - 48) * P := Nat.mul_le_mul_right _ (by omega)
      rw [Nat.add_mul] at e
      rw [decide_eq_true (by omega)]
      simp [Op.bytesLess, h1]
    · by_cases h2 : x = y
      · subst h2
        have e : ((x :: a) == (x :: b)) = (a == b) := by simp
        rw [e]
        have hn : (x < x) = False := by simp
        simp only [Op.bytesLess, hn, decide_false, Bool.false_or, beq_self_eq_true, Bool.true_and]
        rw [ih]
        congr 1
        simp
      · have h3 : y.toNat < x.toNat := by
          have g1 : ¬ x.toNat < y.toNat := fun h => h1 (UInt8.lt_iff_toNat_lt.2 h)
          have g2 : x.toNat ≠ y.toNat := fun h => h2 (UInt8.toNat_inj.1 h)
          omega
        have e : ((y.toNat - 48) + 1) * P ≤ (x.toNat - 48) * P := Nat.mul_le_mul_right _ (by omega)
        rw [Nat.add_mul] at e
        rw [decide_eq_false (by omega)]
        simp [Op.bytesLess, h1, h2]
abbrev topD : List UInt8 := [57, 50, 50, 51, 51, 55, 50, 48, 51, 54, 56, 53, 52, 55, 55, 53, 56, 48, 55]
theorem topD_val : val topD = 9223372036854775807 := by decide
theorem topD_dig : ∀ x ∈ topD, isD x = true := by decide
/-- The ways of the digits that stand ahead. -/
theorem num_ways (l : List UInt8) (hd : ∀ b ∈ l, isD b = true) (s : List UInt8) (hl : l = s.takeWhile isD) :
    (l.length = 0 ∧ numOk s = false) ∨ (1 < l.length ∧ l.head? = some 48 ∧ numOk s = false) ∨ ((l.length = 1 ∨ l.head? ≠ some 48) ∧ 19 < l.length ∧ numOk s = false) ∨
    (l.length = 19 ∧ l.head? ≠ some 48 ∧ (Op.bytesLess l topD || l == topD) = false ∧ numOk s = false) ∨
    (l.length = 19 ∧ l.head? ≠ some 48 ∧ (Op.bytesLess l topD || l == topD) = true ∧ val l ≤ 9223372036854775807 ∧ numOk s = true) ∨
    (1 ≤ l.length ∧ l.length < 19 ∧ (l.length = 1 ∨ l.head? ≠ some 48) ∧ val l ≤ 9223372036854775807 ∧ numOk s = true) := by
  have hn : numOk s = (form l && decide (val l ≤ 9223372036854775807)) := by rw [hl]; rfl
  rw [hn]
  cases l with
  | nil => left; simp [form]
  | cons x r =>
    have hx := hd x (by simp)
    have hlt := val_lt _ hd
    by_cases hz : x = 48
    · by_cases h1 : r = []
      · subst h1 hz
        right; right; right; right; right
        refine ⟨by simp, by simp, .inl rfl, by decide, by decide⟩
      · right; left
        have hr : 0 < r.length := List.length_pos_iff.2 h1
        refine ⟨by rw [List.length_cons]; omega, by rw [hz]; rfl, ?_⟩
        have : form (x :: r) = false := by
          unfold form
          rw [hz]
          have : ¬ ((48 : UInt8) :: r).length = 1 := by rw [List.length_cons]; omega
          simp [h1]
        rw [this, Bool.false_and]
    · have hh : (x :: r).head? ≠ some 48 := by simpa using hz
      have hf : form (x :: r) = true := by unfold form; simp [hz]
      have hge := val_ge (l := r) hx hz
      rw [hf, Bool.true_and]
      rcases Nat.lt_trichotomy (x :: r).length 19 with h | h | h
      · right; right; right; right; right
        have h18 : (10 : Nat) ^ (x :: r).length ≤ 10 ^ 18 := Nat.pow_le_pow_right (by omega) (by omega)
        have hv : val (x :: r) ≤ 9223372036854775807 := by
          have : (10 : Nat) ^ 18 = 1000000000000000000 := by decide
          omega
        exact ⟨by rw [List.length_cons]; omega, h, .inr hh, hv, decide_eq_true hv⟩
      · have hv := less_val (x :: r) topD (by rw [h]; rfl) hd topD_dig
        rw [topD_val] at hv
        by_cases h2 : val (x :: r) ≤ 9223372036854775807
        · right; right; right; right; left
          exact ⟨h, hh, by rw [hv, decide_eq_true h2], h2, decide_eq_true h2⟩
        · right; right; right; left
          exact ⟨h, hh, by rw [hv, decide_eq_false h2], decide_eq_false h2⟩
      · right; right; left
        refine ⟨.inr hh, h, decide_eq_false ?_⟩
        have h19 : (10 : Nat) ^ 19 ≤ 10 ^ r.length := Nat.pow_le_pow_right (by omega) (by rw [List.length_cons] at h; omega)
        have : (10 : Nat) ^ 19 = 10000000000000000000 := by decide
        omega
end Jo
end Go.Proofs.YtileonenphmkkaaDoor
