/- What the sort keeps between its rounds. -/
import Derived.Test.YtgpcbiballdioaaDoorSrtMath
namespace Go.Proofs.YtgpcbiballdioaaDoor
open Go.RowKit
set_option linter.unusedVariables false
namespace Srt
/-- All in place but what lies from a' to c'. -/
structure Mid (a c a' c' : Nat) (e : Fn) : Prop where
  lo : a ≤ a'
  mid : a' ≤ c'
  hi : c' ≤ c
  left : Sorted a a' e
  right : Sorted c' c e
  lm : ∀ i j, a ≤ i → i < a' → a' ≤ j → j < c → e i ≤ e j
  mr : ∀ i j, a ≤ i → i < c' → c' ≤ j → j < c → e i ≤ e j
  pv : ∀ k, 0 < a' → a' ≤ k → k < c' → e (a' - 1) ≤ e k
def Part (a c m : Nat) (f : Fn) : Prop := (∀ k, a ≤ k → k < m → f k ≤ f m) ∧ (∀ k, m < k → k < c → f m ≤ f k)
namespace Mid
variable {a c a' c' m : Nat} {e f : Fn}
theorem start (h : a ≤ c) (hp : ∀ k, 0 < a → a ≤ k → k < c → e (a - 1) ≤ e k) : Mid a c a c e :=
  ⟨Nat.le_refl _, h, Nat.le_refl _, fun i j h1 h2 h3 => by omega, fun i j h1 h2 h3 => by omega, fun i j h1 h2 h3 h4 => by omega, fun i j h1 h2 h3 h4 => by omega, hp⟩
theorem sw (h : Mid a c a' c' e) (s : Sw a' c' e f) : Mid a c a' c' f := by
  have out : ∀ k, k < a' ∨ c' ≤ k → f k = e k := fun k hk => s.out hk
  have l1 := h.lo; have l2 := h.mid; have l3 := h.hi
  refine ⟨l1, l2, l3, fun i j h1 h2 h3 => ?_, fun i j h1 h2 h3 => ?_, fun i j h1 h2 h3 h4 => ?_, fun i j h1 h2 h3 h4 => ?_, fun k h1 h2 h3 => ?_⟩
  · rw [out i (.inl (by omega)), out j (.inl (by omega))]; exact h.left i j h1 h2 h3
  · rw [out i (.inr (by omega)), out j (.inr (by omega))]; exact h.right i j h1 h2 h3
  · rw [out i (.inl (by omega))]
    by_cases hj : j < c'
    · exact s.all (P := fun v => e i ≤ v) (fun k k1 k2 => h.lm i k h1 h2 k1 (by omega)) j h3 hj
    · rw [out j (.inr (by omega))]; exact h.lm i j h1 h2 h3 h4
  · rw [out j (.inr (by omega))]
    by_cases hi : i < a'
    · rw [out i (.inl hi)]; exact h.mr i j h1 h2 h3 h4
    · exact s.all (P := fun v => v ≤ e j) (fun k k1 k2 => h.mr k j (by omega) k2 h3 h4) i (by omega) h2
  · rw [out (a' - 1) (.inl (by omega))]
    exact s.all (P := fun v => e (a' - 1) ≤ v) (fun k k1 k2 => h.pv k h1 k1 k2) k h2 h3
theorem done (h : Mid a c a' c' e) (hs : Sorted a' c' e) : Sorted a c e := by
  have l1 := h.lo; have l2 := h.mid; have l3 := h.hi
  intro p q h1 h2 h3
  by_cases p1 : p < a'
  · by_cases q1 : q < a'
    · exact h.left p q h1 h2 q1
    · exact h.lm p q h1 p1 (by omega) h3
  · by_cases p2 : p < c'
    · by_cases q2 : q < c'
      · exact hs p q (by omega) h2 q2
      · exact h.mr p q h1 p2 (by omega) h3
    · exact h.right p q (by omega) h2 h3
/-- Parted by what is equal to the one ahead. -/
theorem eq (h : Mid a c a' c' e) {q : Int} (h0 : 0 < a') (hq : ¬ e (a' - 1) < q) (s : Sw a' c' e f) (hm : a' < m) (hc : m ≤ c') (hl : ∀ k, a' ≤ k → k < m → f k ≤ q) (hr : ∀ k, m ≤ k → k < c' → q < f k) : Mid a c m c' f := by
  have g := h.sw s
  have l1 := h.lo; have l2 := h.mid; have l3 := h.hi
  have e1 : f (a' - 1) = e (a' - 1) := s.out (.inl (by omega))
  have hqq : ∀ k, a' ≤ k → k < m → f k = q := fun k k1 k2 => by
    have h1 := g.pv k h0 k1 (by omega)
    have h2 := hl k k1 k2
    omega
  refine ⟨by omega, hc, l3, fun i j h1 h2 h3 => ?_, g.right, fun i j h1 h2 h3 h4 => ?_, fun i j h1 h2 h3 h4 => g.mr i j h1 h2 h3 h4, fun k h1 h2 h3 => ?_⟩
  · by_cases i1 : i < a'
    · by_cases j1 : j < a'
      · exact g.left i j h1 h2 j1
      · exact g.lm i j h1 i1 (by omega) (by omega)
    · rw [hqq i (by omega) (by omega), hqq j (by omega) h3]; exact Int.le_refl _
  · by_cases i1 : i < a'
    · exact g.lm i j h1 i1 (by omega) h4
    · by_cases j1 : j < c'
      · rw [hqq i (by omega) h2]; have := hr j h3 j1; omega
      · exact g.mr i j h1 (by omega) (by omega) h4
  · rw [hqq (m - 1) (by omega) (by omega)]; have := hr k h2 h3; omega
theorem cutL (h : Mid a c a' c' f) (hp : Part a' c' m f) (h1 : a' ≤ m) (h2 : m < c') (hs : Sorted a' m f) : Mid a c (m + 1) c' f := by
  have l1 := h.lo; have l2 := h.mid; have l3 := h.hi
  refine ⟨by omega, h2, l3, fun i j i1 i2 i3 => ?_, h.right, fun i j i1 i2 i3 i4 => ?_, fun i j i1 i2 i3 i4 => h.mr i j i1 i2 i3 i4, fun k k1 k2 k3 => ?_⟩
  · by_cases e1 : i < a'
    · by_cases e2 : j < a'
      · exact h.left i j i1 i2 e2
      · exact h.lm i j i1 e1 (by omega) (by omega)
    · by_cases e2 : j < m
      · exact hs i j (by omega) i2 e2
      · have e3 : j = m := by omega
        subst e3
        by_cases e4 : i = j
        · rw [e4]; exact Int.le_refl _
        · exact hp.1 i (by omega) (by omega)
  · by_cases e1 : i < a'
    · exact h.lm i j i1 e1 (by omega) i4
    · by_cases e2 : j < c'
      · have h3 := hp.2 j (by omega) e2
        by_cases e4 : i = m
        · rw [e4]; exact h3
        · have := hp.1 i (by omega) (by omega); omega
      · exact h.mr i j i1 (by omega) (by omega) i4
  · have e1 : m + 1 - 1 = m := by omega
    rw [e1]; exact hp.2 k (by omega) k3
theorem cutR (h : Mid a c a' c' f) (hp : Part a' c' m f) (h1 : a' ≤ m) (h2 : m < c') (hs : Sorted (m + 1) c' f) : Mid a c a' m f := by
  have l1 := h.lo; have l2 := h.mid; have l3 := h.hi
  refine ⟨l1, h1, by omega, h.left, fun i j i1 i2 i3 => ?_, fun i j i1 i2 i3 i4 => h.lm i j i1 i2 i3 i4, fun i j i1 i2 i3 i4 => ?_, fun k k1 k2 k3 => h.pv k k1 k2 (by omega)⟩
  · by_cases e1 : j < c'
    · by_cases e4 : i = m
      · by_cases e5 : j = m
        · rw [e4, e5]; exact Int.le_refl _
        · rw [e4]; exact hp.2 j (by omega) e1
      · exact hs i j (by omega) i2 e1
    · by_cases e2 : i < c'
      · exact h.mr i j (by omega) e2 (by omega) i3
      · exact h.right i j (by omega) i2 i3
  · by_cases e1 : i < a'
    · exact h.lm i j i1 e1 (by omega) i4
    · by_cases e2 : j < c'
      · have h3 := hp.1 i (by omega) i2
        by_cases e4 : j = m
        · rw [e4]; exact h3
        · have := hp.2 j (by omega) e2; omega
      · exact h.mr i j i1 (by omega) (by omega) i4
end Mid
theorem Part.swL {a c m : Nat} {f g : Fn} (h : Part a c m f) (s : Sw a m f g) : Part a c m g := by
  refine ⟨fun k h1 h2 => ?_, fun k h1 h2 => ?_⟩
  · rw [s.out (k := m) (.inr (Nat.le_refl _))]
    exact s.all (P := fun v => v ≤ f m) (fun k k1 k2 => h.1 k k1 k2) k h1 h2
  · rw [s.out (k := m) (.inr (Nat.le_refl _)), s.out (k := k) (.inr (by omega))]; exact h.2 k h1 h2
theorem Part.swR {a c m : Nat} {f g : Fn} (h : Part a c m f) (s : Sw (m + 1) c f g) : Part a c m g := by
  refine ⟨fun k h1 h2 => ?_, fun k h1 h2 => ?_⟩
  · rw [s.out (k := m) (.inl (by omega)), s.out (k := k) (.inl (by omega))]; exact h.1 k h1 h2
  · rw [s.out (k := m) (.inl (by omega))]
    exact s.all (P := fun v => f m ≤ v) (fun k k1 k2 => h.2 k (by omega) k2) k (by omega) h2
end Srt
end Go.Proofs.YtgpcbiballdioaaDoor
