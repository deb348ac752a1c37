/- Like and Moves of the reference. -/
import Derived.Test.YtgpcbiballdioaaDoorRingRightR
import Derived.Laws.StructEq
import Derived.Test.YtgpcbiballdioaaDoorWide
namespace Go.Proofs.YtgpcbiballdioaaDoor
open Go.RowKit
set_option linter.unusedVariables false
set_option maxRecDepth 8000
namespace Rg
def mL (x : Mv) : List Value := [.int .i64 x.g, .int .i64 x.src, .int .i64 x.to]
abbrev mC (x : Mv) : Array Value := #[.int .i64 x.g, .int .i64 x.src, .int .i64 x.to]
abbrev mV (x : Mv) : Value := .agg #[.int .i64 x.g, .int .i64 x.src, .int .i64 x.to]
def mc (l : List Mv) : List Value := l.flatMap mL
theorem mc_len (l : List Mv) : (mc l).length = l.length * 3 := by
  unfold mc
  induction l with
  | nil => rfl
  | cons x r ih => rw [List.flatMap_cons, List.length_append, ih, List.length_cons]; show 3 + _ = _; omega
theorem mc_app (a b : List Mv) : mc (a ++ b) = mc a ++ mc b := by simp [mc]
theorem mc_one (x : Mv) : mc [x] = mL x := by simp [mc]
theorem mc_ones (l : List Mv) : ∀ u ∈ mc l, u.oneCell' = true := by
  intro u hu
  obtain ⟨p, _, hp⟩ := List.mem_flatMap.1 hu
  simp only [mL, List.mem_cons, List.not_mem_nil, or_false] at hp
  rcases hp with rfl | rfl | rfl <;> rfl
theorem mc_get : ∀ {l : List Mv} {i j : Nat} {x : Mv}, l[i]? = some x → j < 3 → (mc l)[i * 3 + j]? = (mL x)[j]?
  | [], _, _, _, h, _ => by simp at h
  | y :: r, 0, j, x, h, hj => by
    simp only [List.getElem?_cons_zero, Option.some.injEq] at h
    subst h
    show (mL y ++ mc r)[0 * 3 + j]? = _
    rw [Nat.zero_mul, Nat.zero_add, List.getElem?_append_left (by show j < 3; exact hj)]
  | y :: r, i + 1, j, x, h, hj => by
    rw [List.getElem?_cons_succ] at h
    show (mL y ++ mc r)[(i + 1) * 3 + j]? = _
    rw [List.getElem?_append_right (by show 3 ≤ _; omega), show (i + 1) * 3 + j - (mL y).length = i * 3 + j by show (i + 1) * 3 + j - 3 = _; omega]
    exact mc_get h hj
theorem row_mv {w : World} {A : Option Addr} {l : List Mv} (h : Row w A (mc l)) {k : Nat} {x : Mv} (hk : l[k]? = some x) :
    ∃ b off, A = some ⟨b, off, none⟩ ∧ w.cell? ⟨b, off + k * 3, none⟩ = some (.int .i64 x.g) ∧ w.cell? ⟨b, off + k * 3 + 1, none⟩ = some (.int .i64 x.src) ∧ w.cell? ⟨b, off + k * 3 + 2, none⟩ = some (.int .i64 x.to) := by
  have g0 := mc_get hk (j := 0) (by omega); have g1 := mc_get hk (j := 1) (by omega); have g2 := mc_get hk (j := 2) (by omega)
  rcases h with h | ⟨b, off, rfl, h⟩
  · rw [h] at g0; simp [mL] at g0
  · refine ⟨b, off, rfl, ?_, ?_, ?_⟩
    · exact h _ _ g0
    · rw [Nat.add_assoc]; exact h _ _ g1
    · rw [Nat.add_assoc]; exact h _ _ g2
theorem fields_mv : Tryd.prog.underlying 34 = some (.struct (Tryd.prog.fieldsOf 34)) := by kernel_rfl
theorem stood_mv : Tryd.prog.stoodInHeld 34 = false := by kernel_rfl
theorem run_sameMv (x : Mv) (w : World) : (binOp .neq 34 (mV x) (mV x)).run Tryd.prog w = .ok (.bool false) w := by
  have h1 := Tryd.underlying3
  rw [run_neq_struct, show (10000 : Nat) = 9999 + 1 from rfl, run_equalIn_agg w _ _ _ _ fields_mv stood_mv]
  simp [Program.fieldsOf, Tryd.underlying34, Op.eqFields, part, isAgg, run_underlying h1, run_equalIn_int w 9998 _ .i64 .i64 _ _ h1]
end Rg
end Go.Proofs.YtgpcbiballdioaaDoor
