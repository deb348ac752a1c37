/- Strings appended to a row of the call's own. -/
import Derived.Test.YtileonenphmkkaaDoorJobSplit
import Derived.Maps.AppendAt
import Derived.Maps.OwnIn
import Derived.Deep.RegionLaw
namespace Go.Proofs.YtileonenphmkkaaDoor
open Go.RowKit
set_option linter.unusedVariables false
set_option maxRecDepth 8000
namespace Jo
open Gen
structure BuiltS (w0 w : World) (v : Value) (ms : List (List UInt8)) : Prop where
  own : w.ownsRow w0.heap.size 9 1 v ms.length (ss ms)
  below : Below w0.heap.size w0 w
namespace BuiltS
variable {w0 a b : World} {v : Value} {ms : List (List UInt8)}
theorem far (h : BuiltS w0 a v ms) {q : Nat} (hq : v.ownBlock = some q) : w0.heap.size ≤ q ∧ q < a.heap.size := h.own.lt q hq
theorem up (h : BuiltS w0 a v ms) (hb : Below a.heap.size a b) : BuiltS w0 b v ms :=
  ⟨ownsRow_block h.own (fun k _ hlt => hb.block k hlt), below_next h.below hb⟩
theorem al (h : BuiltS w0 a v ms) (o : Obj) : BuiltS w0 (a.alloc o) v ms := h.up (below_al (Below.refl _ _))
theorem new (h : Below w0.heap.size w0 a) {n : Nat} (hn : n = a.heap.size) : BuiltS w0 (a.alloc (.cells #[] 9)) (.slice (some ⟨n, 0, none⟩) 0 0) [] :=
  hn ▸ ⟨own_new h.size, below_al h⟩
end BuiltS
theorem ss_ones (l : List (List UInt8)) : ∀ u ∈ ss l, u.oneCell' = true := by
  intro u hu
  obtain ⟨z, _, rfl⟩ := List.mem_map.1 hu
  rfl
theorem step_pushS {ops : Array Oper} {o : Oper} {a : Act} {w w0 : World} {K : Act → World → Prop} {Q : Exit → Act → World → Prop} {E : Prop}
    (hg : o.guard = none) (s x : Operand) (hop : o.op = Op.call { callee := Callee.builtin Builtin.append, args := #[s, x], argTypes := #[33, 33] })
    (v : Value) (ms : List (List UInt8)) (hs : a.eval s = v) (h : BuiltS w0 w v ms)
    (ad : Addr) (m c : Nat) (ys : List (List UInt8)) (hx : a.eval x = .slice (some ad) m c) (hm : ys.length = m) (hr : ∀ j u, (ss ys)[j]? = some u → w.cell? (ad.add j) = some u) (hlen : ms.length + m ≤ 100000)
    (hK : ∀ v' w', BuiltS w0 w' v' (ms ++ ys) → w.grownBy w' v.ownBlock → (v'.ownBlock = v.ownBlock ∨ v'.ownBlock = some w.heap.size) → K (a.put o.dst v') w') :
    if Region.wanted o (yielded ops a.tmps) = true then Oper.wp Tryd.prog o a w K Q else E := by
  have hw : Region.wanted o (yielded ops a.tmps) = true := by simp [Region.wanted, hg]
  rw [if_pos hw]
  obtain ⟨i0, hi0, hz0, hz1, hz2⟩ := info_parts str_info
  obtain ⟨v', w', hrun, r1, r2, r3, r4⟩ := run_append_own_at (P := Tryd.prog) w w0.heap.size 33 o.type 9 i0 _ 1 16 Tryd.underlying33 hi0 hz0 hz1 hz2 rfl (by omega) v ms.length (ss ms) h.own ad m c (ss ys) (by rw [List.length_map]; omega) hr (ss_ones ys) (by unfold maxLen; omega) (by omega) h.below.size
  unfold Oper.wp
  simp [execOp, hop, resolve, invoke, builtin, hs, hx, hrun, Result.andThen]
  exact hK v' w' ⟨by rw [List.length_append, hm, show ss (ms ++ ys) = ss ms ++ ss ys from List.map_append ..]; exact r1, h.below.grown r2 h.below.size fun q hq => (h.far hq).1⟩ r2 r4
/-- What a built row of some strings is. -/
theorem BuiltS.form {w0 w : World} {v : Value} {ms : List (List UInt8)} (h : BuiltS w0 w v ms) (h0 : ms ≠ []) : ∃ g c, v = .slice (some ⟨g, 0, none⟩) ms.length c ∧ ms.length ≤ c ∧ Flds w g ms ∧ w0.heap.size ≤ g ∧ g < w.heap.size := by
  obtain ⟨hl, ⟨rfl, e⟩ | ⟨g, cap, cur, rfl, hg, hh, hn, hm, hc, hx⟩⟩ := h.own
  · exact absurd (List.eq_nil_of_length_eq_zero e) h0
  · refine ⟨g, cap, rfl, hn, fun j u hu => ?_, hg, lt_of_block hh⟩
    have hu' : cur.toList[j]? = some (strv u) := by
      have h1 : (ss ms)[j]? = some (strv u) := by rw [List.getElem?_map, hu]; rfl
      rw [← hx, List.getElem?_take] at h1
      split at h1
      · exact h1
      · cases h1
    simpa [World.cell?, hh] using hu'
end Jo
end Go.Proofs.YtileonenphmkkaaDoor
