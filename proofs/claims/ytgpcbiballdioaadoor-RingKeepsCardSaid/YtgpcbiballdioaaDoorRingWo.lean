/- The law's workers but one. -/
import Derived.Test.YtgpcbiballdioaaDoorRingKeep
import Derived.Maps.AppendAt
import Derived.Maps.OwnIn
import Derived.Deep.RegionLaw
import Derived.Test.YtgpcbiballdioaaDoorHold
namespace Go.Proofs.YtgpcbiballdioaaDoor
open Go.RowKit
set_option linter.unusedVariables false
set_option maxRecDepth 8000
namespace Rg
structure BuiltI (w0 w : World) (v : Value) (ms : List Int) : Prop where
  own : w.ownsRow w0.heap.size 3 1 v ms.length (iv ms)
  below : Below w0.heap.size w0 w
namespace BuiltI
variable {w0 a b : World} {v : Value} {ms : List Int}
theorem far (h : BuiltI w0 a v ms) {q : Nat} (hq : v.ownBlock = some q) : w0.heap.size ≤ q ∧ q < a.heap.size := h.own.lt q hq
theorem up (h : BuiltI w0 a v ms) (hb : Below a.heap.size a b) : BuiltI w0 b v ms := ⟨own_up h.own hb, below_next h.below hb⟩
end BuiltI
theorem step_pushI {ops : Array Oper} {o : Oper} {a : Act} {w w0 : World} {K : Act → World → Prop} {Q : Exit → Act → World → Prop} {E : Prop}
    (hg : o.guard = none) (s x : Operand) (hop : o.op = Op.call { callee := Callee.builtin Builtin.append, args := #[s, x], argTypes := #[22, 22] })
    (v : Value) (ms : List Int) (hs : a.eval s = v) (h : BuiltI w0 w v ms)
    (ad : Addr) (m c : Nat) (ys : List Int) (hx : a.eval x = .slice (some ad) m c) (hm : ys.length = m) (hr : ∀ j u, (iv ys)[j]? = some u → w.cell? (ad.add j) = some u) (hlen : ms.length + m ≤ 100000)
    (hK : ∀ v' w', BuiltI w0 w' v' (ms ++ ys) → K (a.put o.dst v') w') :
    if Region.wanted o (yielded ops a.tmps) = true then Oper.wp Tryd.prog o a w K Q else E := by
  have hw : Region.wanted o (yielded ops a.tmps) = true := by simp [Region.wanted, hg]
  rw [if_pos hw]
  obtain ⟨i0, hi0, hz0, hz1, hz2⟩ := info_parts intInfo
  obtain ⟨v', w', hrun, r1, r2, r3, r4⟩ := run_append_own_at (P := Tryd.prog) w w0.heap.size 22 o.type 3 i0 _ 1 8 Tryd.underlying22 hi0 hz0 hz1 hz2 rfl (by omega) v ms.length (iv ms) h.own ad m c (iv ys) (by rw [iv_len]; omega) hr (iv_ones ys) (by unfold maxLen; omega) (by omega) h.below.size
  unfold Oper.wp
  simp [execOp, hop, resolve, invoke, builtin, hs, hx, hrun, Result.andThen]
  exact hK v' w' ⟨by rw [List.length_append, hm, iv_app]; exact r1, h.below.grown r2 h.below.size fun q hq => (h.far hq).1⟩
theorem row_cells {w : World} {b off : Nat} {l : List Int} (h : Row w (some ⟨b, off, none⟩) (iv l)) {j : Nat} {u : Value} (hu : (iv l)[j]? = some u) : w.cell? ⟨b, off + j, none⟩ = some u := by
  rcases h with h | ⟨b', off', h1, h2⟩
  · rw [h] at hu; simp at hu
  · cases h1; exact h2 j u hu
theorem iv_take (l : List Int) (k : Nat) : iv (l.take k) = (iv l).take k := List.map_take ..
theorem iv_drop (l : List Int) (k : Nat) : iv (l.drop k) = (iv l).drop k := List.map_drop ..
set_option maxRecDepth 100000 in
set_option maxHeartbeats 4000000 in
theorem lawWithout (l : List Int) (k : Nat) (b off : Nat) (c : Nat) (w : World) (hA : Row w (some ⟨b, off, none⟩) (iv l)) (hl : l.length ≤ 8) (hk : k < l.length) (hc : l.length ≤ c) (hcm : c ≤ maxLen) :
    Calls Tryd.prog 12 #[.slice (some ⟨b, off, none⟩) l.length c, .int .i64 k] w fun e w' => ∃ D d, e = .returned (.slice D (l.eraseIdx k).length d) ∧ Row w' D (iv (l.eraseIdx k)) ∧ Below w.heap.size w w' := by
  have B0 := Lib.hid (show BuiltI w (w.drew.alloc (.cells #[] 3)) (.slice (some ⟨w.drew.heap.size, 0, none⟩) 0 0) [] from ⟨own_new (Nat.le_refl _), below_al (below_drewOf (Below.refl _ _))⟩)
  have C0 := Lib.hid (show ∀ j u, (iv (l.take k))[j]? = some u → (w.drew.alloc (.cells #[] 3)).cell? ((⟨b, off, none⟩ : Addr).add j) = some u from fun j u hu => by
    rw [Go.WideShapes.add_plain]
    rw [iv_take, List.getElem?_take] at hu
    split at hu
    · exact row_cells (hA.below (below_al (below_drewOf (Below.refl _ _)))) hu
    · cases hu)
  have hway : (c = k + 1 ∧ l.length = k + 1) ∨ (¬ c = k + 1 ∧ k + 1 ≤ c) := by omega
  have D1 := Lib.hid (show ∀ (w1 : World), Below w.heap.size w w1 → ∀ j u, (iv (l.drop (k + 1)))[j]? = some u → w1.cell? ((⟨b, off + (k + 1), none⟩ : Addr).add j) = some u from fun w1 hb j u hu => by
    rw [Go.WideShapes.add_plain]
    rw [iv_drop, List.getElem?_drop] at hu
    have := row_cells (hA.below hb) hu
    rwa [← Nat.add_assoc] at this)
  have HE := Lib.hid (show l.eraseIdx k = l.take k ++ l.drop (k + 1) from List.eraseIdx_eq_take_drop_succ ..)
  obtain ⟨n, hn⟩ : ∃ n, n = l.length := ⟨_, rfl⟩
  have L1 := Lib.hid (show (l.take k).length = k by rw [List.length_take]; omega)
  have L2 := Lib.hid (show (l.drop (k + 1)).length = n - (k + 1) by rw [List.length_drop, hn])
  rw [← hn] at hl hk hc hway ⊢
  have HN := Lib.hid hn
  have t1 : k ≤ c := by omega
  have t2 : k + 1 ≤ n := by omega
  have t3 : (k : Int) + 1 ≤ (n : Int) := by omega
  have t4 : (k : Int) ≤ (c : Int) := by omega
  have t5 : (0 : Int) ≤ (k : Int) := by omega
  have t6 : (0 : Int) ≤ (k : Int) + 1 := by omega
  have t7 : IntKind.i64.wrap ((k : Int) + 1) = (k : Int) + 1 := wrap64_in (by omega) (by omega)
  have t8 : ((k : Int) + 1).toNat = k + 1 := by omega
  have t9 : (n : Int) ≤ (c : Int) := by omega
  clear hA hn
  rcases hway with ⟨h1, h2⟩ | ⟨h1, h2⟩
  · have L3 := Lib.hid (show l.drop (k + 1) = [] from List.drop_of_length_le (by rw [← HN.out]; omega))
    subst h1
    subst h2
    have t10 : (k : Int) ≤ ((k + 1 : Nat) : Int) := by omega
    have t11 : (k : Int) ≤ (k : Int) + 1 := by omega
    have t12 : ¬ k + 1 = k := by omega
    have t13 : (k : Int).toNat = k := by omega
    go_enter Tryd.func12, Tryd.ntmps12
    go_wp2_with fail
    go_region_law (first | (refine step_pushI rfl (.tmp 5) (.tmp 8) rfl _ [] (by simp [Act.eval]) B0.out ⟨b, off, none⟩ k (k + 1) (l.take k) (by simp [Act.eval]) L1.out C0.out (by simp; omega) ?_; intro v1 w1 b1; have B1 := Lib.hid b1; clear b1) | (refine step_pushI rfl (.tmp 9) (.tmp 13) rfl _ _ (by simp [Act.eval]) B1.out ⟨b, off, none⟩ 0 0 [] (by simp [Act.eval]) rfl (by intro j u hu; simp at hu) (by simp; omega) ?_; intro v2 w2 b2; have B2 := Lib.hid b2; clear b2))
    all_goals
      obtain ⟨D, dd, hv, q1, q2, q3, q4, q5⟩ := own_form B2.out.own (by omega)
      subst hv
      have HF := Lib.hid (show [] ++ l.take k ++ [] = l.eraseIdx k by rw [HE.out, L3.out, List.nil_append])
      go_wp2_with fail
      go_ret
      exact ⟨D, dd, by rw [← HF.out]; rfl, by rw [← HF.out]; exact q4, B2.out.below⟩
  · go_enter Tryd.func12, Tryd.ntmps12
    go_wp2_with fail
    go_region_law (first | (refine step_pushI rfl (.tmp 5) (.tmp 8) rfl _ [] (by simp [Act.eval]) B0.out ⟨b, off, none⟩ k c (l.take k) (by simp [Act.eval]) L1.out C0.out (by simp; omega) ?_; intro v1 w1 b1; have B1 := Lib.hid b1; clear b1) | (refine step_pushI rfl (.tmp 9) (.tmp 13) rfl _ _ (by simp [Act.eval]) B1.out ⟨b, off + (k + 1), none⟩ (n - (k + 1)) (c - (k + 1)) (l.drop (k + 1)) (by simp [Act.eval]) L2.out (D1.out _ B1.out.below) (by simp; omega) ?_; intro v2 w2 b2; have B2 := Lib.hid b2; clear b2))
    all_goals
      obtain ⟨D, dd, hv, q1, q2, q3, q4, q5⟩ := own_form B2.out.own (by omega)
      subst hv
      have HF := Lib.hid (show [] ++ l.take k ++ l.drop (k + 1) = l.eraseIdx k by rw [HE.out, List.nil_append])
      go_wp2_with fail
      go_ret
      exact ⟨D, dd, by rw [← HF.out]; rfl, by rw [← HF.out]; exact q4, B2.out.below⟩
end Rg
end Go.Proofs.YtgpcbiballdioaaDoor
