/- Moves of the reference. -/
import Derived.Test.YtgpcbiballdioaaDoorRingMovesR
import Derived.Test.YtgpcbiballdioaaDoorWide1
import Derived.Test.YtgpcbiballdioaaDoorHold
import Derived.Maps.AppendAt
namespace Go.Proofs.YtgpcbiballdioaaDoor
open Go.RowKit
set_option linter.unusedVariables false
set_option maxRecDepth 8000
namespace Rg
theorem al_belowM (w : World) (o : Obj) : Below w.heap.size w (w.alloc o) := below_al (Below.refl _ _)
theorem own_upM {w w' : World} {B size n : Nat} {e : TypeId} {v : Value} {xs : List Value} (h : w.ownsRow B e size v n xs) (hb : Below w.heap.size w w') : w'.ownsRow B e size v n xs := by
  obtain ⟨hl, ⟨rfl, rfl⟩ | ⟨g, cap, cur, rfl, hg, hh, hn, hm, hc, hx⟩⟩ := h
  · exact ⟨hl, .inl ⟨rfl, rfl⟩⟩
  · exact ⟨hl, .inr ⟨g, cap, cur, rfl, hg, (hb.block g (Array.getElem?_eq_some_iff.1 hh).1).trans hh, hn, hm, hc, hx⟩⟩
theorem movesFrom_len : ∀ (g : Nat) (l m : List Int), (movesFrom g l m).length ≤ l.length ∧ (movesFrom g l m).length ≤ m.length
  | _, [], m => by cases m <;> simp [movesFrom]
  | _, _ :: _, [] => by simp [movesFrom]
  | g, x :: l, y :: m => by
    have ih := movesFrom_len (g + 1) l m
    simp only [movesFrom, List.length_cons]
    split
    · omega
    · simp only [List.length_cons]; omega
theorem moves_len (l m : List Int) : (moves l m).length ≤ l.length ∧ (moves l m).length ≤ m.length := movesFrom_len 0 l m
theorem moves_take_len (l m : List Int) (k : Nat) : (moves (l.take k) (m.take k)).length ≤ l.length ∧ (moves (l.take k) (m.take k)).length ≤ m.length ∧ (moves (l.take k) (m.take k)).length ≤ k := by
  have h := moves_len (l.take k) (m.take k)
  simp only [List.length_take] at h
  omega
theorem moves_skip {l m : List Int} {k : Nat} (h : m.length ≤ k) : moves (l.take (k + 1)) (m.take (k + 1)) = moves (l.take k) (m.take k) := by
  rw [moves_end (.inr (by omega)), moves_end (.inr h)]
theorem mvInfo : (Tryd.prog.info? 34).map (fun i => (i.zero, i.size, i.bytes)) = some (some (.agg #[.int .i64 0, .int .i64 0, .int .i64 0]), 3, 24) := by kernel_rfl
def GivesMv (xs : List Mv) (w : World) (e : Ending) (w' : World) : Prop :=
  ∃ A c, e = .returned (.slice A xs.length c) ∧ xs.length ≤ c ∧ c ≤ maxLen ∧ Row w' A (mc xs) ∧ Below w.heap.size w w'
structure BuiltM (w0 w : World) (v : Value) (ms : List Mv) : Prop where
  own : w.ownsRow w0.heap.size 34 3 v ms.length (mc ms)
  below : Below w0.heap.size w0 w
namespace BuiltM
variable {w0 a b : World} {v : Value} {ms : List Mv}
theorem far (h : BuiltM w0 a v ms) {q : Nat} (hq : v.ownBlock = some q) : w0.heap.size ≤ q ∧ q < a.heap.size := h.own.lt q hq
theorem up (h : BuiltM w0 a v ms) (hb : Below a.heap.size a b) : BuiltM w0 b v ms := ⟨own_upM h.own hb, below_next h.below hb⟩
theorem drew (h : BuiltM w0 a v ms) : BuiltM w0 a.drew v ms := ⟨h.own.drew, below_drewOf h.below⟩
theorem drewN (h : BuiltM w0 a v ms) (n : Nat) : BuiltM w0 (a.drewN n) v ms := h.up (below_drewN (Below.refl _ _))
theorem gives (h : BuiltM w0 a v ms) : GivesMv ms w0 (.returned v) a := by
  obtain ⟨A, c, rfl, h1, h2, _, h3, _⟩ := own_form h.own (by omega)
  exact ⟨A, c, rfl, h1, h2, h3, h.below⟩
end BuiltM
theorem wpPushM {ops : Array Oper} {rest : List Oper} {o : Oper} {a : Act} {Q : Exit → Act → World → Prop} {w0 w : World} (hgd : o.guard = none) (s x : Operand)
    (ho : o.op = .call { callee := .builtin .append, args := #[s, x], argTypes := #[31, 31] }) (v : Value) (ms : List Mv) (hs : a.eval s = v) (h : BuiltM w0 w v ms)
    (ad : Addr) (m c : Nat) (ys : List Mv) (hx : a.eval x = .slice (some ad) m c) (hr : Row w (some ad) (mc ys)) (hm : m = ys.length) (hlen : (ms.length + ys.length) * 24 ≤ 140737488355328)
    (hk : ∀ v' w', BuiltM w0 w' v' (ms ++ ys) → w.grownBy w' v.ownBlock → wpList Tryd.prog ops Q rest (a.put o.dst v') w') :
    wpList Tryd.prog ops Q (o :: rest) a w := by
  subst hm
  obtain ⟨i0, hi0, hz0, hz1, hz2⟩ := info_parts mvInfo
  have hcells : ∀ j u, (mc ys)[j]? = some u → w.cell? (ad.add j) = some u := by
    rcases hr with hr | ⟨b, off, hr, hc⟩
    · rw [hr]; intro j u hu; simp at hu
    · cases hr
      intro j u hu
      rw [Go.WideShapes.add_plain]
      exact hc j u hu
  refine wpList_append_own_at w hgd s x 31 ho w0.heap.size 34 i0 _ 3 24 Tryd.underlying31 hi0 hz0 hz1 hz2 rfl (by omega) v ms.length (mc ms) hs h.own ad ys.length c (mc ys) hx (mc_len ys) hcells (mc_ones ys)
    (by unfold maxLen; omega) (by omega) h.below.size ?_
  intro v' w' hown hg _ hat
  exact hk v' w' ⟨by rw [List.length_append, mc_app]; exact hown, h.below.grown hg h.below.size fun q hq => (h.far hq).1⟩ hg
theorem one_mv (w : World) (x : Mv) : Row (w.alloc (.cells (mC x) 34)) (some ⟨w.heap.size, 0, none⟩) (mc [x]) := by
  refine .inr ⟨w.heap.size, 0, rfl, fun j u hu => ?_⟩
  rw [mc_one] at hu
  rw [Nat.zero_add]
  refine (Lies.new w (mC x) 34).cell ?_
  rw [← hu]
  simp [mL]
end Rg
end Go.Proofs.YtgpcbiballdioaaDoor
