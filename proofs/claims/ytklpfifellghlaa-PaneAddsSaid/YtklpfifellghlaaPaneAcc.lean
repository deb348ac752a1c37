/- A row of panes that the call builds: appended to, among boxes that stay. -/
import Derived.Test.YtklpfifellghlaaPaneDue
import Derived.Maps.AppendAt
namespace Go.Proofs.Ytklpfifellghlaa
open Go.RowKit
open Pan
set_option linter.unusedVariables false
/-- What is being built, since the world w0. -/
structure Built (w0 w : World) (v : Value) (ms : List Pn) : Prop where
  own : w.ownsRow w0.heap.size 52 6 v ms.length (pc ms)
  below : Below w0.heap.size w0 w
namespace Built
variable {w0 a b : World} {v : Value} {ms : List Pn}
theorem far (h : Built w0 a v ms) {q : Nat} (hq : v.ownBlock = some q) : w0.heap.size ≤ q ∧ q < a.heap.size := h.own.lt q hq
theorem up (h : Built w0 a v ms) (hb : Below a.heap.size a b) : Built w0 b v ms := ⟨own_up h.own hb, below_next h.below hb⟩
theorem drew (h : Built w0 a v ms) : Built w0 a.drew v ms := ⟨h.own.drew, below_drewOf h.below⟩
theorem set (h : Built w0 a v ms) {k o : Nat} (hk : v.ownBlock ≠ some k) (hw : w0.heap.size ≤ k) (u : Value) : Built w0 (a.setCell ⟨k, o, none⟩ u) v ms := by
  refine ⟨?_, h.below.setCell (p := ⟨k, o, none⟩) hw u⟩
  obtain ⟨hl, ⟨rfl, hx⟩ | ⟨g, cap, cur, rfl, hg, hh, rest⟩⟩ := h.own
  · exact ⟨hl, .inl ⟨rfl, hx⟩⟩
  · refine ⟨hl, .inr ⟨g, cap, cur, rfl, hg, ?_, rest⟩⟩
    have hne : g ≠ k := fun e => hk (by subst e; rfl)
    rw [← hh]
    exact Below.heap_setCell a ⟨k, o, none⟩ u g hne
theorem none_ (w : World) : Built w w (.slice none 0 0) [] := ⟨own_none, Below.refl _ _⟩
theorem gives (h : Built w0 a v ms) : GivesP ms w0 (.returned v) a := own_givesP h.own rfl h.below
end Built
/-- An append to it. -/
theorem wpPush {ops : Array Oper} {rest : List Oper} {o : Oper} {a : Act} {Q : Exit → Act → World → Prop} {w0 w : World} (hgd : o.guard = none) (s x : Operand)
    (ho : o.op = .call { callee := .builtin .append, args := #[s, x], argTypes := #[22, 22] }) (v : Value) (ms : List Pn) (hs : a.eval s = v) (h : Built w0 w v ms)
    (A : Option Addr) (m c : Nat) (ys : List Pn) (hx : a.eval x = .slice A m c) (hr : Row w A (pc ys)) (hm : m = ys.length) (hlen : ms.length + ys.length ≤ 100000)
    (hk : ∀ v' w', Built w0 w' v' (ms ++ ys) → w.grownBy w' v.ownBlock → (v'.ownBlock = v.ownBlock ∨ v'.ownBlock = some w.heap.size) → wpList Try.prog ops Q rest (a.put o.dst v') w') :
    wpList Try.prog ops Q (o :: rest) a w := by
  subst hm
  obtain ⟨i0, hi0, hz0, hz1, hz2⟩ := info_parts paInfo
  rcases A with _ | ad
  · have hn : ys = [] := by
      rcases hr with hr | ⟨_, _, hr, _⟩
      · have := pc_len ys; rw [hr] at this; exact List.eq_nil_of_length_eq_zero (by simp at this; omega)
      · cases hr
    subst hn
    have hrun : (Builtin.append_ #[22, 22] o.type #[v, .slice none 0 c]).run Try.prog w = .ok v w := by
      rcases h.own.2 with ⟨rfl, _⟩ | ⟨g, cap, cur, rfl, _, _, hnc, _⟩
      · simp [Builtin.append_, run_underlying Try.underlying22, sizeOf, typeInfo, hi0, Builtin.lenOf, Builtin.firstCells]
      · simp [Builtin.append_, run_underlying Try.underlying22, sizeOf, typeInfo, hi0, Builtin.lenOf, Builtin.firstCells, hnc, storeCells]
    refine wpList_plain hgd fun K hK => ?_
    unfold Oper.wp
    simp only [execOp, ho, resolve, invoke, builtin, Sem.run_bind, Sem.run_pure, Result.andThen_ok, List.map_toArray, List.map_cons, List.map_nil, hs, hx, hrun, List.length_nil]
    exact hK _ _ (hk v w (by simpa using h) (World.grownBy.refl _ _) (.inl rfl))
  · have hcells : ∀ j u, (pc ys)[j]? = some u → w.cell? (ad.add j) = some u := by
      rcases hr with hr | ⟨b, off, hr, hc⟩
      · rw [hr]; intro j u hu; simp at hu
      · cases hr
        intro j u hu
        rw [Go.WideShapes.add_plain]
        exact hc j u hu
    refine wpList_append_own_at w hgd s x 22 ho w0.heap.size 52 i0 _ 6 56 Try.underlying22 hi0 hz0 hz1 hz2 rfl (by omega) v ms.length (pc ms) hs h.own ad ys.length c (pc ys) hx (pc_len ys) hcells (pc_ones ys)
      (by unfold maxLen; omega) (by omega) h.below.size ?_
    intro v' w' hown hg _ hat
    refine hk v' w' ⟨by rw [List.length_append, pc_app]; exact hown, h.below.grown hg h.below.size fun q hq => (h.far hq).1⟩ hg hat
/-- A box that stays. -/
theorem lies_grown {w w' : World} {row : Option Nat} {b : Nat} {C : Array Value} {T : TypeId} (h : Lies b C T w) (hg : w.grownBy w' row) (hne : row ≠ some b) : Lies b C T w' :=
  (hg.block b (lt_of_block h) (fun e => hne e.symm)).trans h
theorem one_row (w : World) (x : Pn) : Row (w.alloc (.cells (paC x) 52)) (some ⟨w.heap.size, 0, none⟩) (pc [x]) := by
  refine .inr ⟨w.heap.size, 0, rfl, fun j u hu => ?_⟩
  rw [pc_one] at hu
  rw [Nat.zero_add]
  refine (Lies.new w (paC x) 52).cell ?_
  rw [← hu]
  unfold pL paC
  simp
end Go.Proofs.Ytklpfifellghlaa
