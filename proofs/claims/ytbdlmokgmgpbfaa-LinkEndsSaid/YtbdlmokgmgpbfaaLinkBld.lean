/- Rows of strings, rows of packets, being put together. -/
import Derived.Test.YtbdlmokgmgpbfaaLinkLike
import Derived.Maps.AppendAt
namespace Go.Proofs.Ytbdlmokgmgpbfaa
open Go.ChangeShapes Go.WideShapes Go.ChangeAt Go.RowKit
set_option linter.unusedVariables false
set_option maxRecDepth 8000
namespace Lk
open Gen (TellsB row_one flat_len flat_get)
theorem info_partsL {x : Option TypeInfo} {z : Value} {s b : Nat} (h : x.map (fun i => (i.zero, i.size, i.bytes)) = some (some z, s, b)) : ∃ i, x = some i ∧ i.zero = some z ∧ i.size = s ∧ i.bytes = b := by
  cases x with
  | none => cases h
  | some i =>
    simp only [Option.map_some, Option.some.injEq, Prod.mk.injEq] at h
    exact ⟨i, rfl, h.1, h.2.1, h.2.2⟩
theorem bcs_len (l : List ByteArray) : (bcs l).length = l.length * 1 := by rw [List.length_map, Nat.mul_one]
theorem bcs_app (l m : List ByteArray) : bcs (l ++ m) = bcs l ++ bcs m := by simp [bcs]
theorem bcs_ones (l : List ByteArray) : ∀ u ∈ bcs l, u.oneCell' = true := by
  intro u hu
  obtain ⟨z, _, rfl⟩ := List.mem_map.1 hu
  rfl
theorem pcs_len (l : List Pk) : (pcs l).length = l.length * 3 := flat_len pkL pkL_len l
theorem pcs_app (l m : List Pk) : pcs (l ++ m) = pcs l ++ pcs m := by simp [pcs]
theorem pcs_ones (l : List Pk) : ∀ u ∈ pcs l, u.oneCell' = true := by
  intro u hu
  obtain ⟨p, _, hp⟩ := List.mem_flatMap.1 hu
  simp only [pkL, List.mem_cons, List.not_mem_nil, or_false] at hp
  rcases hp with rfl | rfl | rfl <;> rfl
theorem own_upL {w w' : World} {B size n : Nat} {e : TypeId} {v : Value} {xs : List Value} (h : w.ownsRow B e size v n xs) (hb : Below w.heap.size w w') : w'.ownsRow B e size v n xs := by
  obtain ⟨hl, ⟨rfl, rfl⟩ | ⟨g, cap, cur, rfl, hg, hh, hn, hm, hc, hx⟩⟩ := h
  · exact ⟨hl, .inl ⟨rfl, rfl⟩⟩
  · exact ⟨hl, .inr ⟨g, cap, cur, rfl, hg, (hb.block g (Array.getElem?_eq_some_iff.1 hh).1).trans hh, hn, hm, hc, hx⟩⟩
theorem cell_grownL {w w' : World} {row : Option Nat} {b o : Nat} {u : Value} (hc : w.cell? ⟨b, o, none⟩ = some u) (hg : w.grownBy w' row) (hne : row ≠ some b) : w'.cell? ⟨b, o, none⟩ = some u := by
  have := hg.block b (lt_of_cell hc) (fun e => hne e.symm)
  unfold World.cell? at hc ⊢
  rw [this]; exact hc
theorem lies_grownK {w w' : World} {row : Option Nat} {b : Nat} {C : Array Value} {T : TypeId} (h : Lies b C T w) (hg : w.grownBy w' row) (hne : row ≠ some b) : Lies b C T w' :=
  (hg.block b (lt_of_block h) (fun e => hne e.symm)).trans h
theorem BInfo : (Try.prog.info? 9).map (fun i => (i.zero, i.size, i.bytes)) = some (some (.string ByteArray.empty), 1, 16) := by kernel_rfl
structure BuiltB (w0 w : World) (v : Value) (ms : List ByteArray) : Prop where
  own : w.ownsRow w0.heap.size 9 1 v ms.length (bcs ms)
  below : Below w0.heap.size w0 w
theorem BuiltB.up {w0 a b : World} {v : Value} {ms : List ByteArray} (h : BuiltB w0 a v ms) (hb : Below a.heap.size a b) : BuiltB w0 b v ms := ⟨own_upL h.own hb, below_next h.below hb⟩
theorem BuiltB.far {w0 a : World} {v : Value} {ms : List ByteArray} (h : BuiltB w0 a v ms) {q : Nat} (hq : v.ownBlock = some q) : w0.heap.size ≤ q ∧ q < a.heap.size := h.own.lt q hq
theorem BuiltB.none_ {w0 w : World} (hb : Below w0.heap.size w0 w) : BuiltB w0 w (.slice none 0 0) [] := ⟨own_none, hb⟩
theorem wpPushB {ops : Array Oper} {rest : List Oper} {o : Oper} {a : Act} {Q : Exit → Act → World → Prop} {w0 w : World} (hgd : o.guard = none) (s x : Operand)
    (ho : o.op = .call { callee := .builtin .append, args := #[s, x], argTypes := #[22, 22] }) (v : Value) (ms : List ByteArray) (hs : a.eval s = v) (h : BuiltB w0 w v ms)
    (A : Option Addr) (m c : Nat) (ys : List ByteArray) (hx : a.eval x = .slice A m c) (hr : Row w A (bcs ys)) (hm : m = ys.length) (hlen : ms.length + ys.length ≤ 100000)
    (hk : ∀ v' w', BuiltB w0 w' v' (ms ++ ys) → w.grownBy w' v.ownBlock → (v'.ownBlock = v.ownBlock ∨ v'.ownBlock = some w.heap.size) → wpList Try.prog ops Q rest (a.put o.dst v') w') :
    wpList Try.prog ops Q (o :: rest) a w := by
  subst hm
  obtain ⟨i0, hi0, hz0, hz1, hz2⟩ := info_partsL BInfo
  rcases A with _ | ad
  · have hn : ys = [] := by
      rcases hr with hr | ⟨_, _, hr, _⟩
      · exact List.eq_nil_of_length_eq_zero (by have := bcs_len ys; rw [hr] at this; simp at this; omega)
      · cases hr
    subst hn
    have hrun : (Builtin.append_ #[22, 22] o.type #[v, .slice none 0 c]).run Try.prog w = .ok v w := by
      rcases h.own.2 with ⟨rfl, _⟩ | ⟨g, cap, cur, rfl, _, _, hnc, _⟩
      · simp [Builtin.append_, run_underlying Try.underlying22, sizeOf, typeInfo, hi0, Builtin.lenOf, Builtin.firstCells]
      · simp [Builtin.append_, run_underlying Try.underlying22, sizeOf, typeInfo, hi0, Builtin.lenOf, Builtin.firstCells, hnc, storeCells]
    refine wpList_plain hgd fun K hK => ?_
    unfold Oper.wp
    simp only [execOp, ho, resolve, invoke, builtin, Sem.run_bind, Sem.run_pure, Result.andThen_ok, List.map_toArray, List.map_cons, List.map_nil, hs, hx, hrun, List.length_nil]
    exact hK _ _ (hk v w (by simpa using h) (World.grownBy.refl _ _) (.inl rfl))
  · have hcells : ∀ j u, (bcs ys)[j]? = some u → w.cell? (ad.add j) = some u := by
      rcases hr with hr | ⟨b, off, hr, hc⟩
      · rw [hr]; intro j u hu; simp at hu
      · cases hr
        intro j u hu
        rw [Go.WideShapes.add_plain]
        exact hc j u hu
    refine wpList_append_own_at w hgd s x 22 ho w0.heap.size 9 i0 _ 1 16 Try.underlying22 hi0 hz0 hz1 hz2 rfl (by omega) v ms.length (bcs ms) hs h.own ad ys.length c (bcs ys) hx (bcs_len ys) hcells (bcs_ones ys)
      (by unfold maxLen; omega) (by omega) h.below.size ?_
    intro v' w' hown hg _ hat
    exact hk v' w' ⟨by rw [List.length_append, bcs_app]; exact hown, h.below.grown hg h.below.size fun q hq => (h.far hq).1⟩ hg hat
theorem PInfo : (Try.prog.info? 26).map (fun i => (i.zero, i.size, i.bytes)) = some (some (.agg #[.int .i64 0, .int .i64 0, .string ByteArray.empty]), 3, 32) := by kernel_rfl
structure BuiltP (w0 w : World) (v : Value) (ms : List Pk) : Prop where
  own : w.ownsRow w0.heap.size 26 3 v ms.length (pcs ms)
  below : Below w0.heap.size w0 w
theorem BuiltP.up {w0 a b : World} {v : Value} {ms : List Pk} (h : BuiltP w0 a v ms) (hb : Below a.heap.size a b) : BuiltP w0 b v ms := ⟨own_upL h.own hb, below_next h.below hb⟩
theorem BuiltP.far {w0 a : World} {v : Value} {ms : List Pk} (h : BuiltP w0 a v ms) {q : Nat} (hq : v.ownBlock = some q) : w0.heap.size ≤ q ∧ q < a.heap.size := h.own.lt q hq
theorem BuiltP.none_ {w0 w : World} (hb : Below w0.heap.size w0 w) : BuiltP w0 w (.slice none 0 0) [] := ⟨own_none, hb⟩
theorem wpPushP {ops : Array Oper} {rest : List Oper} {o : Oper} {a : Act} {Q : Exit → Act → World → Prop} {w0 w : World} (hgd : o.guard = none) (s x : Operand)
    (ho : o.op = .call { callee := .builtin .append, args := #[s, x], argTypes := #[35, 35] }) (v : Value) (ms : List Pk) (hs : a.eval s = v) (h : BuiltP w0 w v ms)
    (A : Option Addr) (m c : Nat) (ys : List Pk) (hx : a.eval x = .slice A m c) (hr : Row w A (pcs ys)) (hm : m = ys.length) (hlen : ms.length + ys.length ≤ 100000)
    (hk : ∀ v' w', BuiltP w0 w' v' (ms ++ ys) → w.grownBy w' v.ownBlock → (v'.ownBlock = v.ownBlock ∨ v'.ownBlock = some w.heap.size) → wpList Try.prog ops Q rest (a.put o.dst v') w') :
    wpList Try.prog ops Q (o :: rest) a w := by
  subst hm
  obtain ⟨i0, hi0, hz0, hz1, hz2⟩ := info_partsL PInfo
  rcases A with _ | ad
  · have hn : ys = [] := by
      rcases hr with hr | ⟨_, _, hr, _⟩
      · exact List.eq_nil_of_length_eq_zero (by have := pcs_len ys; rw [hr] at this; simp at this; omega)
      · cases hr
    subst hn
    have hrun : (Builtin.append_ #[35, 35] o.type #[v, .slice none 0 c]).run Try.prog w = .ok v w := by
      rcases h.own.2 with ⟨rfl, _⟩ | ⟨g, cap, cur, rfl, _, _, hnc, _⟩
      · simp [Builtin.append_, run_underlying Try.underlying35, sizeOf, typeInfo, hi0, Builtin.lenOf, Builtin.firstCells]
      · simp [Builtin.append_, run_underlying Try.underlying35, sizeOf, typeInfo, hi0, Builtin.lenOf, Builtin.firstCells, hnc, storeCells]
    refine wpList_plain hgd fun K hK => ?_
    unfold Oper.wp
    simp only [execOp, ho, resolve, invoke, builtin, Sem.run_bind, Sem.run_pure, Result.andThen_ok, List.map_toArray, List.map_cons, List.map_nil, hs, hx, hrun, List.length_nil]
    exact hK _ _ (hk v w (by simpa using h) (World.grownBy.refl _ _) (.inl rfl))
  · have hcells : ∀ j u, (pcs ys)[j]? = some u → w.cell? (ad.add j) = some u := by
      rcases hr with hr | ⟨b, off, hr, hc⟩
      · rw [hr]; intro j u hu; simp at hu
      · cases hr
        intro j u hu
        rw [Go.WideShapes.add_plain]
        exact hc j u hu
    refine wpList_append_own_at w hgd s x 35 ho w0.heap.size 26 i0 _ 3 32 Try.underlying35 hi0 hz0 hz1 hz2 rfl (by omega) v ms.length (pcs ms) hs h.own ad ys.length c (pcs ys) hx (pcs_len ys) hcells (pcs_ones ys)
      (by unfold maxLen; omega) (by omega) h.below.size ?_
    intro v' w' hown hg _ hat
    exact hk v' w' ⟨by rw [List.length_append, pcs_app]; exact hown, h.below.grown hg h.below.size fun q hq => (h.far hq).1⟩ hg hat
theorem one_rowB (w : World) (b : ByteArray) : Row (w.alloc (.cells #[.string b] 9)) (some ⟨w.heap.size, 0, none⟩) (bcs [b]) := by
  refine .inr ⟨w.heap.size, 0, rfl, fun j u hu => ?_⟩
  rw [Nat.zero_add]
  exact (Lies.new w #[.string b] 9).cell (by simpa using hu)
theorem one_rowP (w : World) (p : Pk) : Row (w.alloc (.cells (pkC p) 26)) (some ⟨w.heap.size, 0, none⟩) (pcs [p]) := by
  refine .inr ⟨w.heap.size, 0, rfl, fun j u hu => ?_⟩
  rw [Nat.zero_add]
  exact (Lies.new w (pkC p) 26).cell (by simpa [pcs] using hu)
theorem own_setL {B size n : Nat} {e : TypeId} {w : World} {u : Value} {cs : List Value} (h : w.ownsRow B e size u n cs) (p : Addr) (hp : u.ownBlock ≠ some p.block) (z : Value) : (w.setCell p z).ownsRow B e size u n cs := by
  obtain ⟨hl, ⟨rfl, rfl⟩ | ⟨g, cap, cur, rfl, hg, hh, hn, hm, hc, hx⟩⟩ := h
  · exact ⟨hl, .inl ⟨rfl, rfl⟩⟩
  · exact ⟨hl, .inr ⟨g, cap, cur, rfl, hg, (Below.heap_setCell w p z g (fun e => hp (by rw [← e]; rfl))).trans hh, hn, hm, hc, hx⟩⟩
theorem BuiltB.set {w0 w : World} {v : Value} {ms : List ByteArray} (h : BuiltB w0 w v ms) {b i : Nat} (hb : w0.heap.size ≤ b) (hne : v.ownBlock ≠ some b) (u : Value) : BuiltB w0 (w.setCell ⟨b, i, none⟩ u) v ms :=
  ⟨own_setL h.own ⟨b, i, none⟩ hne u, h.below.setCell (p := ⟨b, i, none⟩) hb _⟩
end Lk
end Go.Proofs.Ytbdlmokgmgpbfaa
