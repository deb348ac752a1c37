/- Rows of a call's own, of two cells an element: grown by spare cells, copied over; whose block is whose. -/
import Derived.Test.YtciagbeamphihaaMarkRow
import Derived.Laws.CopyRow
import Derived.Laws.IdiomCopy
import Derived.Laws.OwnMore
import Derived.Maps.AppendAt
import Derived.Lib.AppendZerosOnto
namespace Go.Proofs.Ytciagbeamphihaa
open Go.RowKit
set_option linter.unusedVariables false
namespace Wm
/-- From W to W' nothing has turned but blocks of M, and new ones. -/
structure Mine (M : Nat → Prop) (W W' : World) : Prop where
  os : W'.os = W.os
  tape : W'.tape = W.tape
  output : W'.output = W.output
  size : W.heap.size ≤ W'.heap.size
  block : ∀ k, k < W.heap.size → ¬ M k → W'.heap[k]? = W.heap[k]?
theorem Mine.refl (M : Nat → Prop) (W : World) : Mine M W W := ⟨rfl, rfl, rfl, Nat.le_refl _, fun _ _ _ => rfl⟩
theorem Mine.trans {M : Nat → Prop} {X Y Z : World} (h : Mine M X Y) (k : Mine M Y Z) : Mine M X Z :=
  ⟨k.os.trans h.os, k.tape.trans h.tape, k.output.trans h.output, Nat.le_trans h.size k.size, fun i hi hn => (k.block i (Nat.lt_of_lt_of_le hi h.size) hn).trans (h.block i hi hn)⟩
theorem Mine.next {M M' : Nat → Prop} {X Y Z : World} (h : Mine M X Y) (hM : ∀ k, M' k → M k ∨ X.heap.size ≤ k) (k : Mine M' Y Z) : Mine M X Z :=
  ⟨k.os.trans h.os, k.tape.trans h.tape, k.output.trans h.output, Nat.le_trans h.size k.size, fun i hi hn =>
    (k.block i (Nat.lt_of_lt_of_le hi h.size) fun hm => (hM i hm).elim hn fun h1 => by omega).trans (h.block i hi hn)⟩
theorem Mine.sub {M M' : Nat → Prop} {W W' : World} (h : Mine M W W') (hs : ∀ k, k < W.heap.size → M k → M' k) : Mine M' W W' := ⟨h.os, h.tape, h.output, h.size, fun k hk hn => h.block k hk fun hm => hn (hs k hk hm)⟩
theorem Mine.of_below {M : Nat → Prop} {W W' : World} (h : Below W.heap.size W W') : Mine M W W' := ⟨h.os, h.tape, h.output, h.size, fun k hk _ => h.block k hk⟩
theorem Mine.below {M : Nat → Prop} {B : Nat} {U W W' : World} (hU : Below B U W) (h : Mine M W W') (hM : ∀ k, M k → B ≤ k) (hB : B ≤ W.heap.size) : Below B U W' :=
  hU.trans ⟨h.os, h.tape, h.output, h.size, fun k hk => h.block k (by omega) fun hm => by have := hM k hm; omega⟩
theorem Mine.lies {M : Nat → Prop} {W W' : World} (h : Mine M W W') {b : Nat} {C : Array Value} {T : TypeId} (hl : Lies b C T W) (hb : ¬ M b) : Lies b C T W' := (h.block b (lt_of_block hl) hb).trans hl
theorem Mine.own {M : Nat → Prop} {w w' : World} {B size n : Nat} {e : TypeId} {v : Value} {xs : List Value} (h : w.ownsRow B e size v n xs) (hm : Mine M w w') (hk : ∀ k, v.ownBlock = some k → ¬ M k) : w'.ownsRow B e size v n xs := by
  obtain ⟨hl, ⟨rfl, e⟩ | ⟨g, cap, cur, rfl, hg, hh, hn, hmx, hc, hx⟩⟩ := h
  · exact ⟨hl, .inl ⟨rfl, e⟩⟩
  · exact ⟨hl, .inr ⟨g, cap, cur, rfl, hg, (hm.block g (lt_of_block hh) (hk g rfl)).trans hh, hn, hmx, hc, hx⟩⟩
theorem Mine.grown {w w' : World} {row : Option Nat} (hg : w.grownBy w' row) : Mine (fun k => row = some k) w w' := ⟨hg.os, hg.tape, hg.output, hg.size, fun k hk hn => hg.block k hk (fun e => hn e.symm)⟩
theorem Mine.set {M : Nat → Prop} (W : World) {a : Addr} (v : Value) (h : M a.block) : Mine M W (W.setCell a v) :=
  ⟨rfl, rfl, rfl, by show W.heap.size ≤ (W.heap.modify _ _).size; rw [Array.size_modify]; exact Nat.le_refl _, fun k _ hn => Below.heap_setCell W a v k fun e => hn (e ▸ h)⟩
/-- A row of the call's own has room for one more: the spare cells are taken in. -/
theorem own_more {w : World} {B g n cap : Nat} {e : TypeId} {xs : List Value} (h : w.ownsRow B e 2 (.slice (some ⟨g, 0, none⟩) n cap) n xs) (hc : n + 1 ≤ cap) :
    ∃ us, us.length = 2 ∧ w.ownsRow B e 2 (.slice (some ⟨g, 0, none⟩) (n + 1) cap) (n + 1) (xs ++ us) := by
  obtain ⟨hl, ⟨h0, _⟩ | ⟨g', cap', cur, hv, hg, hh, hn, hm, hs, hx⟩⟩ := h
  · cases h0
  cases hv
  have hlen : cur.toList.length = cap * 2 := by rw [Array.length_toList, hs]
  refine ⟨(cur.toList.drop (n * 2)).take 2, by rw [List.length_take, List.length_drop, hlen]; omega, ?_, .inr ⟨g, cap, cur, rfl, hg, hh, hc, hm, hs, ?_⟩⟩
  · rw [List.length_append, hl, List.length_take, List.length_drop, hlen]; omega
  · rw [show (n + 1) * 2 = n * 2 + 2 by omega, List.take_add, hx]
/-- Fewer elements of it. -/
theorem own_less {w : World} {B g n cap : Nat} {e : TypeId} {xs : List Value} (h : w.ownsRow B e 2 (.slice (some ⟨g, 0, none⟩) n cap) n xs) {k : Nat} (hk : k ≤ n) :
    w.ownsRow B e 2 (.slice (some ⟨g, 0, none⟩) k cap) k (xs.take (k * 2)) := by
  obtain ⟨hl, ⟨h0, _⟩ | ⟨g', cap', cur, hv, hg, hh, hn, hm, hs, hx⟩⟩ := h
  · cases h0
  cases hv
  refine ⟨by rw [List.length_take, hl]; omega, .inr ⟨g, cap, cur, rfl, hg, hh, by omega, hm, hs, ?_⟩⟩
  rw [← hx, List.take_take, Nat.min_eq_left (by omega)]
/-- Cells that are laid over a part of it. -/
theorem own_laid {w : World} {B g n cap : Nat} {e : TypeId} {xs : List Value} (h : w.ownsRow B e 2 (.slice (some ⟨g, 0, none⟩) n cap) n xs) (o : Nat) (cs : List Value) (ho : o + cs.length ≤ n * 2) (h1 : ∀ v ∈ cs, v.oneCell' = true) :
    ∃ w', (∀ P : Program, (storeCells ⟨g, o, none⟩ cs).run P w = .ok () w') ∧ w'.ownsRow B e 2 (.slice (some ⟨g, 0, none⟩) n cap) n (xs.take o ++ cs ++ xs.drop (o + cs.length)) ∧ Mine (· = g) w w' := by
  obtain ⟨hl, ⟨h0, _⟩ | ⟨g', cap', cur, hv, hg, hh, hn, hm, hs, hx⟩⟩ := h
  · cases h0
  cases hv
  have hlen : cur.toList.length = cap * 2 := by rw [Array.length_toList, hs]
  refine ⟨w.setRow g (cur.toList.take o ++ cs ++ cur.toList.drop (o + cs.length)).toArray, fun P => ?_, ⟨?_, .inr ⟨g, cap, _, rfl, hg, setRow_heap w g cur _ e _ hh, hn, hm, ?_, ?_⟩⟩, ⟨rfl, rfl, rfl, by simp, fun k hk hne => setRow_other w g k _ (fun e => hne e)⟩⟩
  · have := run_storeCells_at P g o e cs 0 cur w hh (by omega) h1
    simpa using this
  · simp only [List.length_append, List.length_take, List.length_drop, hl]; omega
  · rw [List.size_toArray]; simp only [List.length_append, List.length_take, List.length_drop, hlen]; omega
  · rw [List.toList_toArray, ← hx]
    apply List.ext_getElem?
    intro j
    simp only [List.getElem?_take, List.getElem?_append, List.length_append, List.length_take, hlen, List.getElem?_drop]
    have e1 : min o (cap * 2) = o := by omega
    have e2 : min o (min (n * 2) (cap * 2)) = o := by omega
    rw [e1, e2]
    repeat' split
    all_goals first
      | rfl
      | (exfalso; omega)
      | (congr 1; omega)
/-- copy onto a part of it, out of a row that lies anywhere. -/
theorem run_copy_own {P : Program} {w : World} {B g n cap : Nat} {e : TypeId} {xs : List Value} (h : w.ownsRow B e 2 (.slice (some ⟨g, 0, none⟩) n cap) n xs) (t t' : TypeId) (ht : P.underlying t = some (.slice e)) (hs : (P.info? e).map (·.size) = some 2)
    (o dLen dCap : Nat) (a : Addr) (sLen sCap : Nat) (cs : List Value) (hn : cs.length = Nat.min sLen dLen * 2) (hsrc : ∀ j v, cs[j]? = some v → w.cell? (a.add j) = some v) (ho : o + cs.length ≤ n * 2) (h1 : ∀ v ∈ cs, v.oneCell' = true) :
    ∃ w', (∀ ty, (Builtin.copy_ #[t, t'] ty #[.slice (some ⟨g, o, none⟩) dLen dCap, .slice (some a) sLen sCap]).run P w = .ok (goInt (Nat.min sLen dLen)) w') ∧
      w'.ownsRow B e 2 (.slice (some ⟨g, 0, none⟩) n cap) n (xs.take o ++ cs ++ xs.drop (o + cs.length)) ∧ Mine (· = g) w w' := by
  obtain ⟨w', h1, h2, h3⟩ := own_laid h o cs ho h1
  refine ⟨w', fun ty => ?_, h2, h3⟩
  have hl := run_loadCells_list (P := P) w a cs hsrc
  cases hq : P.info? e with
  | none => simp [hq] at hs
  | some i =>
    have hi : i.size = 2 := by simpa [hq] using hs
    rw [hn] at hl
    simp [Builtin.copy_, run_underlying ht, Builtin.lenOf, Builtin.firstCells, sizeOf, typeInfo, hq, hi, hl, h1 P]
/-- append onto a row of the call's own, out of a row that lies anywhere: whose block is whose. -/
theorem wpAppM {P : Program} {w : World} {ops : Array Oper} {rest : List Oper} {o : Oper} {a : Act} {Q : Exit → Act → World → Prop} (hgd : o.guard = none) (s x : Operand) (t : TypeId)
    (ho : o.op = .call { callee := .builtin .append, args := #[s, x], argTypes := #[t, t] })
    (B : Nat) (e : TypeId) (i : TypeInfo) (z : Value) (size bytes : Nat) (ht : P.underlying t = some (.slice e)) (hi : P.info? e = some i) (hz : i.zero = some z)
    (hsize : i.size = size) (hby : i.bytes = bytes) (hzs : z.cells.size = size) (hsz : 0 < size)
    (v : Value) (n : Nat) (xs : List Value) (hs : a.eval s = v) (hown : w.ownsRow B e size v n xs)
    (ad : Addr) (m c : Nat) (news : List Value) (hx : a.eval x = .slice (some ad) m c) (hcells : ∀ j u, news[j]? = some u → w.cell? (ad.add j) = some u) (hl : news.length = m * size) (h1 : ∀ u ∈ news, u.oneCell' = true)
    (h63 : n + m ≤ maxLen) (hbytes : (n + m) * bytes ≤ 140737488355328) (hbase : B ≤ w.heap.size)
    (h : ∀ v' w', w'.ownsRow B e size v' (n + m) (xs ++ news) → Mine (fun k => v.ownBlock = some k) w w' → (∀ k, v'.ownBlock = some k → v.ownBlock = some k ∨ w.heap.size ≤ k) → wpList P ops Q rest (a.put o.dst v') w') : wpList P ops Q (o :: rest) a w := by
  refine wpList_plain hgd fun K hK => ?_
  obtain ⟨v', w', hrun, h2, h3, _, h5⟩ := run_append_own_at (P := P) w B t o.type e i z size bytes ht hi hz hsize hby hzs hsz v n xs hown ad m c news hl hcells h1 h63 hbytes hbase
  unfold Oper.wp
  simp only [execOp, ho, resolve, invoke, builtin, Sem.run_bind, Sem.run_pure, Result.andThen_ok, List.map_toArray, List.map_cons, List.map_nil, hs, hx, hrun]
  refine hK _ _ (h v' w' h2 (Mine.grown h3) fun k hk => ?_)
  rcases h5 with h5 | h5
  · left; rw [← h5]; exact hk
  · right; rw [h5] at hk; cases hk; exact Nat.le_refl _
/-- copy, where its run is known. -/
theorem wpList_copy_run {P : Program} {w : World} {ops : Array Oper} {rest : List Oper} {o : Oper} {a : Act} {Q : Exit → Act → World → Prop} (hgd : o.guard = none) (d s : Operand) (t t' : TypeId)
    (ho : o.op = .call { callee := .builtin .copy, args := #[d, s], argTypes := #[t, t'] }) (v u : Value) (hd : a.eval d = v) (hs : a.eval s = u) {v' : Value} {w' : World}
    (hr : (Builtin.copy_ #[t, t'] o.type #[v, u]).run P w = .ok v' w') (h : wpList P ops Q rest (a.put o.dst v') w') : wpList P ops Q (o :: rest) a w := by
  refine wpList_plain hgd fun _ hK => ?_
  unfold Oper.wp
  simp only [execOp, ho, resolve, invoke, builtin, Sem.run_bind, Sem.run_pure, Result.andThen_ok, List.map_toArray, List.map_cons, List.map_nil, hd, hs, hr]
  exact hK _ _ h
/-- A row that append has made of the head of another and of zeros. -/
theorem own_zeros {w : World} {K k n c : Nat} {T : TypeId} {z : Value} {cs : List Value} (hK : K ≤ w.heap.size) (hz : z.cells.size = 2) (hc : cs.length = k * 2) (hk : k ≤ n) (hn : n ≤ c) (hm : c ≤ maxLen) :
    ∃ zs, zs.length = (n - k) * 2 ∧ (w.alloc (.cells (cs.toArray ++ Builtin.zeroCells z.cells (n - k) ++ Builtin.zeroCells z.cells (c - n)) T)).ownsRow K T 2 (.slice (some ⟨w.heap.size, 0, none⟩) n c) n (cs ++ zs) := by
  have hzl : ∀ j, (Builtin.zeroCells z.cells j).size = j * 2 := fun j => by simp [Builtin.zeroCells, hz]
  have hzt : ∀ j, (Builtin.zeroCells z.cells j).toList.length = j * 2 := fun j => by rw [Array.length_toList, hzl]
  refine ⟨(Builtin.zeroCells z.cells (n - k)).toList, hzt _, ?_, .inr ⟨w.heap.size, c, _, rfl, hK, heap_alloc_new w _, hn, hm, ?_, ?_⟩⟩
  · rw [List.length_append, hzt, hc, ← Nat.add_mul]; congr 1; omega
  · rw [Array.size_append, Array.size_append, hzl, hzl, List.size_toArray, hc, ← Nat.add_mul, ← Nat.add_mul]; congr 1; omega
  · rw [Array.toList_append, Array.toList_append, List.toList_toArray]
    refine List.take_left' ?_
    rw [List.length_append, hzt, hc, ← Nat.add_mul]; congr 1; omega
end Wm
end Go.Proofs.Ytciagbeamphihaa
