/- Rows of a call's own, of two cells an element (any kind): grown by spare cells, copied over, cleared; a stop ahead of an operation. -/
import Derived.Test.YtgbklmncfajcgaaGen
import Derived.Test.YtgbklmncfajcgaaHold
import Derived.Laws.CopyRow
import Derived.Laws.IdiomCopy
import Derived.Laws.OwnMore
import Derived.Maps.AppendAt
import Derived.Lib.AppendZerosOnto
namespace Go.Proofs.Ytgbklmncfajcgaa
open Go.RowKit
set_option linter.unusedVariables false
namespace Gen
/-- The walk stops ahead of the operation that writes slot n. -/
theorem hold_at {P : Program} {ops : Array Oper} {Q : Exit → Act → World → Prop} {o : Oper} {rest : List Oper} {a : Act} {w : World} (n : Nat) (hd : o.dst = some n) (h : Hold (wpList P ops Q (o :: rest) a w)) : wpList P ops Q (o :: rest) a w := h
theorem Mine.own {M : Nat → Prop} {w w' : World} {B size n : Nat} {e : TypeId} {v : Value} {xs : List Value} (h : w.ownsRow B e size v n xs) (hm : Mine M w w') (hk : ∀ k, v.ownBlock = some k → ¬ M k) : w'.ownsRow B e size v n xs :=
  ownsRow_block h fun k hv hl => hm.block k hl (hk k hv)
/-- Rows of different kinds lie apart; a row of one kind is no block of another. -/
theorem own_apart {w : World} {B size n : Nat} {e : TypeId} {v : Value} {xs : List Value} (h : w.ownsRow B e size v n xs) {b : Nat} {C : Array Value} {T : TypeId} (hl : Lies b C T w) (hT : e ≠ T) : v.ownBlock ≠ some b := by
  intro hv
  obtain ⟨_, ⟨rfl, _⟩ | ⟨g, cap, cur, rfl, _, hh, _⟩⟩ := h
  · cases hv
  · cases hv
    have h2 : w.heap[g]? = some _ := hl
    rw [hh] at h2
    injection h2 with h2
    injection h2 with _ h2
    exact hT h2
theorem info_of {x : Option TypeInfo} {z : Value} {s b : Nat} (h : x.map (fun i => (i.zero, i.size, i.bytes)) = some (some z, s, b)) : ∃ i, x = some i ∧ i.zero = some z ∧ i.size = s ∧ i.bytes = b := by
  cases x with
  | none => cases h
  | some i =>
    simp only [Option.map_some, Option.some.injEq, Prod.mk.injEq] at h
    exact ⟨i, rfl, h.1, h.2.1, h.2.2⟩
theorem own_slice {w : World} {K n s : Nat} {T : TypeId} {v : Value} {xs : List Value} (h : w.ownsRow K T s v n xs) (hs : 0 < s) : ∃ A c, v = .slice A n c := by
  obtain ⟨A, c, e, _⟩ := own_form h hs
  exact ⟨A, c, e⟩
/-- A row of the call's own has room for one more: the spare cells are taken in. -/
theorem own_more {w : World} {B g n cap : Nat} {e : TypeId} {xs : List Value} (h : w.ownsRow B e 2 (.slice (some ⟨g, 0, none⟩) n cap) n xs) (hc : n + 1 ≤ cap) :
    ∃ us, us.length = 2 ∧ w.ownsRow B e 2 (.slice (some ⟨g, 0, none⟩) (n + 1) cap) (n + 1) (xs ++ us) := by
  obtain ⟨hl, ⟨h0, _⟩ | ⟨g', cap', cur, hv, hg, hh, hn, hm, hs, hx⟩⟩ := h
  · cases h0
  cases hv
  have hlen : cur.toList.length = cap * 2 := by rw [Array.length_toList, hs]
  refine ⟨(cur.toList.drop (n * 2)).take 2, by rw [List.length_take, List.length_drop, hlen]; omega, ?_, .inr ⟨g, cap, cur, rfl, hg, hh, hc, hm, hs, ?_⟩⟩
  · rw [List.length_append, hl, List.length_take, List.length_drop, hlen]; omega
  · rw [show (n + 1) * 2 = n * 2 + 2 by omega, List.take_add, hx]
/-- Fewer elements of it. -/
theorem own_less {w : World} {B g n cap : Nat} {e : TypeId} {xs : List Value} (h : w.ownsRow B e 2 (.slice (some ⟨g, 0, none⟩) n cap) n xs) {k : Nat} (hk : k ≤ n) :
    w.ownsRow B e 2 (.slice (some ⟨g, 0, none⟩) k cap) k (xs.take (k * 2)) := by
  obtain ⟨hl, ⟨h0, _⟩ | ⟨g', cap', cur, hv, hg, hh, hn, hm, hs, hx⟩⟩ := h
  · cases h0
  cases hv
  refine ⟨by rw [List.length_take, hl]; omega, .inr ⟨g, cap, cur, rfl, hg, hh, by omega, hm, hs, ?_⟩⟩
  rw [← hx, List.take_take, Nat.min_eq_left (by omega)]
/-- Cells that are laid over a part of it. -/
theorem own_laid {w : World} {B g n cap : Nat} {e : TypeId} {xs : List Value} (h : w.ownsRow B e 2 (.slice (some ⟨g, 0, none⟩) n cap) n xs) (o : Nat) (cs : List Value) (ho : o + cs.length ≤ n * 2) (h1 : ∀ v ∈ cs, v.oneCell' = true) :
    ∃ w', (∀ P : Program, (storeCells ⟨g, o, none⟩ cs).run P w = .ok () w') ∧ w'.ownsRow B e 2 (.slice (some ⟨g, 0, none⟩) n cap) n (xs.take o ++ cs ++ xs.drop (o + cs.length)) ∧ Mine (· = g) w w' := by
  obtain ⟨hl, ⟨h0, _⟩ | ⟨g', cap', cur, hv, hg, hh, hn, hm, hs, hx⟩⟩ := h
  · cases h0
  cases hv
  have hlen : cur.toList.length = cap * 2 := by rw [Array.length_toList, hs]
  refine ⟨w.setRow g (cur.toList.take o ++ cs ++ cur.toList.drop (o + cs.length)).toArray, fun P => ?_, ⟨?_, .inr ⟨g, cap, _, rfl, hg, setRow_heap w g cur _ e _ hh, hn, hm, ?_, ?_⟩⟩, ⟨rfl, rfl, rfl, by simp, fun k hk hne => setRow_other w g k _ (fun e => hne e)⟩⟩
  · have := run_storeCells_at P g o e cs 0 cur w hh (by omega) h1
    simpa using this
  · simp only [List.length_append, List.length_take, List.length_drop, hl]; omega
  · rw [List.size_toArray]; simp only [List.length_append, List.length_take, List.length_drop, hlen]; omega
  · rw [List.toList_toArray, ← hx]
    apply List.ext_getElem?
    intro j
    simp only [List.getElem?_take, List.getElem?_append, List.length_append, List.length_take, hlen, List.getElem?_drop]
    have e1 : min o (cap * 2) = o := by omega
    have e2 : min o (min (n * 2) (cap * 2)) = o := by omega
    rw [e1, e2]
    repeat' split
    all_goals first
      | rfl
      | (exfalso; omega)
      | (congr 1; omega)
/-- copy onto a part of it, out of a row that lies anywhere. -/
theorem run_copy_own {P : Program} {w : World} {B g n cap : Nat} {e : TypeId} {xs : List Value} (h : w.ownsRow B e 2 (.slice (some ⟨g, 0, none⟩) n cap) n xs) (t t' : TypeId) (ht : P.underlying t = some (.slice e)) (hs : (P.info? e).map (·.size) = some 2)
    (o dLen dCap : Nat) (a : Addr) (sLen sCap : Nat) (cs : List Value) (hn : cs.length = Nat.min sLen dLen * 2) (hsrc : ∀ j v, cs[j]? = some v → w.cell? (a.add j) = some v) (ho : o + cs.length ≤ n * 2) (h1 : ∀ v ∈ cs, v.oneCell' = true) :
    ∃ w', (∀ ty, (Builtin.copy_ #[t, t'] ty #[.slice (some ⟨g, o, none⟩) dLen dCap, .slice (some a) sLen sCap]).run P w = .ok (goInt (Nat.min sLen dLen)) w') ∧
      w'.ownsRow B e 2 (.slice (some ⟨g, 0, none⟩) n cap) n (xs.take o ++ cs ++ xs.drop (o + cs.length)) ∧ Mine (· = g) w w' := by
  obtain ⟨w', h1, h2, h3⟩ := own_laid h o cs ho h1
  refine ⟨w', fun ty => ?_, h2, h3⟩
  have hl := run_loadCells_list (P := P) w a cs hsrc
  cases hq : P.info? e with
  | none => simp [hq] at hs
  | some i =>
    have hi : i.size = 2 := by simpa [hq] using hs
    rw [hn] at hl
    simp [Builtin.copy_, run_underlying ht, Builtin.lenOf, Builtin.firstCells, sizeOf, typeInfo, hq, hi, hl, h1 P]
/-- append onto a row of the call's own, out of a row that lies anywhere: whose block is whose. -/
theorem wpAppM {P : Program} {w : World} {ops : Array Oper} {rest : List Oper} {o : Oper} {a : Act} {Q : Exit → Act → World → Prop} (hgd : o.guard = none) (s x : Operand) (t : TypeId)
    (ho : o.op = .call { callee := .builtin .append, args := #[s, x], argTypes := #[t, t] })
    (B : Nat) (e : TypeId) (i : TypeInfo) (z : Value) (size bytes : Nat) (ht : P.underlying t = some (.slice e)) (hi : P.info? e = some i) (hz : i.zero = some z)
    (hsize : i.size = size) (hby : i.bytes = bytes) (hzs : z.cells.size = size) (hsz : 0 < size)
    (v : Value) (n : Nat) (xs : List Value) (hs : a.eval s = v) (hown : w.ownsRow B e size v n xs)
    (ad : Addr) (m c : Nat) (news : List Value) (hx : a.eval x = .slice (some ad) m c) (hcells : ∀ j u, news[j]? = some u → w.cell? (ad.add j) = some u) (hl : news.length = m * size) (h1 : ∀ u ∈ news, u.oneCell' = true)
    (h63 : n + m ≤ maxLen) (hbytes : (n + m) * bytes ≤ 140737488355328) (hbase : B ≤ w.heap.size)
    (h : ∀ v' w', w'.ownsRow B e size v' (n + m) (xs ++ news) → Mine (fun k => v.ownBlock = some k) w w' → (∀ k, v'.ownBlock = some k → v.ownBlock = some k ∨ w.heap.size ≤ k) → wpList P ops Q rest (a.put o.dst v') w') : wpList P ops Q (o :: rest) a w := by
  refine wpList_plain hgd fun K hK => ?_
  obtain ⟨v', w', hrun, h2, h3, _, h5⟩ := run_append_own_at (P := P) w B t o.type e i z size bytes ht hi hz hsize hby hzs hsz v n xs hown ad m c news hl hcells h1 h63 hbytes hbase
  unfold Oper.wp
  simp only [execOp, ho, resolve, invoke, builtin, Sem.run_bind, Sem.run_pure, Result.andThen_ok, List.map_toArray, List.map_cons, List.map_nil, hs, hx, hrun]
  refine hK _ _ (h v' w' h2 (Mine.grown h3 fun k hk => hk) fun k hk => ?_)
  rcases h5 with h5 | h5
  · left; rw [← h5]; exact hk
  · right; rw [h5] at hk; cases hk; exact Nat.le_refl _
/-- copy, where its run is known. -/
theorem wpList_copy_run {P : Program} {w : World} {ops : Array Oper} {rest : List Oper} {o : Oper} {a : Act} {Q : Exit → Act → World → Prop} (hgd : o.guard = none) (d s : Operand) (t t' : TypeId)
    (ho : o.op = .call { callee := .builtin .copy, args := #[d, s], argTypes := #[t, t'] }) (v u : Value) (hd : a.eval d = v) (hs : a.eval s = u) {v' : Value} {w' : World}
    (hr : (Builtin.copy_ #[t, t'] o.type #[v, u]).run P w = .ok v' w') (h : wpList P ops Q rest (a.put o.dst v') w') : wpList P ops Q (o :: rest) a w := by
  refine wpList_plain hgd fun _ hK => ?_
  unfold Oper.wp
  simp only [execOp, ho, resolve, invoke, builtin, Sem.run_bind, Sem.run_pure, Result.andThen_ok, List.map_toArray, List.map_cons, List.map_nil, hd, hs, hr]
  exact hK _ _ h
/-- A row that append has made of the head of another and of zeros. -/
theorem own_zeros {w : World} {K k n c : Nat} {T : TypeId} {z : Value} {cs : List Value} (hK : K ≤ w.heap.size) (hz : z.cells.size = 2) (hc : cs.length = k * 2) (hk : k ≤ n) (hn : n ≤ c) (hm : c ≤ maxLen) :
    ∃ zs, zs.length = (n - k) * 2 ∧ (w.alloc (.cells (cs.toArray ++ Builtin.zeroCells z.cells (n - k) ++ Builtin.zeroCells z.cells (c - n)) T)).ownsRow K T 2 (.slice (some ⟨w.heap.size, 0, none⟩) n c) n (cs ++ zs) := by
  have hzl : ∀ j, (Builtin.zeroCells z.cells j).size = j * 2 := fun j => by simp [Builtin.zeroCells, hz]
  have hzt : ∀ j, (Builtin.zeroCells z.cells j).toList.length = j * 2 := fun j => by rw [Array.length_toList, hzl]
  refine ⟨(Builtin.zeroCells z.cells (n - k)).toList, hzt _, ?_, .inr ⟨w.heap.size, c, _, rfl, hK, heap_alloc_new w _, hn, hm, ?_, ?_⟩⟩
  · rw [List.length_append, hzt, hc, ← Nat.add_mul]; congr 1; omega
  · rw [Array.size_append, Array.size_append, hzl, hzl, List.size_toArray, hc, ← Nat.add_mul, ← Nat.add_mul]; congr 1; omega
  · rw [Array.toList_append, Array.toList_append, List.toList_toArray]
    refine List.take_left' ?_
    rw [List.length_append, hzt, hc, ← Nat.add_mul]; congr 1; omega
theorem setCells_block (g : Nat) : ∀ (vs : List Value) (o : Nat) (w : World) (k : Nat), k ≠ g → (w.setCells g o vs).heap[k]? = w.heap[k]?
  | [], _, _, _, _ => rfl
  | v :: r, o, w, k, hk => (setCells_block g r (o + 1) _ k hk).trans (Below.heap_setCell w ⟨g, o, none⟩ v k hk)
theorem setCells_mine (g : Nat) : ∀ (vs : List Value) (o : Nat) (w : World), Mine (· = g) w (w.setCells g o vs)
  | [], _, w => Mine.refl _ _
  | v :: r, o, w => (Mine.set (M := (· = g)) w (a := ⟨g, o, none⟩) v rfl).trans (setCells_mine g r (o + 1) _)
theorem own_behind {B g n cap : Nat} {e : TypeId} {xs : List Value} : ∀ (vs : List Value) (o : Nat) (w : World), w.ownsRow B e 2 (.slice (some ⟨g, 0, none⟩) n cap) n xs → n * 2 ≤ o → (w.setCells g o vs).ownsRow B e 2 (.slice (some ⟨g, 0, none⟩) n cap) n xs
  | [], _, _, h, _ => h
  | v :: r, o, w, h, ho => by
    have h1 := (h.stored o v).1
    rw [List.set_eq_of_length_le (by rw [h.1]; exact ho)] at h1
    exact own_behind r (o + 1) _ h1 (by omega)
theorem run_clear {P : Program} (w : World) (t e ty : TypeId) (z : Value) (ht : P.underlying t = some (.slice e)) (hv : ∀ w, (zeroValue e).run P w = .ok z w) (hz : z.cells.size = 2) (h1 : ∀ i, i < 2 → (z.cells[i]!).oneCell' = true) (b o n c : Nat) (hn : 0 < n)
    (hc : ∀ j, j < n * 2 → (w.cell? ⟨b, o + j, none⟩).isSome = true) (hf : ∀ j, j < n * 2 → w.frozen? ⟨b, o + j, none⟩ = false) :
    (Builtin.clear_ #[t] ty #[.slice (some ⟨b, o, none⟩) n c]).run P w = .ok (.tuple #[]) (w.setCells b o (Builtin.zeroCells z.cells n).toList) := by
  have hl : (Builtin.zeroCells z.cells n).toList.length = n * 2 := by simp [Builtin.zeroCells, hz]
  have hst := run_storeCells_cells (P := P) b o (Builtin.zeroCells z.cells n).toList 0 w (by rw [hl]; simpa using hc) (by rw [hl]; simpa using hf) (by
    intro v hv'
    simp only [Builtin.zeroCells, Array.toList_map, List.mem_map] at hv'
    obtain ⟨i, _, rfl⟩ := hv'
    rw [hz]
    exact h1 _ (Nat.mod_lt _ (by omega)))
  simp only [Nat.add_zero] at hst
  obtain ⟨m, rfl⟩ : ∃ m, n = m + 1 := ⟨n - 1, by omega⟩
  simp [Builtin.clear_, run_underlying ht, hv, hst]
/-- append onto a row of the call's own, as a step of a drawn region. -/
theorem step_append_own {P : Program} {ops : Array Oper} {o : Oper} {a : Act} {w : World} {K : Act → World → Prop} {Q : Exit → Act → World → Prop} {E : Prop}
    (hg : o.guard = none) (s x : Operand) (t : TypeId) (hop : o.op = Op.call { callee := Callee.builtin Builtin.append, args := #[s, x], argTypes := #[t, t] })
    (base : Nat) (e : TypeId) (i : TypeInfo) (z : Value) (size bytes : Nat) (ht : P.underlying t = some (.slice e)) (hi : P.info? e = some i) (hz : i.zero = some z)
    (hsize : i.size = size) (hby : i.bytes = bytes) (hzs : z.cells.size = size) (hsz : 0 < size)
    (v : Value) (n : Nat) (xs : List Value) (hs : a.eval s = v) (hown : w.ownsRow base e size v n xs)
    (ad : Addr) (m c : Nat) (news : List Value) (hx : a.eval x = .slice (some ad) m c) (hl : news.length = m * size) (hnews : ∀ j u, news[j]? = some u → w.cell? (ad.add j) = some u) (h1 : ∀ u ∈ news, u.oneCell' = true)
    (h63 : n + m ≤ maxLen) (hbytes : (n + m) * bytes ≤ 140737488355328) (hbase : base ≤ w.heap.size)
    (hK : ∀ v' w', w'.ownsRow base e size v' (n + m) (xs ++ news) → w.grownBy w' v.ownBlock → (v'.ownBlock = v.ownBlock ∨ v'.ownBlock = some w.heap.size) → K (a.put o.dst v') w') :
    if Region.wanted o (yielded ops a.tmps) = true then Oper.wp P o a w K Q else E := by
  have hw : Region.wanted o (yielded ops a.tmps) = true := by simp [Region.wanted, hg]
  rw [if_pos hw]
  obtain ⟨v', w', hrun, r1, r2, r3, r4⟩ := run_append_own_at (P := P) w base t o.type e i z size bytes ht hi hz hsize hby hzs hsz v n xs hown ad m c news hl hnews h1 h63 hbytes hbase
  unfold Oper.wp
  simp [execOp, hop, resolve, invoke, builtin, hs, hx, hrun, Result.andThen]
  exact hK v' w' r1 r2 r4
end Gen
end Go.Proofs.Ytgbklmncfajcgaa
