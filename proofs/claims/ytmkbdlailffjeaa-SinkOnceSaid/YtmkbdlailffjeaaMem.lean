/- Words for memory: a row of cells that a slice value points to, kept while old blocks stay. -/
import Derived.WalkKit
import Derived.ProofKit
import Derived.OpenShut
import Derived.Lib.Hide
import Derived.Deep.Draws
import Derived.OwnWalk
import Derived.Deep.QuietTactic
namespace Go.Proofs.Ytmkbdlailffjeaa
open Go.ChangeShapes Go.WideShapes Go.ChangeAt Go.RowKit
set_option linter.unusedVariables false
theorem below_next {a b c : World} (h : Below a.heap.size a b) (h2 : Below b.heap.size b c) : Below a.heap.size a c := h.trans (h2.mono h.size)
theorem below_draw {a b c : World} {n : Nat} (h : Below a.heap.size a b) (h2 : Below (b.drewN n).heap.size (b.drewN n) c) : Below a.heap.size a c :=
  below_next (b := b.drewN n) ⟨h.os, h.tape, h.output, h.size, h.block⟩ h2
theorem below_drewOf {a b : World} {B : Nat} (h : Below B a b) : Below B a b.drew := ⟨h.os, h.tape, h.output, h.size, h.block⟩
theorem below_drewN {B n : Nat} {a b : World} (h : Below B a b) : Below B a (b.drewN n) := ⟨h.os, h.tape, h.output, h.size, h.block⟩
theorem below_drew1 {a b c : World} (h : Below a.heap.size a b) (h2 : Below b.drew.heap.size b.drew c) : Below a.heap.size a c :=
  below_next (b := b.drew) ⟨h.os, h.tape, h.output, h.size, h.block⟩ h2
theorem ne_b {a b : Int} (h : a ≠ b) : (a == b) = false := by simpa using h
theorem eq_b {a b : Int} (h : a = b) : (a == b) = true := by simpa using h
theorem nb {a b : Int} (h : a ≠ b) : (a != b) = true := by simpa using h
theorem nb0 {a b : Int} (h : a = b) : (a != b) = false := by simpa using h
/-- From the address A on lie the cells cs (nothing is asked of A where cs is empty). -/
def Row (w : World) (A : Option Addr) (cs : List Value) : Prop :=
  cs = [] ∨ ∃ b off, A = some ⟨b, off, none⟩ ∧ ∀ j u, cs[j]? = some u → w.cell? ⟨b, off + j, none⟩ = some u
theorem lt_of_cell {w : World} {a : Addr} {u : Value} (h : w.cell? a = some u) : a.block < w.heap.size := by
  rcases Nat.lt_or_ge a.block w.heap.size with h1 | h1
  · exact h1
  · rw [World.cell?, Array.getElem?_eq_none h1] at h; cases h
namespace Row
variable {w w' : World} {A : Option Addr} {cs : List Value}
theorem nil : Row w A [] := Or.inl rfl
theorem below (h : Row w A cs) (hb : Below w.heap.size w w') : Row w' A cs := by
  rcases h with h | ⟨b, off, rfl, h⟩
  · exact .inl h
  · exact .inr ⟨b, off, rfl, fun j u hu => (hb.cell (p := ⟨b, off + j, none⟩) (lt_of_cell (h j u hu))).trans (h j u hu)⟩
theorem at_ (h : Row w A cs) {k : Nat} (hk : k < cs.length) : ∃ b off, A = some ⟨b, off, none⟩ ∧ w.cell? ⟨b, off + k, none⟩ = some cs[k] := by
  rcases h with h | ⟨b, off, rfl, h⟩
  · subst h; simp at hk
  · exact ⟨b, off, rfl, h k _ (List.getElem?_eq_getElem hk)⟩
theorem ints {k : IntKind} {zs : List Int} (h : Row w A (zs.map (Value.int k))) {j : Nat} (hj : j < zs.length) :
    ∃ x b off, A = some ⟨b, off, none⟩ ∧ zs[j]? = some x ∧ w.cell? ⟨b, off + j, none⟩ = some (.int k x) := by
  obtain ⟨b, off, h1, h2⟩ := h.at_ (k := j) (by simpa using hj)
  exact ⟨zs[j], b, off, h1, List.getElem?_eq_getElem hj, by simpa using h2⟩
end Row
/-- A slice of integers that came in, as a row. -/
theorem openInts {H : Type} {enc : TypeId × Value → H} {P : Program} {W : World} {base : Nat} {sp : Nat → Bool} {held : Bool} {t e : TypeId} {k : IntKind} {v : Value} {d : DataW H} {ps : List MemPlace}
    {r : Reach} {b0 : Nat} (ht : P.underlying t = some (.slice e)) (he : P.underlying e = some (.int k)) (hc : P.cellsOf e = 1) (hval : Value.okWide P W r b0 t v) (h : DataW.Trod enc P W base sp held t v d ps) :
    ∃ (A : Option Addr) (c : Nat) (zs : List Int), v = .slice A zs.length c ∧ zs.length ≤ c ∧ c ≤ maxLen ∧ Row W A (zs.map (Value.int k)) ∧ (∀ n ∈ zs, (Lit.int k n).wf = true) ∧
      (d = .nil ∧ zs = [] ∨ ∃ spare, d = .slice (lits k zs) spare) := by
  obtain ⟨a0, len0, cap0, rfl⟩ := okWide_slice ht hval
  obtain ⟨fuel, hf⟩ := h
  rcases open_ints ht he hc hf with ⟨h1, h2⟩ | ⟨a, len, cap, zs, h1, hb, hl, hm, hz, h2, hcell, hw⟩
  · simp only [Value.cells, List.cons.injEq, Value.slice.injEq, and_true] at h1
    obtain ⟨rfl, rfl, rfl⟩ := h1
    exact ⟨none, 0, [], rfl, Nat.le_refl _, by simp [maxLen], Row.nil, by simp, .inl ⟨congrArg Prod.fst h2, rfl⟩⟩
  · simp only [Value.cells, List.cons.injEq, Value.slice.injEq, and_true] at h1
    obtain ⟨rfl, rfl, rfl⟩ := h1
    have hlz : len0 ≤ zs.length := by rw [hz]; split <;> omega
    have hlen : (zs.take len0).length = len0 := by rw [List.length_take]; omega
    refine ⟨some a, cap0, zs.take len0, by rw [hlen], by rw [hlen]; exact hl, hm, ?_, fun n hn => hw n (List.mem_of_mem_take hn), .inr ⟨lits k (zs.drop len0), congrArg Prod.fst h2⟩⟩
    rcases Nat.eq_zero_or_pos len0 with h0 | h0
    · subst h0; exact .inl (by simp)
    · obtain ⟨b, off, rfl, hat⟩ := ints_at hcell (by omega)
      refine .inr ⟨b, off, rfl, fun j u hu => ?_⟩
      simp only [List.getElem?_map, List.getElem?_take] at hu
      by_cases hj : j < len0
      · rw [if_pos hj] at hu
        have hjz : j < zs.length := by omega
        rw [hat j hjz]
        simp only [List.getElem?_eq_getElem hjz, Option.map_some, Option.some.injEq] at hu
        simp [List.getD, List.getElem?_eq_getElem hjz, hu]
      · rw [if_neg hj] at hu; cases hu
/-- A row of the call's own, as a slice value and its cells. -/
theorem own_form {w : World} {B size n : Nat} {e : TypeId} {v : Value} {xs : List Value} (h : w.ownsRow B e size v n xs) (hs : 0 < size) :
    ∃ A c, v = .slice A n c ∧ n ≤ c ∧ c ≤ maxLen ∧ xs.length = n * size ∧ Row w A xs ∧ (∀ a, A = some a → B ≤ a.block ∧ a.block < w.heap.size) := by
  obtain ⟨hl, ⟨rfl, rfl⟩ | ⟨g, cap, cur, rfl, hg, hh, hn, hm, hc, hx⟩⟩ := h
  · refine ⟨none, 0, rfl, Nat.le_refl _, by simp [maxLen], hl, ?_, by simp⟩
    rw [Nat.zero_mul] at hl
    exact .inl (List.eq_nil_of_length_eq_zero hl)
  · have hlt : g < w.heap.size := by
      rcases Nat.lt_or_ge g w.heap.size with h1 | h1
      · exact h1
      · rw [Array.getElem?_eq_none h1] at hh; cases hh
    refine ⟨_, cap, rfl, hn, hm, hl, .inr ⟨g, 0, rfl, fun j u hu => ?_⟩, fun a ha => by cases ha; exact ⟨hg, hlt⟩⟩
    have hu' : cur.toList[j]? = some u := by
      rw [← hx, List.getElem?_take] at hu
      split at hu
      · exact hu
      · cases hu
    simpa [World.cell?, hh] using hu'

theorem own_none {w : World} {B size : Nat} {e : TypeId} : w.ownsRow B e size (.slice none 0 0) 0 [] := ⟨by simp, .inl ⟨rfl, rfl⟩⟩

theorem own_new {w : World} {B size : Nat} {e : TypeId} (h : B ≤ w.heap.size) : (w.alloc (.cells #[] e)).ownsRow B e size (.slice (some ⟨w.heap.size, 0, none⟩) 0 0) 0 [] :=
  ⟨by simp, .inr ⟨w.heap.size, 0, #[], rfl, h, heap_alloc_new w _, Nat.le_refl _, by simp [maxLen], by simp, by simp⟩⟩
theorem ones {k : IntKind} {zs : List Int} : ∀ u ∈ zs.map (Value.int k), u.oneCell' = true := by
  intro u hu
  obtain ⟨z, _, rfl⟩ := List.mem_map.1 hu
  rfl
/-- append onto a row of the call's own: whatever row comes behind, nil let in; old blocks stay. -/
theorem wpApp {P : Program} {w : World} {ops : Array Oper} {rest : List Oper} {o : Oper} {a : Act} {Q : Exit → Act → World → Prop} (hgd : o.guard = none) (s x : Operand) (t : TypeId)
    (ho : o.op = .call { callee := .builtin .append, args := #[s, x], argTypes := #[t, t] })
    (B : Nat) (e : TypeId) (i : TypeInfo) (z : Value) (size bytes : Nat) (ht : P.underlying t = some (.slice e)) (hi : P.info? e = some i) (hz : i.zero = some z)
    (hsize : i.size = size) (hby : i.bytes = bytes) (hzs : z.cells.size = size) (hsz : 0 < size)
    (v : Value) (n : Nat) (xs : List Value) (hs : a.eval s = v) (hown : w.ownsRow B e size v n xs)
    (A : Option Addr) (m c : Nat) (news : List Value) (hx : a.eval x = .slice A m c) (hr : Row w A news) (hl : news.length = m * size) (h1 : ∀ u ∈ news, u.oneCell' = true)
    (h63 : n + m ≤ maxLen) (hbytes : (n + m) * bytes ≤ 140737488355328) (hbase : B ≤ w.heap.size)
    (h : ∀ v' w', w'.ownsRow B e size v' (n + m) (xs ++ news) → Below B w w' → wpList P ops Q rest (a.put o.dst v') w') : wpList P ops Q (o :: rest) a w := by
  refine wpList_plain hgd fun K hK => ?_
  rcases A with _ | ad
  · have hn : news = [] := by
      rcases hr with hr | ⟨_, _, hr, _⟩
      · exact hr
      · cases hr
    subst hn
    have hm : m = 0 := by
      rcases Nat.eq_zero_or_pos m with h0 | h0
      · exact h0
      · simp only [List.length_nil] at hl
        have := Nat.mul_pos h0 hsz
        omega
    subst hm
    have hrun : (Builtin.append_ #[t, t] o.type #[v, .slice none 0 c]).run P w = .ok v w := by
      rcases hown.2 with ⟨rfl, rfl⟩ | ⟨g, cap, cur, rfl, _, _, hnc, _⟩
      · simp [Builtin.append_, run_underlying ht, sizeOf, typeInfo, hi, Builtin.lenOf, Builtin.firstCells]
      · simp [Builtin.append_, run_underlying ht, sizeOf, typeInfo, hi, Builtin.lenOf, Builtin.firstCells, hnc, storeCells]
    unfold Oper.wp
    simp only [execOp, ho, resolve, invoke, builtin, Sem.run_bind, Sem.run_pure, Result.andThen_ok, List.map_toArray, List.map_cons, List.map_nil, hs, hx, hrun]
    exact hK _ _ (h v w (by simpa using hown) (Below.refl _ _))
  · have hcells : ∀ j u, news[j]? = some u → w.cell? (ad.add j) = some u := by
      rcases hr with hr | ⟨b, off, hr, hc⟩
      · subst hr; intro j u hu; simp at hu
      · cases hr
        intro j u hu
        rw [Go.WideShapes.add_plain]
        exact hc j u hu
    obtain ⟨v', w', hrun, h2, h3, _⟩ := run_append_own (P := P) w B t o.type e i z size bytes ht hi hz hsize hby hzs hsz v n xs hown ad m c news hl hcells h1 h63 hbytes hbase
    unfold Oper.wp
    simp only [execOp, ho, resolve, invoke, builtin, Sem.run_bind, Sem.run_pure, Result.andThen_ok, List.map_toArray, List.map_cons, List.map_nil, hs, hx, hrun]
    refine hK _ _ (h v' w' h2 ((Below.refl B w).grown h3 hbase fun k hk => ?_))
    rcases hown.2 with ⟨rfl, rfl⟩ | ⟨g, cap, cur, rfl, hg, _⟩
    · simp [Value.ownBlock] at hk
    · simp [Value.ownBlock] at hk; omega
theorem below_al {a b : World} {o : Obj} (h : Below a.heap.size a b) : Below a.heap.size a (b.alloc o) := h.alloc h.size o
/-- A block beside the reader's. -/
def Lies (b : Nat) (C : Array Value) (T : TypeId) (w : World) : Prop := w.heap[b]? = some (.cells C T (0, 0))
theorem Lies.new (w : World) (C : Array Value) (T : TypeId) : Lies w.heap.size C T (w.alloc (.cells C T)) := heap_alloc_new w _
theorem Lies.cell {b : Nat} {C : Array Value} {T : TypeId} {w : World} (h : Lies b C T w) {j : Nat} {v : Value} (hv : C[j]? = some v) : w.cell? ⟨b, j, none⟩ = some v := by
  unfold Lies at h
  simp only [World.cell?, h]
  exact hv
theorem Lies.free {b : Nat} {C : Array Value} {T : TypeId} {w : World} (h : Lies b C T w) (j : Nat) : w.frozen? ⟨b, j, none⟩ = false := by
  unfold Lies at h
  simp [World.frozen?, h]
theorem Lies.set {b : Nat} {C : Array Value} {T : TypeId} {w : World} (h : Lies b C T w) (o : Nat) (v : Value) : Lies b (C.setIfInBounds o v) T (w.setCell ⟨b, o, none⟩ v) := by
  unfold Lies at h ⊢
  exact heap_setCell_same w b o _ T v h
theorem Lies.al {b : Nat} {C : Array Value} {T : TypeId} {w : World} {o : Obj} (h : Lies b C T w) : Lies b C T (w.alloc o) := (Below.heap_alloc w o b (lt_of_block h)).trans h
theorem Lies.other {b c : Nat} {C : Array Value} {T : TypeId} {w : World} (h : Lies b C T w) (hb : b ≠ c) (o : Nat) (v : Value) : Lies b C T (w.setCell ⟨c, o, none⟩ v) := (Below.heap_setCell w ⟨c, o, none⟩ v b hb).trans h
end Go.Proofs.Ytmkbdlailffjeaa
