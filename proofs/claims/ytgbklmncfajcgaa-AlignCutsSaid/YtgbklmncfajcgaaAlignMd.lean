/- AlignCuts: what its first loop gathers: rows, passed, wants, each a row of the call's own; the opening of its arguments. -/
import Derived.Test.YtgbklmncfajcgaaAlignQ
import Derived.Test.YtgbklmncfajcgaaGenSt
import Derived.Laws.EntriesVeiled
namespace Go.Proofs.Ytgbklmncfajcgaa
open Go.ChangeShapes Go.WideShapes Go.ChangeAt Go.RowKit
set_option linter.unusedVariables false
set_option maxRecDepth 8000
namespace Aln
open Gen (TellsB TellsI row_one flat_len flat_get Mine)
open Itm
theorem ws_rows : (30 : TypeId) ≠ 23 := by decide
/-- The three rows: of what length each is already, in the middle of a round. -/
structure SetAt (M : Nat → Prop) (K n1 n2 n3 : Nat) (v1 : Value) (rs : List Hd) (v2 : Value) (ps : List Hd) (v3 : Value) (ws : List Wd) (w : World) : Prop where
  o1 : w.ownsRow K 30 1 v1 n1 (hsc rs)
  o2 : w.ownsRow K 30 1 v2 n2 (hsc ps)
  o3 : w.ownsRow K 23 1 v3 n3 (wsc ws)
  r1 : ∀ x ∈ rs, Row w x.1 (itc x.2.2) ∧ OffR M x.1 (itc x.2.2)
  r3 : ∀ y ∈ ws, HAt w y.1 y.2.2 ∧ OffR M y.1 (hsc y.2.2) ∧ ∀ x ∈ y.2.2, OffR M x.1 (itc x.2.2)
  m1 : ∀ k, v1.ownBlock = some k → M k
  m2 : ∀ k, v2.ownBlock = some k → M k
  m3 : ∀ k, v3.ownBlock = some k → M k
  d12 : ∀ k, v1.ownBlock = some k → v2.ownBlock ≠ some k
  lt : ∀ k, M k → k < w.heap.size
section
variable {M : Nat → Prop} {K n1 n2 n3 : Nat} {v1 : Value} {rs : List Hd} {v2 : Value} {ps : List Hd} {v3 : Value} {ws : List Wd} {w w' : World}
theorem SetAt.next (h : SetAt M K n1 n2 n3 v1 rs v2 ps v3 ws w) (hb : Below w.heap.size w w') : SetAt M K n1 n2 n3 v1 rs v2 ps v3 ws w' :=
  ⟨own_upA h.o1 hb, own_upA h.o2 hb, own_upA h.o3 hb, fun x hx => ⟨(h.r1 x hx).1.below hb, (h.r1 x hx).2⟩, fun y hy => ⟨(h.r3 y hy).1.below hb, (h.r3 y hy).2⟩, h.m1, h.m2, h.m3, h.d12, fun k hk => Nat.lt_of_lt_of_le (h.lt k hk) hb.size⟩
/-- A store into a block of M that is none of the three rows' (a variable). -/
theorem SetAt.put (h : SetAt M K n1 n2 n3 v1 rs v2 ps v3 ws w) {p : Addr} (v : Value) (hp : M p.block) (h1 : v1.ownBlock ≠ some p.block) (h2 : v2.ownBlock ≠ some p.block) (h3 : v3.ownBlock ≠ some p.block) : SetAt M K n1 n2 n3 v1 rs v2 ps v3 ws (w.setCell p v) := by
  have m : Mine M w (w.setCell p v) := Mine.set w v hp
  exact ⟨own_setA h.o1 p h1 v, own_setA h.o2 p h2 v, own_setA h.o3 p h3 v, fun x hx => ⟨(h.r1 x hx).2.row m (h.r1 x hx).1, (h.r1 x hx).2⟩, fun y hy => by
    obtain ⟨a1, a2, a3⟩ := h.r3 y hy
    exact ⟨⟨a2.row m a1.row, fun x hx => (a3 x hx).row m (a1.each x hx)⟩, a2, a3⟩, h.m1, h.m2, h.m3, h.d12, fun k hk => Nat.lt_of_lt_of_le (h.lt k hk) m.size⟩
/-- What the rows hold stands while one of them grows. -/
theorem SetAt.stay (h : SetAt M K n1 n2 n3 v1 rs v2 ps v3 ws w) (m : Mine M w w') {M' : Nat → Prop} (hM : ∀ k, M' k → M k ∨ w.heap.size ≤ k) :
    (∀ x ∈ rs, Row w' x.1 (itc x.2.2) ∧ OffR M' x.1 (itc x.2.2)) ∧ ∀ y ∈ ws, HAt w' y.1 y.2.2 ∧ OffR M' y.1 (hsc y.2.2) ∧ ∀ x ∈ y.2.2, OffR M' x.1 (itc x.2.2) :=
  ⟨fun x hx => ⟨(h.r1 x hx).2.row m (h.r1 x hx).1, (h.r1 x hx).2.more (h.r1 x hx).1 hM⟩, fun y hy => by
    obtain ⟨a1, a2, a3⟩ := h.r3 y hy
    exact ⟨⟨a2.row m a1.row, fun x hx => (a3 x hx).row m (a1.each x hx)⟩, a2.more a1.row hM, fun x hx => (a3 x hx).more (a1.each x hx) hM⟩⟩
theorem own_more {v v' : Value} (hm : ∀ k, v.ownBlock = some k → M k) (hl : v'.ownBlock = v.ownBlock ∨ v'.ownBlock = some w.heap.size) : ∀ k, (M k ∨ v'.ownBlock = some k) → M k ∨ w.heap.size ≤ k := by
  rintro k (hk | hk)
  · exact .inl hk
  · rcases hl with e | e
    · rw [e] at hk; exact .inl (hm k hk)
    · rw [e] at hk; cases hk; exact .inr (Nat.le_refl _)
theorem SetAt.push1 (h : SetAt M K n1 n2 n3 v1 rs v2 ps v3 ws w) {v' : Value} {y : Hd} (hg : w.grownBy w' v1.ownBlock) (ho : w'.ownsRow K 30 1 v' (n1 + 1) (hsc (rs ++ [y]))) (hl : v'.ownBlock = v1.ownBlock ∨ v'.ownBlock = some w.heap.size) (hy : Row w y.1 (itc y.2.2)) (hyo : OffR M y.1 (itc y.2.2)) :
    ∃ M' : Nat → Prop, SetAt M' K (n1 + 1) n2 n3 v' (rs ++ [y]) v2 ps v3 ws w' ∧ Mine M w w' ∧ (∀ k, M' k → M k ∨ w.heap.size ≤ k) ∧ (∀ k, M k → M' k) := by
  have mM : Mine M w w' := Mine.grown hg h.m1
  have hM := own_more (w := w) h.m1 hl
  obtain ⟨s1, s3⟩ := h.stay mM hM
  refine ⟨fun k => M k ∨ v'.ownBlock = some k, ⟨ho, own_grownA h.o2 hg (fun q hq e => h.d12 q e hq), own_grownA h.o3 hg (own_kindA h.o3 h.o1 (Ne.symm ws_rows)), fun x hx => ?_, s3, fun k hk => .inr hk, fun k hk => .inl (h.m2 k hk), fun k hk => .inl (h.m3 k hk), fun k hk e => ?_, fun k hk => ?_⟩, mM, hM, fun k hk => .inl hk⟩
  · rcases List.mem_append.1 hx with hx | hx
    · exact s1 x hx
    · rw [List.mem_singleton.1 hx]; exact ⟨hyo.row mM hy, hyo.more hy hM⟩
  · rcases hl with e1 | e1
    · rw [e1] at hk; exact h.d12 k hk e
    · rw [e1] at hk; cases hk; have := h.lt _ (h.m2 _ e); omega
  · rcases hk with hk | hk
    · exact Nat.lt_of_lt_of_le (h.lt k hk) mM.size
    · exact (ho.lt k hk).2
theorem SetAt.push2 (h : SetAt M K n1 n2 n3 v1 rs v2 ps v3 ws w) {v' : Value} {y : Hd} (hg : w.grownBy w' v2.ownBlock) (ho : w'.ownsRow K 30 1 v' (n2 + 1) (hsc (ps ++ [y]))) (hl : v'.ownBlock = v2.ownBlock ∨ v'.ownBlock = some w.heap.size) :
    ∃ M' : Nat → Prop, SetAt M' K n1 (n2 + 1) n3 v1 rs v' (ps ++ [y]) v3 ws w' ∧ Mine M w w' ∧ (∀ k, M' k → M k ∨ w.heap.size ≤ k) ∧ (∀ k, M k → M' k) := by
  have mM : Mine M w w' := Mine.grown hg h.m2
  have hM := own_more (w := w) h.m2 hl
  obtain ⟨s1, s3⟩ := h.stay mM hM
  refine ⟨fun k => M k ∨ v'.ownBlock = some k, ⟨own_grownA h.o1 hg h.d12, ho, own_grownA h.o3 hg (own_kindA h.o3 h.o2 (Ne.symm ws_rows)), s1, s3, fun k hk => .inl (h.m1 k hk), fun k hk => .inr hk, fun k hk => .inl (h.m3 k hk), fun k hk e => ?_, fun k hk => ?_⟩, mM, hM, fun k hk => .inl hk⟩
  · rcases hl with e1 | e1
    · rw [e1] at e; exact h.d12 k hk e
    · rw [e1] at e; cases e; have := h.lt _ (h.m1 _ hk); omega
  · rcases hk with hk | hk
    · exact Nat.lt_of_lt_of_le (h.lt k hk) mM.size
    · exact (ho.lt k hk).2
theorem SetAt.push3 (h : SetAt M K n1 n2 n3 v1 rs v2 ps v3 ws w) {v' : Value} {y : Wd} (hg : w.grownBy w' v3.ownBlock) (ho : w'.ownsRow K 23 1 v' (n3 + 1) (wsc (ws ++ [y]))) (hl : v'.ownBlock = v3.ownBlock ∨ v'.ownBlock = some w.heap.size) (hy : HAt w y.1 y.2.2) (hyo : OffR M y.1 (hsc y.2.2)) (hye : ∀ x ∈ y.2.2, OffR M x.1 (itc x.2.2)) :
    ∃ M' : Nat → Prop, SetAt M' K n1 n2 (n3 + 1) v1 rs v2 ps v' (ws ++ [y]) w' ∧ Mine M w w' ∧ (∀ k, M' k → M k ∨ w.heap.size ≤ k) ∧ (∀ k, M k → M' k) := by
  have mM : Mine M w w' := Mine.grown hg h.m3
  have hM := own_more (w := w) h.m3 hl
  obtain ⟨s1, s3⟩ := h.stay mM hM
  refine ⟨fun k => M k ∨ v'.ownBlock = some k, ⟨own_grownA h.o1 hg (own_kindA h.o1 h.o3 ws_rows), own_grownA h.o2 hg (own_kindA h.o2 h.o3 ws_rows), ho, s1, fun z hz => ?_, fun k hk => .inl (h.m1 k hk), fun k hk => .inl (h.m2 k hk), fun k hk => .inr hk, h.d12, fun k hk => ?_⟩, mM, hM, fun k hk => .inl hk⟩
  · rcases List.mem_append.1 hz with hz | hz
    · exact s3 z hz
    · rw [List.mem_singleton.1 hz]
      exact ⟨⟨hyo.row mM hy.row, fun x hx => (hye x hx).row mM (hy.each x hx)⟩, hyo.more hy.row hM, fun x hx => (hye x hx).more (hy.each x hx) hM⟩
  · rcases hk with hk | hk
    · exact Nat.lt_of_lt_of_le (h.lt k hk) mM.size
    · exact (ho.lt k hk).2
end
-- the first loop, and how its end becomes the closure's state
theorem new_is {n : Nat} (h1 : 1 ≤ n) (h2 : n ≤ 8) : newO (n : Int) = (anew n, 0) := by
  unfold newO
  split
  · rename_i h; omega
  · rw [Int.toNat_natCast]
/-- In the first loop. -/
structure LoAt (w0 : World) (ba b1 b2 B n j : Nat) (a : Al) (G : Option Addr) (cG : Nat) (H : Option Addr) (cH : Nat) (M : Nat → Prop) (v1 v2 v3 : Value) (rs : List Hd) (ws : List Wd) (w : World) : Prop where
  st : SetAt M w0.heap.size j j j v1 rs v2 (List.replicate j noHd) v3 ws w
  l1 : Lies b1 #[v2] 23 w
  l2 : Lies b2 #[v3] 52 w
  m1 : M b1
  m2 : M b2
  mb : M ba
  la : Lies ba (alC a.n G n cG H n cH) 25 w
  am : AlM M w a n n G cG H cH
  mlo : ∀ k, M k → w0.heap.size ≤ k
  ka : w0.heap.size ≤ ba
  rok : ∀ x ∈ rs, RowOk B x.2.2 ∧ x.2.2.length ≤ 14 ∧ x.2.2.length ≤ x.2.1
  wok : ws.map (fun y => y.2.2.map (fun x => x.2.2)) = rs.map (fun x => cutsR x.2.2)
  below : Below w0.heap.size w0 w
theorem LoAt.next {w0 : World} {ba b1 b2 B n j : Nat} {a : Al} {G : Option Addr} {cG : Nat} {H : Option Addr} {cH : Nat} {M : Nat → Prop} {v1 v2 v3 : Value} {rs : List Hd} {ws : List Wd} {w w' : World} (h : LoAt w0 ba b1 b2 B n j a G cG H cH M v1 v2 v3 rs ws w) (hb : Below w.heap.size w w') : LoAt w0 ba b1 b2 B n j a G cG H cH M v1 v2 v3 rs ws w' :=
  ⟨h.st.next hb, h.l1.below hb, h.l2.below hb, h.m1, h.m2, h.mb, h.la.below hb, h.am.below hb, h.mlo, h.ka, h.rok, h.wok, below_next h.below hb⟩
theorem lies_ne {w : World} {b b' : Nat} {C C' : Array Value} {T T' : TypeId} (h : Lies b C T w) (h' : Lies b' C' T' w) (hT : T ≠ T') : b ≠ b' := by
  intro e
  subst e
  have h1 : w.heap[b]? = some _ := h
  have h2 : w.heap[b]? = some _ := h'
  rw [h1] at h2
  cases h2
  exact hT rfl
theorem row_ofA {w : World} {B size n c : Nat} {e : TypeId} {A : Option Addr} {xs : List Value} (h : w.ownsRow B e size (.slice A n c) n xs) (h0 : 0 < size) : Row w A xs := by
  obtain ⟨A', c', hv, _, _, _, h3, _⟩ := own_form h h0
  cases hv
  exact h3
/-- The first loop is done: the closure's state. -/
theorem LoAt.close {w0 : World} {ba b1 b2 B n g c2 : Nat} {G : Option Addr} {cG : Nat} {H : Option Addr} {cH : Nat} {M : Nat → Prop} {v1 : Value} {W : Option Addr} {cW : Nat} {rs : List Hd} {ws : List Wd} {w W8 : World} {b16 b17 b18 : Nat}
    (h : LoAt w0 ba b1 b2 B n n (anew n) G cG H cH M v1 (.slice (some ⟨g, 0, none⟩) n c2) (.slice W n cW) rs ws w) (e16 : b16 = w.heap.size) (e17 : b17 = w.heap.size + 1) (e18 : b18 = w.heap.size + 1 + 1)
    (hb : Below w.heap.size w W8) (l16 : Lies b16 #[.int .i64 ((0 : Nat) : Int)] 3 W8) (l17 : Lies b17 #[.bool true] 4 W8) (l18 : Lies b18 #[offV ⟨ba, b17, b1, b16, b2, b18⟩] 55 W8) :
    CuAt (fun k => k = ba ∨ k = b16 ∨ k = b17 ∨ k = g) (fun k => (k = ba ∨ k = b16 ∨ k = b17 ∨ k = g) ∨ v1.ownBlock = some k) ⟨ba, b17, b1, b16, b2, b18⟩ w0.heap.size n g c2 W cW ws (anew n) G cG H cH 0 (List.replicate n noHd) W8 := by
  have h8 := h.next hb
  have hM : ∀ k, (k = ba ∨ k = b16 ∨ k = b17 ∨ k = g) → M k ∨ w.heap.size ≤ k := by
    rintro k (e | e | e | e)
    · subst e; exact .inl h.mb
    · exact .inr (by omega)
    · exact .inr (by omega)
    · subst e; exact .inl (h.st.m2 _ rfl)
  have hN : ∀ k, ((k = ba ∨ k = b16 ∨ k = b17 ∨ k = g) ∨ v1.ownBlock = some k) → M k ∨ w.heap.size ≤ k := fun k hk => hk.elim (hM k) fun e => .inl (h.st.m1 k e)
  have lg := h.st.lt g (h.st.m2 _ rfl)
  have la := h.st.lt ba h.mb
  have l1 := h.st.lt b1 h.m1
  have l2 := h.st.lt b2 h.m2
  obtain ⟨_, s3⟩ := h.st.stay (Mine.up hb) hN
  have gne : ∀ {q : Nat} {C : Array Value} {T : TypeId}, Lies q C T W8 → (30 : TypeId) ≠ T → q ≠ g := fun hl hT e => Gen.own_apart h8.st.o2 hl hT (by rw [e]; rfl)
  have z18 := lt_of_block l18
  refine ⟨⟨h8.l1, h8.l2, l18, ⟨row_ofA h8.st.o3 (by omega), ?_, s3⟩, fun k hk => .inl hk, ?_, ?_, ?_, .inl rfl, .inr (.inr (.inl rfl)), .inr (.inl rfl), .inr (.inr (.inr rfl)), ?_, ?_, ?_, ?_⟩, h8.la, l17, l16, (h.am.more hN).below hb, ⟨h8.st.o2, fun x hx => ?_, fun i j x y _ hx hy k hk => ?_⟩, fun x hx k hk => ?_⟩
  · obtain ⟨_, ⟨e0, _⟩ | ⟨g3, cap, cur, e0, _, hh, _⟩⟩ := h8.st.o3
    · cases e0
      exact .inr fun x hx => (by cases hx)
    · cases e0
      right
      intro x hx hm
      cases hx
      simp only at hm
      have hL : Lies g3 cur 23 W8 := hh
      rcases hm with (e | e | e | e) | e
      · exact lies_ne hL h8.la (by decide) e
      · exact lies_ne hL l16 (by decide) e
      · exact lies_ne hL l17 (by decide) e
      · exact gne hL (by decide) e
      · exact own_kindA h8.st.o1 h8.st.o3 ws_rows _ e rfl
  · rintro (e | e | e | e)
    · exact lies_ne h8.l1 h8.la (by decide) e
    · simp only at e; omega
    · simp only at e; omega
    · exact gne h8.l1 (by decide) e
  · rintro (e | e | e | e)
    · exact lies_ne h8.l2 h8.la (by decide) e
    · simp only at e; omega
    · simp only at e; omega
    · exact gne h8.l2 (by decide) e
  · rintro (e | e | e | e) <;> simp only at e <;> omega
  · show ba ≠ b17; omega
  · show ba ≠ b16; omega
  · show b17 ≠ b16; omega
  · rintro k ((e | e | e | e) | e)
    · omega
    · omega
    · omega
    · omega
    · have := h.st.lt k (h.st.m1 k e); omega
  · rw [(List.mem_replicate.1 hx).2]; exact own_none
  · rw [(List.mem_replicate.1 (List.mem_of_getElem? hx)).2] at hk; cases hk
  · rw [(List.mem_replicate.1 hx).2] at hk; cases hk
-- a round of it, step by step
theorem InfoW : (Try.prog.info? 23).map (fun i => (i.zero, i.size, i.bytes)) = some (some (.slice none 0 0), 1, 24) := by kernel_rfl
theorem lenW (l : List Wd) : (wsc l).length = l.length * 1 := flat_len wsL wsL_len l
theorem appW (l m : List Wd) : wsc (l ++ m) = wsc l ++ wsc m := by simp [wsc]
theorem new_cells {w : World} {s : Nat} {v : Value} {T : TypeId} (h : Lies s #[v] T w) : ∀ j u, [v][j]? = some u → w.cell? ((⟨s, 0, none⟩ : Addr).add j) = some u := fun j u hu => by
  rw [Go.WideShapes.add_plain]
  refine h.cell ?_
  rw [Nat.zero_add, ← hu]
  simp
/-- Within a round. -/
structure MdAt (w0 : World) (ba b1 b2 n : Nat) (a : Al) (G : Option Addr) (cG : Nat) (H : Option Addr) (cH : Nat) (M : Nat → Prop) (n1 n2 n3 : Nat) (v1 : Value) (rs : List Hd) (v2 : Value) (ps : List Hd) (v3 : Value) (ws : List Wd) (u2 u3 : Value) (w : World) : Prop where
  st : SetAt M w0.heap.size n1 n2 n3 v1 rs v2 ps v3 ws w
  l1 : Lies b1 #[u2] 23 w
  l2 : Lies b2 #[u3] 52 w
  d3 : v3.ownBlock ≠ some b1
  m1 : M b1
  m2 : M b2
  mb : M ba
  la : Lies ba (alC a.n G n cG H n cH) 25 w
  am : AlM M w a n n G cG H cH
  mlo : ∀ k, M k → w0.heap.size ≤ k
  below : Below w0.heap.size w0 w
section
variable {w0 : World} {ba b1 b2 n : Nat} {a : Al} {G : Option Addr} {cG : Nat} {H : Option Addr} {cH : Nat} {M : Nat → Prop} {n1 n2 n3 : Nat} {v1 : Value} {rs : List Hd} {v2 : Value} {ps : List Hd} {v3 : Value} {ws : List Wd} {u2 u3 : Value} {w w' : World}
theorem MdAt.next (h : MdAt w0 ba b1 b2 n a G cG H cH M n1 n2 n3 v1 rs v2 ps v3 ws u2 u3 w) (hb : Below w.heap.size w w') : MdAt w0 ba b1 b2 n a G cG H cH M n1 n2 n3 v1 rs v2 ps v3 ws u2 u3 w' :=
  ⟨h.st.next hb, h.l1.below hb, h.l2.below hb, h.d3, h.m1, h.m2, h.mb, h.la.below hb, h.am.below hb, h.mlo, below_next h.below hb⟩
theorem LoAt.mid {j B : Nat} (h : LoAt w0 ba b1 b2 B n j a G cG H cH M v1 v2 v3 rs ws w) (hd : v3.ownBlock ≠ some b1) : MdAt w0 ba b1 b2 n a G cG H cH M j j j v1 rs v2 (List.replicate j noHd) v3 ws v2 v3 w :=
  ⟨h.st, h.l1, h.l2, hd, h.m1, h.m2, h.mb, h.la, h.am, h.mlo, h.below⟩
theorem MdAt.lo {j B : Nat} (h : MdAt w0 ba b1 b2 n a G cG H cH M j j j v1 rs v2 (List.replicate j noHd) v3 ws v2 v3 w) (rok : ∀ x ∈ rs, RowOk B x.2.2 ∧ x.2.2.length ≤ 14 ∧ x.2.2.length ≤ x.2.1) (wok : ws.map (fun y => y.2.2.map (fun x => x.2.2)) = rs.map (fun x => cutsR x.2.2)) (ka : w0.heap.size ≤ ba) : LoAt w0 ba b1 b2 B n j a G cG H cH M v1 v2 v3 rs ws w :=
  ⟨h.st, h.l1, h.l2, h.m1, h.m2, h.mb, h.la, h.am, h.mlo, ka, rok, wok, h.below⟩
/-- What a push leaves of the rest. -/
theorem MdAt.rest (h : MdAt w0 ba b1 b2 n a G cG H cH M n1 n2 n3 v1 rs v2 ps v3 ws u2 u3 w) {M' : Nat → Prop} {row : Option Nat} (hg : w.grownBy w' row) (mM : Mine M w w') (hM : ∀ k, M' k → M k ∨ w.heap.size ≤ k) (hM2 : ∀ k, M k → M' k) {m1 m2 m3 : Nat} {v1' : Value} {rs' : List Hd} {v2' : Value} {ps' : List Hd} {v3' : Value} {ws' : List Wd}
    (hs : SetAt M' w0.heap.size m1 m2 m3 v1' rs' v2' ps' v3' ws' w') (r1 : row ≠ some b1) (r2 : row ≠ some b2) (ra : row ≠ some ba) (d3 : v3'.ownBlock ≠ some b1) : MdAt w0 ba b1 b2 n a G cG H cH M' m1 m2 m3 v1' rs' v2' ps' v3' ws' u2 u3 w' :=
  ⟨hs, lies_grownA h.l1 hg r1, lies_grownA h.l2 hg r2, d3, hM2 _ h.m1, hM2 _ h.m2, hM2 _ h.mb, lies_grownA h.la hg ra, (h.am.more hM).mine (mM.sub hM2), fun k hk => (hM k hk).elim (h.mlo k) fun e => Nat.le_trans h.below.size e,
    Mine.below h.below mM h.mlo h.below.size⟩
theorem MdAt.push1 (h : MdAt w0 ba b1 b2 n a G cG H cH M n1 n2 n3 v1 rs v2 ps v3 ws u2 u3 w) {v' : Value} {y : Hd} (hg : w.grownBy w' v1.ownBlock) (ho : w'.ownsRow w0.heap.size 30 1 v' (n1 + 1) (hsc (rs ++ [y]))) (hl : v'.ownBlock = v1.ownBlock ∨ v'.ownBlock = some w.heap.size) (hy : Row w y.1 (itc y.2.2)) (hyo : OffR M y.1 (itc y.2.2)) :
    ∃ M' : Nat → Prop, MdAt w0 ba b1 b2 n a G cG H cH M' (n1 + 1) n2 n3 v' (rs ++ [y]) v2 ps v3 ws u2 u3 w' := by
  obtain ⟨M', h1, h2, h3, h4⟩ := h.st.push1 hg ho hl hy hyo
  exact ⟨M', h.rest hg h2 h3 h4 h1 (Gen.own_apart h.st.o1 h.l1 (by decide)) (Gen.own_apart h.st.o1 h.l2 (by decide)) (Gen.own_apart h.st.o1 h.la (by decide)) h.d3⟩
theorem MdAt.push2 (h : MdAt w0 ba b1 b2 n a G cG H cH M n1 n2 n3 v1 rs v2 ps v3 ws u2 u3 w) {v' : Value} {y : Hd} (hg : w.grownBy w' v2.ownBlock) (ho : w'.ownsRow w0.heap.size 30 1 v' (n2 + 1) (hsc (ps ++ [y]))) (hl : v'.ownBlock = v2.ownBlock ∨ v'.ownBlock = some w.heap.size) :
    ∃ M' : Nat → Prop, MdAt w0 ba b1 b2 n a G cG H cH M' n1 (n2 + 1) n3 v1 rs v' (ps ++ [y]) v3 ws u2 u3 w' := by
  obtain ⟨M', h1, h2, h3, h4⟩ := h.st.push2 hg ho hl
  exact ⟨M', h.rest hg h2 h3 h4 h1 (Gen.own_apart h.st.o2 h.l1 (by decide)) (Gen.own_apart h.st.o2 h.l2 (by decide)) (Gen.own_apart h.st.o2 h.la (by decide)) h.d3⟩
theorem MdAt.push3 (h : MdAt w0 ba b1 b2 n a G cG H cH M n1 n2 n3 v1 rs v2 ps v3 ws u2 u3 w) {v' : Value} {y : Wd} (hg : w.grownBy w' v3.ownBlock) (ho : w'.ownsRow w0.heap.size 23 1 v' (n3 + 1) (wsc (ws ++ [y]))) (hl : v'.ownBlock = v3.ownBlock ∨ v'.ownBlock = some w.heap.size) (hy : HAt w y.1 y.2.2) (hyo : OffR M y.1 (hsc y.2.2)) (hye : ∀ x ∈ y.2.2, OffR M x.1 (itc x.2.2)) :
    ∃ M' : Nat → Prop, MdAt w0 ba b1 b2 n a G cG H cH M' n1 n2 (n3 + 1) v1 rs v2 ps v' (ws ++ [y]) u2 u3 w' := by
  obtain ⟨M', h1, h2, h3, h4⟩ := h.st.push3 hg ho hl hy hyo hye
  refine ⟨M', h.rest hg h2 h3 h4 h1 h.d3 (Gen.own_apart h.st.o3 h.l2 (by decide)) (Gen.own_apart h.st.o3 h.la (by decide)) ?_⟩
  rcases hl with e | e
  · rw [e]; exact h.d3
  · rw [e]
    intro e2
    have := lt_of_block h.l1
    cases e2
    omega
/-- The variable passed is stored. -/
theorem MdAt.put1 (h : MdAt w0 ba b1 b2 n a G cG H cH M n1 n2 n3 v1 rs v2 ps v3 ws u2 u3 w) (v : Value) : MdAt w0 ba b1 b2 n a G cG H cH M n1 n2 n3 v1 rs v2 ps v3 ws v u3 (w.setCell ⟨b1, 0, none⟩ v) := by
  have hs := h.st.put (p := ⟨b1, 0, none⟩) v h.m1 (Gen.own_apart h.st.o1 h.l1 (by decide)) (Gen.own_apart h.st.o2 h.l1 (by decide)) h.d3
  have m : Mine M w (w.setCell ⟨b1, 0, none⟩ v) := Mine.set w v h.m1
  exact ⟨hs, by have := h.l1.set 0 v; simpa using this, h.l2.other (lies_ne h.l2 h.l1 (by decide)) _ _, h.d3, h.m1, h.m2, h.mb, h.la.other (lies_ne h.la h.l1 (by decide)) _ _, h.am.mine m, h.mlo, h.below.setCell (p := ⟨b1, 0, none⟩) (h.mlo _ h.m1) v⟩
theorem MdAt.put2 (h : MdAt w0 ba b1 b2 n a G cG H cH M n1 n2 n3 v1 rs v2 ps v3 ws u2 u3 w) (v : Value) : MdAt w0 ba b1 b2 n a G cG H cH M n1 n2 n3 v1 rs v2 ps v3 ws u2 v (w.setCell ⟨b2, 0, none⟩ v) := by
  have hs := h.st.put (p := ⟨b2, 0, none⟩) v h.m2 (Gen.own_apart h.st.o1 h.l2 (by decide)) (Gen.own_apart h.st.o2 h.l2 (by decide)) (Gen.own_apart h.st.o3 h.l2 (by decide))
  have m : Mine M w (w.setCell ⟨b2, 0, none⟩ v) := Mine.set w v h.m2
  exact ⟨hs, h.l1.other (lies_ne h.l1 h.l2 (by decide)) _ _, by have := h.l2.set 0 v; simpa using this, h.d3, h.m1, h.m2, h.mb, h.la.other (lies_ne h.la h.l2 (by decide)) _ _, h.am.mine m, h.mlo, h.below.setCell (p := ⟨b2, 0, none⟩) (h.mlo _ h.m2) v⟩
end
-- the loop of turns
/-- How many items are left. -/
def leftL (rs : List Hd) : Nat := (rs.map (fun x => x.2.2.length)).sum
theorem leftL_step {rs : List Hd} {t : Nat} {x : Hd} (h : rs[t]? = some x) : leftL (rs.take (t + 1)) = leftL (rs.take t) + x.2.2.length := by
  unfold leftL
  rw [List.take_add_one, h]
  simp
theorem leftL_le {c : Nat} : ∀ (rs : List Hd), (∀ x ∈ rs, x.2.2.length ≤ c) → leftL rs ≤ rs.length * c
  | [], _ => by simp [leftL]
  | x :: r, h => by
    have ih := leftL_le r fun y hy => h y (List.mem_cons_of_mem _ hy)
    have h0 := h x (by simp)
    unfold leftL at ih ⊢
    rw [List.map_cons, List.sum_cons, List.length_cons, Nat.add_mul]
    omega
theorem leftL_cons (x : Hd) (r : List Hd) : leftL (x :: r) = x.2.2.length + leftL r := by
  unfold leftL
  rw [List.map_cons, List.sum_cons]
theorem leftL_set : ∀ {rs : List Hd} {k : Nat} {x y : Hd}, rs[k]? = some x → x.2.2.length = y.2.2.length + 1 → leftL (rs.set k y) + 1 = leftL rs
  | [], k, x, y, h, _ => by simp at h
  | z :: r, 0, x, y, h, hl => by
    simp only [List.getElem?_cons_zero, Option.some.injEq] at h
    subst h
    rw [List.set_cons_zero, leftL_cons, leftL_cons]
    omega
  | z :: r, k + 1, x, y, h, hl => by
    rw [List.getElem?_cons_succ] at h
    have ih := leftL_set (y := y) h hl
    rw [List.set_cons_succ, leftL_cons, leftL_cons]
    omega
theorem leftL_zero : ∀ {rs : List Hd}, leftL rs = 0 → ∀ x ∈ rs, x.2.2 = []
  | [], _, x, hx => by cases hx
  | z :: r, h, x, hx => by
    rw [leftL_cons] at h
    rcases List.mem_cons.1 hx with rfl | hx
    · exact List.eq_nil_of_length_eq_zero (by omega)
    · exact leftL_zero (by omega) x hx
theorem leftL_pos : ∀ {rs : List Hd}, 0 < leftL rs → ∃ (k : Nat) (x : Hd), rs[k]? = some x ∧ 0 < x.2.2.length
  | [], h => by simp [leftL] at h
  | z :: r, h => by
    rw [leftL_cons] at h
    rcases Nat.eq_zero_or_pos z.2.2.length with h0 | h0
    · obtain ⟨k, x, hx, hl⟩ := leftL_pos (rs := r) (by omega)
      exact ⟨k + 1, x, by rw [List.getElem?_cons_succ]; exact hx, hl⟩
    · exact ⟨0, z, rfl, h0⟩
/-- How often row k's turn has come behind i rounds. -/
def vis (n i k : Nat) : Nat := (i + n - 1 - k) / n
theorem vis_step {n i k : Nat} (h1 : 1 ≤ n) (h2 : n ≤ 8) (hk : k < n) : vis n (i + 1) k = vis n i k + (if i % n = k then 1 else 0) := by
  unfold vis
  have : n = 1 ∨ n = 2 ∨ n = 3 ∨ n = 4 ∨ n = 5 ∨ n = 6 ∨ n = 7 ∨ n = 8 := by omega
  rcases this with rfl | rfl | rfl | rfl | rfl | rfl | rfl | rfl <;> split <;> omega
theorem vis_bound {n i z k : Nat} (h1 : 1 ≤ n) (h2 : n ≤ 8) (hk : k < n) (h : 0 < 14 + vis n z k - vis n i k) : i < z + 128 := by
  unfold vis at h
  have : n = 1 ∨ n = 2 ∨ n = 3 ∨ n = 4 ∨ n = 5 ∨ n = 6 ∨ n = 7 ∨ n = 8 := by omega
  rcases this with rfl | rfl | rfl | rfl | rfl | rfl | rfl | rfl <;> omega
/-- How long the rows may still be. -/
def Few (n nz i : Nat) (rs : List Hd) : Prop := ∀ (k : Nat) (x : Hd), rs[k]? = some x → x.2.2.length ≤ 14 ∧ (nz ≤ i → x.2.2.length ≤ 14 + vis n nz k - vis n i k)
theorem Few.lt {n nz i : Nat} {rs : List Hd} (h : Few n nz i rs) (h1 : 1 ≤ n) (h2 : n ≤ 8) (hl : rs.length = n) (hp : 0 < leftL rs) : i < nz + 128 := by
  obtain ⟨k, x, hx, h0⟩ := leftL_pos hp
  have hk := (List.getElem?_eq_some_iff.1 hx).1
  rcases Nat.lt_or_ge i nz with h3 | h3
  · omega
  · have := (h k x hx).2 h3
    exact vis_bound h1 h2 (by omega) (k := k) (by omega)
/-- Nothing is taken. -/
theorem Few.skip {n nz i : Nat} {rs : List Hd} (h : Few n nz i rs) (h1 : 1 ≤ n) (h2 : n ≤ 8) (hl : rs.length = n) (he : nz ≤ i → ∀ x, rs[i % n]? = some x → x.2.2.length = 0) : Few n nz (i + 1) rs := by
  intro k x hx
  have hk := (List.getElem?_eq_some_iff.1 hx).1
  refine ⟨(h k x hx).1, fun h3 => ?_⟩
  rcases Nat.lt_or_ge i nz with h4 | h4
  · have e : nz = i + 1 := by omega
    rw [e]
    have := (h k x hx).1
    omega
  · have h5 := (h k x hx).2 h4
    have h6 := vis_step (i := i) h1 h2 (show k < n by omega)
    by_cases e : i % n = k
    · have := he h4 x (by rw [e]; exact hx)
      omega
    · rw [if_neg e] at h6
      omega
/-- Row j gives one. -/
theorem Few.take {n nz i : Nat} {rs : List Hd} (h : Few n nz i rs) (h1 : 1 ≤ n) (h2 : n ≤ 8) (hl : rs.length = n) {j : Nat} {x y : Hd} (hx : rs[j]? = some x) (hy : x.2.2.length = y.2.2.length + 1) (hj : nz ≤ i → i % n = j) : Few n nz (i + 1) (rs.set j y) := by
  intro k z hz
  rcases set_at hz with ⟨rfl, rfl⟩ | ⟨hne, hz⟩
  · refine ⟨by have := (h k x hx).1; omega, fun h3 => ?_⟩
    rcases Nat.lt_or_ge i nz with h4 | h4
    · have e : nz = i + 1 := by omega
      rw [e]
      have := (h k x hx).1
      omega
    · have h5 := (h k x hx).2 h4
      have hk := (List.getElem?_eq_some_iff.1 hx).1
      have h6 := vis_step (i := i) h1 h2 (show k < n by omega)
      rw [if_pos (hj h4)] at h6
      omega
  · have hk := (List.getElem?_eq_some_iff.1 hz).1
    refine ⟨(h k z hz).1, fun h3 => ?_⟩
    rcases Nat.lt_or_ge i nz with h4 | h4
    · have e : nz = i + 1 := by omega
      rw [e]
      have := (h k z hz).1
      omega
    · have h5 := (h k z hz).2 h4
      have h6 := vis_step (i := i) h1 h2 (show k < n by omega)
      rw [if_neg (by rw [hj h4]; exact fun e => hne e.symm)] at h6
      omega
/-- A turn's input. -/
theorem turn_in {n : Nat} (h1 : 1 ≤ n) (z : Int) : ∃ k : Nat, k < n ∧ ((z.tmod (n : Int)) + (n : Int)).tmod (n : Int) = (k : Int) ∧ -(n : Int) < z.tmod (n : Int) ∧ z.tmod (n : Int) < (n : Int) := by
  have hp : (0 : Int) < (n : Int) := by omega
  have h3 : (-z).tmod (n : Int) < (n : Int) := Int.tmod_lt_of_pos (-z) hp
  rw [Int.neg_tmod] at h3
  have h4 := Int.tmod_lt_of_pos z hp
  have h5 : 0 ≤ ((z.tmod (n : Int)) + (n : Int)).tmod (n : Int) := Int.tmod_nonneg _ (by omega)
  have h6 := Int.tmod_lt_of_pos ((z.tmod (n : Int)) + (n : Int)) hp
  exact ⟨(((z.tmod (n : Int)) + (n : Int)).tmod (n : Int)).toNat, by omega, by omega, by omega, h4⟩
theorem row_tail {w : World} {bx ox cx : Nat} {x : It} {q : List It} (h : Row w (some ⟨bx, ox, none⟩) (itc (x :: q))) (hc : q.length + 1 ≤ cx) : Row w (if cx = 1 then some ⟨bx, ox, none⟩ else some ⟨bx, ox + 11, none⟩) (itc q) := by
  by_cases e : cx = 1
  · left
    have : q = [] := List.eq_nil_of_length_eq_zero (by omega)
    rw [this]
    rfl
  · rw [if_neg e]
    rcases h with h | ⟨b, off, h0, h⟩
    · have := congrArg List.length h
      rw [lenI] at this
      simp at this
    · cases h0
      refine .inr ⟨bx, ox + 11, rfl, fun i u hu => ?_⟩
      have := h (11 + i) u (by
        show (itL x ++ itc q)[11 + i]? = some u
        rw [List.getElem?_append_right (by rw [itL_len]; omega), itL_len, show 11 + i - 11 = i by omega]
        exact hu)
      rw [show ox + 11 + i = ox + (11 + i) by omega]
      exact this
theorem off_tail {N : Nat → Prop} {bx ox cx : Nat} {x : It} {q : List It} (h : OffR N (some ⟨bx, ox, none⟩) (itc (x :: q))) : OffR N (if cx = 1 then some ⟨bx, ox, none⟩ else some ⟨bx, ox + 11, none⟩) (itc q) := by
  right
  have hb : ¬ N bx := by
    rcases h with h | h
    · have := congrArg List.length h
      rw [lenI] at this
      simp at this
    · exact h _ rfl
  intro y hy
  by_cases e : cx = 1
  · rw [if_pos e] at hy; cases hy; exact hb
  · rw [if_neg e] at hy; cases hy; exact hb
section
variable {M N : Nat → Prop} {b : Bl} {K n g cP : Nat} {W : Option Addr} {cW : Nat} {ws : List Wd} {a : Al} {G : Option Addr} {cG : Nat} {H : Option Addr} {cH : Nat} {cut : Nat} {hs : List Hd} {w : World}
/-- A store into a row of which the closure knows nothing, but whose block aligner and wants avoid. -/
theorem CuAt.setN (h : CuAt M N b K n g cP W cW ws a G cG H cH cut hs w) {K' g1 n1 c1 : Nat} {rs : List Hd} (o1 : w.ownsRow K' 30 1 (.slice (some ⟨g1, 0, none⟩) n1 c1) n1 (hsc rs)) (hn : N g1) (hm : ¬ M g1) (i : Nat) (v : Value) : CuAt M N b K n g cP W cW ws a G cG H cH cut hs (w.setCell ⟨g1, i, none⟩ v) := by
  have m : Mine (· = g1) w (w.setCell ⟨g1, i, none⟩ v) := Mine.set w v rfl
  have mN : Mine N w (w.setCell ⟨g1, i, none⟩ v) := m.sub fun k hk => by rw [hk]; exact hn
  have gne : ∀ {q : Nat} {C : Array Value} {T : TypeId}, Lies q C T w → (30 : TypeId) ≠ T → q ≠ g1 := fun hl hT e => Gen.own_apart o1 hl hT (by rw [e]; rfl)
  exact ⟨⟨m.lies h.fx.lp (gne h.fx.lp (by decide)), m.lies h.fx.lw (gne h.fx.lw (by decide)), m.lies h.fx.lf (gne h.fx.lf (by decide)), h.fx.wt.mine mN, h.fx.sub, h.fx.np, h.fx.nw, h.fx.nf, h.fx.na, h.fx.no, h.fx.nc, h.fx.mg, h.fx.ao, h.fx.ac, h.fx.oc, fun k hk => Nat.lt_of_lt_of_le (h.fx.lt k hk) m.size⟩,
    m.lies h.la (gne h.la (by decide)), m.lies h.lo (gne h.lo (by decide)), m.lies h.lc (gne h.lc (by decide)), h.am.mine mN, h.ne.keep m (fun k hk e => hm (by cases hk; rw [← e]; exact h.fx.mg)) (fun x hx k hk e => hm (by rw [← e]; exact h.me x hx k hk)), h.me⟩
end
/-- The state of the loop of turns. -/
structure TuAt (w0 : World) (b : Bl) (n g cP : Nat) (W : Option Addr) (cW : Nat) (ws : List Wd) (g1 c1 : Nat) (M N : Nat → Prop) (a : Al) (G : Option Addr) (cG : Nat) (H : Option Addr) (cH : Nat) (cut : Nat) (hs rs : List Hd) (w : World) : Prop where
  cu : CuAt M N b w0.heap.size n g cP W cW ws a G cG H cH cut hs w
  o1 : w.ownsRow w0.heap.size 30 1 (.slice (some ⟨g1, 0, none⟩) n c1) n (hsc rs)
  r1 : ∀ x ∈ rs, Row w x.1 (itc x.2.2) ∧ OffR N x.1 (itc x.2.2)
  cap : ∀ x ∈ rs, x.2.2.length ≤ x.2.1
  nm : ¬ M g1
  nn : N g1
  mlo : ∀ k, M k → w0.heap.size ≤ k
  below : Below w0.heap.size w0 w
section
variable {w0 : World} {b : Bl} {n g cP : Nat} {W : Option Addr} {cW : Nat} {ws : List Wd} {g1 c1 : Nat} {M N : Nat → Prop} {a : Al} {G : Option Addr} {cG : Nat} {H : Option Addr} {cH : Nat} {cut : Nat} {hs rs : List Hd} {w : World}
theorem TuAt.next (h : TuAt w0 b n g cP W cW ws g1 c1 M N a G cG H cH cut hs rs w) {w' : World} (hb : Below w.heap.size w w') : TuAt w0 b n g cP W cW ws g1 c1 M N a G cG H cH cut hs rs w' :=
  ⟨h.cu.next hb, own_upA h.o1 hb, fun x hx => ⟨(h.r1 x hx).1.below hb, (h.r1 x hx).2⟩, h.cap, h.nm, h.nn, h.mlo, below_next h.below hb⟩
theorem TuAt.len (h : TuAt w0 b n g cP W cW ws g1 c1 M N a G cG H cH cut hs rs w) : rs.length = n := by
  have := h.o1.1
  rw [lenH] at this
  omega
/-- rows[k] = rows[k][1:]. -/
theorem TuAt.shift (h : TuAt w0 b n g cP W cW ws g1 c1 M N a G cG H cH cut hs rs w) {k bx ox cx : Nat} {x : It} {q : List It} (hk : rs[k]? = some (some ⟨bx, ox, none⟩, cx, x :: q)) :
    TuAt w0 b n g cP W cW ws g1 c1 M N a G cG H cH cut hs (rs.set k ((if cx = 1 then some ⟨bx, ox, none⟩ else some ⟨bx, ox + 11, none⟩), cx - 1, q)) (w.setCell ⟨g1, k, none⟩ (.slice (if cx = 1 then some ⟨bx, ox, none⟩ else some ⟨bx, ox + 11, none⟩) q.length (cx - 1))) := by
  have hm := List.mem_of_getElem? hk
  have hc := h.cap _ hm
  simp only [List.length_cons] at hc
  have ho := (h.o1.stored k (.slice (if cx = 1 then some ⟨bx, ox, none⟩ else some ⟨bx, ox + 11, none⟩) q.length (cx - 1))).1
  rw [show (Value.slice (if cx = 1 then some ⟨bx, ox, none⟩ else some ⟨bx, ox + 11, none⟩) q.length (cx - 1)) = hv ((if cx = 1 then some ⟨bx, ox, none⟩ else some ⟨bx, ox + 11, none⟩), cx - 1, q) from rfl, hsc_set] at ho
  have mN : Mine N w (w.setCell ⟨g1, k, none⟩ (.slice (if cx = 1 then some ⟨bx, ox, none⟩ else some ⟨bx, ox + 11, none⟩) q.length (cx - 1))) := Mine.set w _ h.nn
  refine ⟨h.cu.setN h.o1 h.nn h.nm k _, ho, fun y hy => ?_, fun y hy => ?_, h.nm, h.nn, h.mlo, h.below.setCell (p := ⟨g1, k, none⟩) ((h.o1.lt g1 rfl).1) _⟩
  · obtain ⟨i, hi⟩ := List.getElem?_of_mem hy
    rcases set_at hi with ⟨_, rfl⟩ | ⟨_, hi⟩
    · have h1 := (h.r1 _ hm)
      have h2 := off_tail (cx := cx) h1.2
      exact ⟨h2.row mN (row_tail h1.1 hc), h2⟩
    · have h1 := h.r1 y (List.mem_of_getElem? hi)
      exact ⟨h1.2.row mN h1.1, h1.2⟩
  · obtain ⟨i, hi⟩ := List.getElem?_of_mem hy
    rcases set_at hi with ⟨_, rfl⟩ | ⟨_, hi⟩
    · show q.length ≤ cx - 1
      omega
    · exact h.cap y (List.mem_of_getElem? hi)
/-- The closure has been called. -/
theorem TuAt.called (h : TuAt w0 b n g cP W cW ws g1 c1 M N a G cG H cH cut hs rs w) {M' N' : Nat → Prop} {a' : Al} {G' : Option Addr} {cG' : Nat} {H' : Option Addr} {cH' : Nat} {cut' : Nat} {hs' : List Hd} {w' : World} (hc : CuAt M' N' b w0.heap.size n g cP W cW ws a' G' cG' H' cH' cut' hs' w') (hm : Mine M w w') (hM : ∀ k, M' k → M k ∨ w.heap.size ≤ k) (hN : ∀ k, N' k → N k ∨ w.heap.size ≤ k) (hu : ∀ k, N k → N' k) :
    TuAt w0 b n g cP W cW ws g1 c1 M' N' a' G' cG' H' cH' cut' hs' rs w' := by
  have hg := (h.o1.lt g1 rfl).2
  refine ⟨hc, Gen.Mine.own h.o1 hm (fun k hk => by cases hk; exact h.nm), fun x hx => ?_, h.cap, fun e => ?_, hu _ h.nn, fun k hk => ?_, Mine.below h.below hm h.mlo h.below.size⟩
  · have h1 := h.r1 x hx
    exact ⟨h1.2.row (hm.sub h.cu.fx.sub) h1.1, h1.2.more h1.1 hN⟩
  · rcases hM _ e with e | e
    · exact h.nm e
    · omega
  · rcases hM k hk with e | e
    · exact h.mlo k e
    · exact Nat.le_trans h.below.size e
end
end Aln
end Go.Proofs.Ytgbklmncfajcgaa
