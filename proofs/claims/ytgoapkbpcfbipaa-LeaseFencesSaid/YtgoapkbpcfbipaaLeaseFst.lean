/- LeaseFences: the law's blocks, and how they stay. -/
import Derived.Test.YtgoapkbpcfbipaaLeaseFen
namespace Go.Proofs.Ytgoapkbpcfbipaa
open Go.ChangeShapes Go.WideShapes Go.ChangeAt Go.RowKit Go.Maps
set_option linter.unusedVariables false
set_option maxRecDepth 8000
namespace Ls
open Gen
theorem row_ne_tb {w : World} {A : Option Addr} {ls : List Le} {b : Nat} {u0 u1 : Value} {T : TypeId} (h : Row w A (lec ls)) (hn : 0 < ls.length) (hl : Lies b #[u0, u1] T w) : ∀ a, A = some a → a.block ≠ b := by
  intro a ha e
  obtain ⟨x, hx⟩ : ∃ x, ls[0]? = some x := ⟨_, List.getElem?_eq_getElem hn⟩
  obtain ⟨q, off, hA, _, _, c2⟩ := lease_row h hx
  rw [ha] at hA
  cases hA
  simp only at e
  subst e
  unfold Lies at hl
  unfold World.cell? at c2
  simp only [hl] at c2
  simp at c2
theorem row_ne_map {w : World} {A : Option Addr} {ls : List Le} {b : Nat} {es : Array MapEntry} {ck : Nat} (h : Row w A (lec ls)) (hn : 0 < ls.length) (hl : w.heap[b]? = some (.map es ck)) : ∀ a, A = some a → a.block ≠ b := by
  intro a ha e
  obtain ⟨x, hx⟩ : ∃ x, ls[0]? = some x := ⟨_, List.getElem?_eq_getElem hn⟩
  obtain ⟨q, off, hA, _, _, c2⟩ := lease_row h hx
  rw [ha] at hA
  cases hA
  simp only at e
  subst e
  unfold World.cell? at c2
  simp only [hl] at c2
  cases c2
theorem lies_ne_map {w : World} {k b : Nat} {C : Array Value} {T : TypeId} {es : Array MapEntry} {ck : Nat} (h : Lies k C T w) (hl : w.heap[b]? = some (.map es ck)) : k ≠ b := by
  rintro rfl
  unfold Lies at h
  rw [hl] at h
  cases h
theorem lies_ne {w : World} {k b : Nat} {C C' : Array Value} {T T' : TypeId} (h : Lies k C T w) (h' : Lies b C' T' w) (hT : T ≠ T') : k ≠ b := by
  rintro rfl
  unfold Lies at h h'
  rw [h] at h'
  simp only [Option.some.injEq, Obj.cells.injEq] at h'
  exact hT h'.2.1
theorem row_put {w : World} {A : Option Addr} {cs : List Value} (h : Row w A cs) {p : Addr} (hp : ∀ a, A = some a → a.block ≠ p.block) (v : Value) : Row (w.setCell p v) A cs := by
  rcases h with h | ⟨b, off, rfl, hc⟩
  · exact .inl h
  · refine .inr ⟨b, off, rfl, fun j u hu => ?_⟩
    rw [World.cell?_setCell_far _ _ _ _ (by exact fun e => hp _ rfl e.symm)]
    exact hc j u hu
theorem TbAt.mine {M : Nat → Prop} {b : Nat} {t : Tb} {n : Nat} {A : Option Addr} {c : Nat} {w w' : World} (h : TbAt b t n A c w) (hm : Mine M w w') (hb : ¬ M b) (hr : ∀ a, A = some a → ¬ M a.block) : TbAt b t n A c w' :=
  ⟨hm.lies h.at_ hb, hm.row h.row hr, h.len, h.cap⟩
/-- A table is laid into another's block. -/
theorem TbAt.copy {b k : Nat} {t t' : Tb} {n n' : Nat} {A A' : Option Addr} {c c' : Nat} {w : World} (h : TbAt k t' n' A' c' w) (hb : TbAt b t n A c w) (hn : 0 < n') :
    TbAt b t' n' A' c' ((w.setCell ⟨b, 0, none⟩ (.slice A' n' c')).setCell ⟨b, 1, none⟩ (.int .i64 t'.last)) := by
  have hr := row_ne_tb h.row (by rw [← h.len]; exact hn) hb.at_
  exact ⟨by have := (hb.at_.set 0 (.slice A' n' c')).set 1 (.int .i64 t'.last); simpa using this, row_put (row_put h.row hr _) hr _, h.len, h.cap⟩
theorem TbAt.beside {b k : Nat} {t t' : Tb} {n n' : Nat} {A A' : Option Addr} {c c' : Nat} {w : World} (h : TbAt k t' n' A' c' w) (hb : TbAt b t n A c w) (hne : k ≠ b) (hn : 0 < n') (v0 v1 : Value) :
    TbAt k t' n' A' c' ((w.setCell ⟨b, 0, none⟩ v0).setCell ⟨b, 1, none⟩ v1) := by
  have hr := row_ne_tb h.row (by rw [← h.len]; exact hn) hb.at_
  exact ⟨(h.at_.other hne 0 v0).other hne 1 v1, row_put (row_put h.row hr _) hr _, h.len, h.cap⟩
/-- The law's blocks: the table, the map. -/
structure FnAt (w0 : World) (bt mb : Nat) (t : Tb) (N : Nat) (A : Option Addr) (c n : Nat) (D : DataW Unit) (w : World) : Prop where
  tb : TbAt bt t N A c w
  map : FMap w mb n D
  below : Below w0.heap.size w0 w
  b1 : w0.heap.size ≤ bt
  b2 : w0.heap.size ≤ mb
  n1 : 0 < N
section
variable {w0 w w' : World} {bt mb : Nat} {t : Tb} {N : Nat} {A : Option Addr} {c n : Nat} {D : DataW Unit}
theorem FnAt.up (h : FnAt w0 bt mb t N A c n D w) (hb : Below w.heap.size w w') : FnAt w0 bt mb t N A c n D w' :=
  ⟨h.tb.next hb, ownsMap_block h.map (hb.block _ h.map.lt), below_next h.below hb, h.b1, h.b2, h.n1⟩
theorem fmap_heap (h : FMap w mb n D) : ∃ es ck, w.heap[mb]? = some (.map es ck) := by
  obtain ⟨es, ck, hb, _⟩ := h
  exact ⟨es, ck, hb⟩
theorem TbAt.turnM {b : Nat} (h : TbAt b t N A c w) (hN : 0 < N) (hmap : FMap w mb n D) (hg : w.grownBy w' (some mb)) : TbAt b t N A c w' := by
  obtain ⟨es, ck, hh⟩ := fmap_heap hmap
  exact h.mine (Mine.grown_one hg) (lies_ne_map h.at_ hh) (row_ne_map h.row (by rw [← h.len]; exact hN) hh)
theorem FnAt.turnM {n' : Nat} {D' : DataW Unit} (h : FnAt w0 bt mb t N A c n D w) (hq : FMap w' mb n' D') (hg : w.grownBy w' (some mb)) : FnAt w0 bt mb t N A c n' D' w' :=
  ⟨h.tb.turnM h.n1 h.map hg, hq, Mine.below h.below (Mine.grown_one hg) (fun k hk => by rw [hk]; exact h.b2) h.below.size, h.b1, h.b2, h.n1⟩
/-- Another table is laid into the law's block. -/
theorem FnAt.lay {k : Nat} {t' : Tb} {A' : Option Addr} {c' : Nat} (h : FnAt w0 bt mb t N A c n D w) (hk : TbAt k t' N A' c' w) :
    FnAt w0 bt mb t' N A' c' n D ((w.setCell ⟨bt, 0, none⟩ (.slice A' N c')).setCell ⟨bt, 1, none⟩ (.int .i64 t'.last)) := by
  obtain ⟨es, ck, hh⟩ := fmap_heap h.map
  have hne := lies_ne_map h.tb.at_ hh
  refine ⟨hk.copy h.tb h.n1, ?_, (h.below.setCell (p := ⟨bt, 0, none⟩) h.b1 _).setCell (p := ⟨bt, 1, none⟩) h.b1 _, h.b1, h.b2, h.n1⟩
  refine ownsMap_block h.map ?_
  rw [Below.heap_setCell _ _ _ _ (fun e => hne e.symm), Below.heap_setCell _ _ _ _ (fun e => hne e.symm)]
end
section
variable {w0 w w' : World} {bt mb rb : Nat} {t : Tb} {N : Nat} {A : Option Addr} {c n cnt : Nat} {D D' : DataW Unit} {left left' : Lit → Bool} {cnt' : Nat}
abbrev FRan (w : World) (mb rb n : Nat) (D : DataW Unit) (left : Lit → Bool) (cnt : Nat) : Prop := w.ranges Try.prog 49 (plainElem (H := Unit) Try.prog 4) mb rb n D left cnt
theorem ran_iter (h : FRan w mb rb n D left cnt) : ∃ m s e k, w.heap[rb]? = some (.mapIter m s e k) := by
  obtain ⟨es, clock, since, seen, c0, hb, F, hs, rfl, hr, _⟩ := h
  exact ⟨_, _, _, _, hr⟩
theorem ran_below (h : FRan w mb rb n D left cnt) (hb : Below w.heap.size w w') : FRan w' mb rb n D left cnt := by
  obtain ⟨es, clock, since, seen, c0, h1, F, hs, hD, hr, rest⟩ := h
  exact ⟨es, clock, since, seen, c0, (hb.block mb (by have := (Array.getElem?_eq_some_iff.1 h1).1; exact this)).trans h1, F, hs, hD, (hb.block rb (by have := (Array.getElem?_eq_some_iff.1 hr).1; exact this)).trans hr, rest⟩
theorem row_ne_iter {m : Option Nat} {s : Nat} {e : Array Nat} {k : Nat} {ls : List Le} (h : Row w A (lec ls)) (hn : 0 < ls.length) (hl : w.heap[rb]? = some (.mapIter m s e k)) : ∀ a, A = some a → a.block ≠ rb := by
  intro a ha e
  obtain ⟨x, hx⟩ : ∃ x, ls[0]? = some x := ⟨_, List.getElem?_eq_getElem hn⟩
  obtain ⟨q, off, hA, _, _, c2⟩ := lease_row h hx
  rw [ha] at hA
  cases hA
  simp only at e
  subst e
  unfold World.cell? at c2
  simp only [hl] at c2
  cases c2
/-- The range's own block turns. -/
theorem FnAt.turnI (h : FnAt w0 bt mb t N A c n D w) (hr : FRan w mb rb n D left cnt) (hg : w.grownBy w' (some rb)) (hr' : FRan w' mb rb n D left' cnt') (hb : w0.heap.size ≤ rb) : FnAt w0 bt mb t N A c n D w' := by
  obtain ⟨m, s, e, k, hh⟩ := ran_iter hr
  refine ⟨h.tb.mine (Mine.grown_one hg) ?_ (row_ne_iter h.tb.row (by rw [← h.tb.len]; exact h.n1) hh), hr'.owns, Mine.below h.below (Mine.grown_one hg) (fun k hk => by rw [hk]; exact hb) h.below.size, h.b1, h.b2, h.n1⟩
  rintro rfl
  have h2 := h.tb.at_
  unfold Lies at h2
  rw [hh] at h2
  cases h2
end
end Ls
end Go.Proofs.Ytgoapkbpcfbipaa
