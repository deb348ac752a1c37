/- The code's clone: a sink of rows of the call's own. -/
import Derived.Test.YtmkbdlailffjeaaSinkCd
namespace Go.Proofs.Ytmkbdlailffjeaa
open Go.ChangeShapes Go.WideShapes Go.ChangeAt Go.RowKit
set_option linter.unusedVariables false
set_option maxRecDepth 8000
namespace Sk
open Gen (TellsB TellsI row_one flat_len flat_get Mine)
/-- A sink whose rows are the call's own: the first stages' results too, the others' lie anywhere. -/
structure OwnS (w : World) (s : Si) (no ns nu : Nat) (O : Option Addr) (cO : Nat) (S : Option Addr) (cS : Nat) (U : Option Addr) (cU : Nat) (nk rs : List Sg) (w' : World) : Prop where
  oo : w'.ownsRow w.heap.size 29 5 (.slice O no cO) no (rec_ s.op)
  os : w'.ownsRow w.heap.size 50 2 (.slice S ns cS) ns (sgc (nk ++ rs))
  ou : w'.ownsRow w.heap.size 29 5 (.slice U nu cU) nu (rec_ s.out)
  oe : ∀ x ∈ nk, w'.ownsRow w.heap.size 29 5 (.slice x.2.1 x.2.2.2.length x.2.2.1) x.2.2.2.length (rec_ x.2.2.2)
  aou : ∀ q, (Value.slice O no cO).ownBlock = some q → (Value.slice U nu cU).ownBlock ≠ some q
  aeo : ∀ x ∈ nk, ∀ q, (Value.slice x.2.1 x.2.2.2.length x.2.2.1).ownBlock = some q → (Value.slice O no cO).ownBlock ≠ some q
  aeu : ∀ x ∈ nk, ∀ q, (Value.slice x.2.1 x.2.2.2.length x.2.2.1).ownBlock = some q → (Value.slice U nu cU).ownBlock ≠ some q
  map : (nk ++ rs).map pgOf = s.st
  lo : no = s.op.length
  ls : ns = s.st.length
  lu : nu = s.out.length
  below : Below w.heap.size w w'
section
variable {w w' w'' : World} {s : Si} {no ns nu : Nat} {O : Option Addr} {cO : Nat} {S : Option Addr} {cS : Nat} {U : Option Addr} {cU : Nat} {nk rs : List Sg}
theorem OwnS.next (h : OwnS w s no ns nu O cO S cS U cU nk rs w') (hb : Below w'.heap.size w' w'') : OwnS w s no ns nu O cO S cS U cU nk rs w'' :=
  ⟨own_up h.oo hb, own_up h.os hb, own_up h.ou hb, fun x hx => own_up (h.oe x hx) hb, h.aou, h.aeo, h.aeu, h.map, h.lo, h.ls, h.lu, below_next h.below hb⟩
theorem OwnS.put (h : OwnS w s no ns nu O cO S cS U cU nk rs w') {b : Nat} {C : Array Value} {T : TypeId} (hl : Lies b C T w') (h1 : 29 ≠ T) (h2 : 50 ≠ T) (hb : w.heap.size ≤ b) (o : Nat) (v : Value) : OwnS w s no ns nu O cO S cS U cU nk rs (w'.setCell ⟨b, o, none⟩ v) :=
  ⟨own_set h.oo _ (own_lies h.oo hl h1) v, own_set h.os _ (own_lies h.os hl h2) v, own_set h.ou _ (own_lies h.ou hl h1) v, fun x hx => own_set (h.oe x hx) _ (own_lies (h.oe x hx) hl h1) v,
   h.aou, h.aeo, h.aeu, h.map, h.lo, h.ls, h.lu, h.below.setCell (p := ⟨b, o, none⟩) hb v⟩
theorem OwnS.raw (h : OwnS w s no ns nu O cO S cS U cU nk [] w') : RawS w' s no ns nu O cO S cS U cU nk :=
  ⟨h.lo, h.ls, h.lu, (own_rowR h.oo).1, ⟨by have := (own_rowG h.os).1; rwa [List.append_nil] at this, fun x hx => (own_rowR (h.oe x hx)).1⟩, (own_rowR h.ou).1, by have := h.map; rwa [List.append_nil] at this,
   (own_rowR h.oo).2.1, (own_rowG h.os).2.1, (own_rowR h.ou).2.1, fun x hx => (own_rowR (h.oe x hx)).2.1⟩
theorem OwnS.off {M : Nat → Prop} (h : OwnS w s no ns nu O cO S cS U cU nk [] w') (hM : ∀ k, M k → k < w.heap.size) : OffS M s O S U nk :=
  ⟨OffR.own h.oo hM, by have := OffR.own h.os hM; rwa [List.append_nil] at this, fun x hx => OffR.own (h.oe x hx) hM, OffR.own h.ou hM⟩
theorem OwnS.skm {M : Nat → Prop} (h : OwnS w s no ns nu O cO S cS U cU nk [] w') (hM : ∀ k, M k → k < w.heap.size) : SkM M w' s no ns nu O cO S cS U cU := ⟨nk, h.raw, h.off hM⟩
end
theorem sgc_set (nk rs : List Sg) (N : Int) (A A' : Option Addr) (c c' : Nat) (l : List Re) : (sgc (nk ++ (N, A, c, l) :: rs)).set (nk.length * 2 + 1) (.slice A' l.length c') = sgc (nk ++ (N, A', c', l) :: rs) := by
  rw [appG, appG, List.set_append_right _ _ (by rw [lenG]; omega), lenG, show nk.length * 2 + 1 - nk.length * 2 = 1 by omega]
  rfl
theorem own_setG {w : World} {K n c g : Nat} {nk rs : List Sg} {N : Int} {A : Option Addr} {cA : Nat} {l : List Re} (h : w.ownsRow K 50 2 (.slice (some ⟨g, 0, none⟩) n c) n (sgc (nk ++ (N, A, cA, l) :: rs))) (A' : Option Addr) (c' : Nat) :
    (w.setCell ⟨g, nk.length * 2 + 1, none⟩ (.slice A' l.length c')).ownsRow K 50 2 (.slice (some ⟨g, 0, none⟩) n c) n (sgc (nk ++ (N, A', c', l) :: rs)) := by
  have h1 := (h.stored (nk.length * 2 + 1) (.slice A' l.length c')).1
  rwa [sgc_set] at h1
theorem own_cellG {w : World} {K n c g : Nat} {nk rs : List Sg} {x : Sg} (h : w.ownsRow K 50 2 (.slice (some ⟨g, 0, none⟩) n c) n (sgc (nk ++ x :: rs))) :
    (w.cell? ⟨g, nk.length * 2, none⟩ = some (.int .i64 x.1) ∧ w.cell? ⟨g, nk.length * 2 + 1, none⟩ = some (.slice x.2.1 x.2.2.2.length x.2.2.1)) ∧
    w.frozen? ⟨g, nk.length * 2, none⟩ = false ∧ w.frozen? ⟨g, nk.length * 2 + 1, none⟩ = false := by
  have hi : (nk ++ x :: rs)[nk.length]? = some x := by rw [List.getElem?_append_right (Nat.le_refl _), Nat.sub_self]; rfl
  have hl := (List.getElem?_eq_some_iff.1 hi).1
  have hn : (nk ++ x :: rs).length * 2 = n * 2 := by rw [← lenG, h.1]
  have f0 := flat_get sgL sgL_len (j := 0) hi (by omega)
  have f1 := flat_get sgL sgL_len (j := 1) hi (by omega)
  refine ⟨⟨?_, ?_⟩, h.frozenAt _, h.frozenAt _⟩
  · rw [h.cellAt _ (by omega)]; exact f0.trans rfl
  · rw [h.cellAt _ (by omega)]; exact f1.trans rfl
theorem own_atG {w : World} {K n : Nat} {A : Option Addr} {c : Nat} {T : TypeId} {xs : List Value} (h : w.ownsRow K T 2 (.slice A n c) n xs) (hn : 0 < n) : ∃ g, A = some ⟨g, 0, none⟩ ∧ K ≤ g ∧ g < w.heap.size := by
  obtain ⟨_, ⟨e, e0⟩ | ⟨g, cap, cur, e, hg, hh, _⟩⟩ := h
  · omega
  · cases e; exact ⟨g, rfl, hg, lt_of_block hh⟩
section
variable {w w' w'' : World} {s : Si} {no ns nu : Nat} {O : Option Addr} {cO : Nat} {S : Option Addr} {cS : Nat} {U : Option Addr} {cU : Nat} {nk rs : List Sg}
/-- One stage more is the call's own. -/
theorem OwnS.grow {g : Nat} {N : Int} {A : Option Addr} {cA m : Nat} {l : List Re} {A' : Option Addr} {c' : Nat} (hm : m = l.length) (h : OwnS w s no ns nu O cO (some ⟨g, 0, none⟩) cS U cU nk ((N, A, cA, l) :: rs) w')
    (ho : w'.ownsRow w.heap.size 29 5 (.slice A' m c') m (rec_ l)) (ao : ∀ q, (Value.slice A' m c').ownBlock = some q → (Value.slice O no cO).ownBlock ≠ some q) (au : ∀ q, (Value.slice A' m c').ownBlock = some q → (Value.slice U nu cU).ownBlock ≠ some q)
    (hk : ns ≠ 0) : OwnS w s no ns nu O cO (some ⟨g, 0, none⟩) cS U cU (nk ++ [(N, A', c', l)]) rs (w'.setCell ⟨g, nk.length * 2 + 1, none⟩ (.slice A' m c')) := by
  subst hm
  have hgs : (Value.slice (some ⟨g, 0, none⟩) ns cS).ownBlock = some g := rfl
  have k1 : ∀ {n : Nat} {v : Value} {xs : List Value}, w'.ownsRow w.heap.size 29 5 v n xs → v.ownBlock ≠ some g := fun hv e => own_kind hv h.os (by decide) g e hgs
  have hg : w.heap.size ≤ g := (h.os.lt g hgs).1
  refine ⟨own_set h.oo _ (k1 h.oo) _, ?_, own_set h.ou _ (k1 h.ou) _, fun x hx => ?_, h.aou, fun x hx => ?_, fun x hx => ?_, ?_, h.lo, h.ls, h.lu, h.below.setCell (p := ⟨g, nk.length * 2 + 1, none⟩) hg _⟩
  · have := own_setG h.os A' c'
    rwa [show nk ++ (N, A', c', l) :: rs = nk ++ [(N, A', c', l)] ++ rs by rw [List.append_assoc]; rfl] at this
  · rcases List.mem_append.1 hx with hx | hx
    · exact own_set (h.oe x hx) _ (k1 (h.oe x hx)) _
    · cases List.mem_singleton.1 hx; exact own_set ho _ (k1 ho) _
  · rcases List.mem_append.1 hx with hx | hx
    · exact h.aeo x hx
    · cases List.mem_singleton.1 hx; exact ao
  · rcases List.mem_append.1 hx with hx | hx
    · exact h.aeu x hx
    · cases List.mem_singleton.1 hx; exact au
  · have := h.map
    rw [← this]
    simp [pgOf]
/-- The blocks of clone. -/
structure CnAt (w : World) (tb R : Nat) (s : Si) (no ns nu : Nat) (O : Option Addr) (cO : Nat) (S : Option Addr) (cS : Nat) (U : Option Addr) (cU : Nat) (nk rs : List Sg) (w' : World) : Prop where
  st : Lies tb (skC O no cO S ns cS s.last U nu cU) 25 w'
  res : Lies R (skC none 0 0 none 0 0 0 none 0 0) 25 w'
  ow : OwnS w s no ns nu O cO S cS U cU nk rs w'
  lt : w.heap.size ≤ tb ∧ w.heap.size ≤ R ∧ tb ≠ R
variable {tb R : Nat}
theorem CnAt.next (h : CnAt w tb R s no ns nu O cO S cS U cU nk rs w') (hb : Below w'.heap.size w' w'') : CnAt w tb R s no ns nu O cO S cS U cU nk rs w'' := ⟨h.st.below hb, h.res.below hb, h.ow.next hb, h.lt⟩
theorem CnAt.grow {g : Nat} {N : Int} {A : Option Addr} {cA m : Nat} {l : List Re} {A' : Option Addr} {c' : Nat} (hm : m = l.length) (h : CnAt w tb R s no ns nu O cO (some ⟨g, 0, none⟩) cS U cU nk ((N, A, cA, l) :: rs) w')
    (ho : w'.ownsRow w.heap.size 29 5 (.slice A' m c') m (rec_ l)) (ao : ∀ q, (Value.slice A' m c').ownBlock = some q → (Value.slice O no cO).ownBlock ≠ some q) (au : ∀ q, (Value.slice A' m c').ownBlock = some q → (Value.slice U nu cU).ownBlock ≠ some q)
    (hk : ns ≠ 0) : CnAt w tb R s no ns nu O cO (some ⟨g, 0, none⟩) cS U cU (nk ++ [(N, A', c', l)]) rs (w'.setCell ⟨g, nk.length * 2 + 1, none⟩ (.slice A' m c')) :=
  ⟨h.st.other (fun e => own_lies h.ow.os h.st (by decide) (by rw [e]; rfl)) _ _, h.res.other (fun e => own_lies h.ow.os h.res (by decide) (by rw [e]; rfl)) _ _, h.ow.grow hm ho ao au hk, h.lt⟩
end
def GivesCl (s : Si) (no ns nu : Nat) (w : World) (e : Ending) (w' : World) : Prop :=
  ∃ (O : Option Addr) (cO : Nat) (S : Option Addr) (cS : Nat) (U : Option Addr) (cU : Nat) (sg : List Sg), e = .returned (skV O no cO S ns cS s.last U nu cU) ∧ OwnS w s no ns nu O cO S cS U cU sg [] w'
theorem clone_ret {w wF : World} {R no ns nu : Nat} {s : Si} {O : Option Addr} {cO : Nat} {S : Option Addr} {cS : Nat} {U : Option Addr} {cU : Nat} {sg : List Sg} {act : Act} (ht : act.tmps.getD 2 undef = .pointer (some ⟨R, 0, none⟩)) (hd : act.defers = [])
    (hL : Lies R (skC O no cO S ns cS s.last U nu cU) 25 wF) (h1 : OwnS w s no ns nu O cO S cS U cU sg [] wF) :
    bodyPost Try.prog Try.f24 (GivesCl s no ns nu w) .ret act wF := by
  have c0 := hL.cell (j := 0) rfl
  have c1 := hL.cell (j := 1) rfl
  have c2 := hL.cell (j := 2) rfl
  have c3 := hL.cell (j := 3) rfl
  refine bodyPost_ret (v := skV O no cO S ns cS s.last U nu cU) ?_ hd ⟨O, cO, S, cS, U, cU, sg, rfl, h1⟩
  have ht2 : act.tmps[2]?.getD undef = .pointer (some ⟨R, 0, none⟩) := by simpa using ht
  simp [results, Try.results24, go_sem, ht2, c0, c1, c2, c3]
/-- Ahead of the first region. -/
structure C0At (w : World) (tb R : Nat) (C : Array Value) (w' : World) : Prop where
  st : Lies tb C 25 w'
  res : Lies R (skC none 0 0 none 0 0 0 none 0 0) 25 w'
  lt : w.heap.size ≤ tb ∧ w.heap.size ≤ R ∧ tb ≠ R
  below : Below w.heap.size w w'
theorem C0At.next {w w' w'' : World} {tb R : Nat} {C : Array Value} (h : C0At w tb R C w') (hb : Below w'.heap.size w' w'') : C0At w tb R C w'' := ⟨h.st.below hb, h.res.below hb, h.lt, below_next h.below hb⟩
theorem C0At.go {w w' : World} {tb R : Nat} {s : Si} {no ns nu : Nat} {O0 : Option Addr} {cO0 : Nat} {S0 : Option Addr} {cS0 : Nat} {U0 : Option Addr} {cU0 : Nat} {O : Option Addr} {cO : Nat} {S : Option Addr} {cS : Nat} {U : Option Addr} {cU : Nat} {sg : List Sg}
    (h : C0At w tb R (skC O0 no cO0 S0 ns cS0 s.last U0 nu cU0) w') (hw : OwnS w s no ns nu O cO S cS U cU [] sg w') : CnAt w tb R s no ns nu O cO S cS U cU [] sg (((w'.setCell ⟨tb, 0, none⟩ (.slice O no cO)).setCell ⟨tb, 1, none⟩ (.slice S ns cS)).setCell ⟨tb, 3, none⟩ (.slice U nu cU)) := by
  have l1 := h.st.set 0 (.slice O no cO)
  have l2 := l1.set 1 (.slice S ns cS)
  have l3 := l2.set 3 (.slice U nu cU)
  exact ⟨by simpa using l3, ((h.res.other (Ne.symm h.lt.2.2) _ _).other (Ne.symm h.lt.2.2) _ _).other (Ne.symm h.lt.2.2) _ _,
    ((hw.put h.st (by decide) (by decide) h.lt.1 0 _).put l1 (by decide) (by decide) h.lt.1 1 _).put l2 (by decide) (by decide) h.lt.1 3 _, h.lt⟩
theorem CnAt.fin {w w' : World} {tb R : Nat} {s : Si} {no ns nu : Nat} {O : Option Addr} {cO : Nat} {S : Option Addr} {cS : Nat} {U : Option Addr} {cU : Nat} {sg : List Sg} (h : CnAt w tb R s no ns nu O cO S cS U cU sg [] w') :
    Lies R (skC O no cO S ns cS s.last U nu cU) 25 (set4K w' R (.slice O no cO) (.slice S ns cS) (.int .i64 s.last) (.slice U nu cU)) ∧ OwnS w s no ns nu O cO S cS U cU sg [] (set4K w' R (.slice O no cO) (.slice S ns cS) (.int .i64 s.last) (.slice U nu cU)) := by
  refine ⟨lies_set4K h.res _ _ _ _, ?_⟩
  have l1 := h.res.set 0 (.slice O no cO)
  have l2 := l1.set 1 (.slice S ns cS)
  have l3 := l2.set 2 (.int .i64 s.last)
  exact (((h.ow.put h.res (by decide) (by decide) h.lt.2.1 0 _).put l1 (by decide) (by decide) h.lt.2.1 1 _).put l2 (by decide) (by decide) h.lt.2.1 2 _).put l3 (by decide) (by decide) h.lt.2.1 3 _
end Sk
end Go.Proofs.Ytmkbdlailffjeaa
