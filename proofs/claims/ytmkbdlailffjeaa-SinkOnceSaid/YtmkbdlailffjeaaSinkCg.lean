/- What the code's calls make of a sink of the call's own rows; how they hand it back. -/
import Derived.Test.YtmkbdlailffjeaaSinkCl
import Derived.Test.YtmkbdlailffjeaaSinkCf
namespace Go.Proofs.Ytmkbdlailffjeaa
open Go.ChangeShapes Go.WideShapes Go.ChangeAt Go.RowKit
set_option linter.unusedVariables false
set_option maxRecDepth 8000
namespace Sk
open Gen (TellsB TellsI row_one flat_len flat_get Mine)
section
variable {w w1 w' w'' : World} {s : Si} {no ns nu : Nat} {O : Option Addr} {cO : Nat} {S : Option Addr} {cS : Nat} {U : Option Addr} {cU : Nat} {nk rs sg : List Sg} {tb R : Nat}
theorem OwnS.rebase (h : OwnS w1 s no ns nu O cO S cS U cU nk rs w') (hb : Below w.heap.size w w1) : OwnS w s no ns nu O cO S cS U cU nk rs w' :=
  ⟨own_base h.oo hb.size, own_base h.os hb.size, own_base h.ou hb.size, fun x hx => own_base (h.oe x hx) hb.size, h.aou, h.aeo, h.aeu, h.map, h.lo, h.ls, h.lu, below_next hb h.below⟩
theorem OwnS.put4 (h : OwnS w s no ns nu O cO S cS U cU nk rs w') {b : Nat} {v0 v1 v2 v3 : Value} (hl : Lies b #[v0, v1, v2, v3] 25 w') (hb : w.heap.size ≤ b) (u0 u1 u2 u3 : Value) : OwnS w s no ns nu O cO S cS U cU nk rs (set4K w' b u0 u1 u2 u3) := by
  have l1 := hl.set 0 u0
  have l2 := l1.set 1 u1
  have l3 := l2.set 2 u2
  exact (((h.put hl (by decide) (by decide) hb 0 _).put l1 (by decide) (by decide) hb 1 _).put l2 (by decide) (by decide) hb 2 _).put l3 (by decide) (by decide) hb 3 _
theorem lies_other4 {b c : Nat} {C : Array Value} {T : TypeId} (h : Lies b C T w') (hne : b ≠ c) (u0 u1 u2 u3 : Value) : Lies b C T (set4K w' c u0 u1 u2 u3) :=
  (((h.other hne _ _).other hne _ _).other hne _ _).other hne _ _
theorem CnAt.of {v0 v1 v2 v3 : Value} (hl : Lies tb #[v0, v1, v2, v3] 25 w') (hr : Lies R (skC none 0 0 none 0 0 0 none 0 0) 25 w') (lt : w.heap.size ≤ tb ∧ w.heap.size ≤ R ∧ tb ≠ R) (h : OwnS w s no ns nu O cO S cS U cU sg [] w') :
    CnAt w tb R s no ns nu O cO S cS U cU sg [] (set4K w' tb (.slice O no cO) (.slice S ns cS) (.int .i64 s.last) (.slice U nu cU)) :=
  ⟨lies_set4K hl _ _ _ _, lies_other4 hr (Ne.symm lt.2.2) _ _ _ _, h.put4 hl lt.1 _ _ _ _, lt⟩
theorem apart_up {v u u' : Value} (h : ∀ q, v.ownBlock = some q → u.ownBlock ≠ some q) (hlt : ∀ q, v.ownBlock = some q → q < w'.heap.size) (hu : u'.ownBlock = u.ownBlock ∨ u'.ownBlock = some w'.heap.size) : ∀ q, v.ownBlock = some q → u'.ownBlock ≠ some q := by
  intro q h1 h2
  rcases hu with h3 | h3
  · rw [h3] at h2; exact h q h1 h2
  · rw [h3] at h2; cases h2; exact absurd (hlt _ h1) (Nat.lt_irrefl _)
theorem own_lt_ {v : Value} {B size n : Nat} {e : TypeId} {xs : List Value} (h : w'.ownsRow B e size v n xs) : ∀ q, v.ownBlock = some q → q < w'.heap.size := fun q hq => (h.lt q hq).2
/-- One result more. -/
theorem OwnS.pushO (h : OwnS w s no ns nu O cO S cS U cU sg [] w') {r : Re} {O9 : Option Addr} {c9 : Nat} (hg : w'.grownBy w'' (Value.slice O no cO).ownBlock) (ho : w''.ownsRow w.heap.size 29 5 (.slice O9 (no + 1) c9) (no + 1) (rec_ (s.op ++ [r])))
    (hl : (Value.slice O9 (no + 1) c9).ownBlock = (Value.slice O no cO).ownBlock ∨ (Value.slice O9 (no + 1) c9).ownBlock = some w'.heap.size) : OwnS w ⟨s.op ++ [r], s.st, s.last, s.out⟩ (no + 1) ns nu O9 c9 S cS U cU sg [] w'' :=
  ⟨ho, own_grown h.os hg (own_kind h.os h.oo (by decide)), own_grown h.ou hg (fun q h1 h2 => h.aou q h2 h1), fun x hx => own_grown (h.oe x hx) hg (h.aeo x hx),
   fun q h1 h2 => apart_up (v := .slice U nu cU) (u := .slice O no cO) (fun q h3 h4 => h.aou q h4 h3) (own_lt_ h.ou) hl q h2 h1,
   fun x hx => apart_up (h.aeo x hx) (own_lt_ (h.oe x hx)) hl, h.aeu, h.map, by show no + 1 = (s.op ++ [r]).length; rw [List.length_append, h.lo]; rfl, h.ls, h.lu,
   h.below.grown hg h.below.size fun q hq => (h.oo.lt q hq).1⟩
theorem CnAt.pushO (h : CnAt w tb R s no ns nu O cO S cS U cU sg [] w') {r : Re} {O9 : Option Addr} {c9 : Nat} (hg : w'.grownBy w'' (Value.slice O no cO).ownBlock) (ho : w''.ownsRow w.heap.size 29 5 (.slice O9 (no + 1) c9) (no + 1) (rec_ (s.op ++ [r])))
    (hl : (Value.slice O9 (no + 1) c9).ownBlock = (Value.slice O no cO).ownBlock ∨ (Value.slice O9 (no + 1) c9).ownBlock = some w'.heap.size) :
    CnAt w tb R ⟨s.op ++ [r], s.st, s.last, s.out⟩ (no + 1) ns nu O9 c9 S cS U cU sg [] (w''.setCell ⟨tb, 0, none⟩ (.slice O9 (no + 1) c9)) ∧ Lies tb (skC O no cO S ns cS s.last U nu cU) 25 w'' := by
  have l := lies_grown h.st hg (own_lies h.ow.oo h.st (by decide))
  have r1 := lies_grown h.res hg (own_lies h.ow.oo h.res (by decide))
  exact ⟨⟨by have := l.set 0 (.slice O9 (no + 1) c9); simpa using this, r1.other (Ne.symm h.lt.2.2) _ _, (h.ow.pushO hg ho hl).put l (by decide) (by decide) h.lt.1 0 _, h.lt⟩, l⟩
/-- The open results set apart. -/
theorem OwnS.pushS (h : OwnS w s no ns nu O cO S cS U cU sg [] w') {n : Int} {S9 : Option Addr} {c9 : Nat} (hg : w'.grownBy w'' (Value.slice S ns cS).ownBlock) (ho : w''.ownsRow w.heap.size 50 2 (.slice S9 (ns + 1) c9) (ns + 1) (sgc (sg ++ [(n, O, cO, s.op)]))) :
    OwnS w ⟨[], s.st ++ [(n, s.op)], s.last, s.out⟩ 0 (ns + 1) nu none 0 S9 c9 U cU (sg ++ [(n, O, cO, s.op)]) [] w'' := by
  have hlo := h.lo
  subst hlo
  refine ⟨own_none, by rw [List.append_nil]; exact ho, own_grown h.ou hg (own_kind h.ou h.os (by decide)), fun x hx => ?_, fun q h1 => (by cases h1), fun x hx q h1 h2 => (by cases h2), fun x hx => ?_, ?_, rfl, ?_, h.lu, h.below.grown hg h.below.size fun q hq => (h.os.lt q hq).1⟩
  · rcases List.mem_append.1 hx with hx | hx
    · exact own_grown (h.oe x hx) hg (own_kind (h.oe x hx) h.os (by decide))
    · cases List.mem_singleton.1 hx
      exact own_grown h.oo hg (own_kind h.oo h.os (by decide))
  · rcases List.mem_append.1 hx with hx | hx
    · exact h.aeu x hx
    · cases List.mem_singleton.1 hx
      exact h.aou
  · have hm := h.map
    rw [List.append_nil] at hm ⊢
    rw [List.map_append, hm]; rfl
  · show ns + 1 = (s.st ++ [(n, s.op)]).length
    rw [List.length_append, h.ls]; rfl
theorem CnAt.pushS (h : CnAt w tb R s no ns nu O cO S cS U cU sg [] w') {n : Int} {S9 : Option Addr} {c9 : Nat} (hg : w'.grownBy w'' (Value.slice S ns cS).ownBlock) (ho : w''.ownsRow w.heap.size 50 2 (.slice S9 (ns + 1) c9) (ns + 1) (sgc (sg ++ [(n, O, cO, s.op)]))) :
    CnAt w tb R ⟨[], s.st ++ [(n, s.op)], s.last, s.out⟩ 0 (ns + 1) nu none 0 S9 c9 U cU (sg ++ [(n, O, cO, s.op)]) [] ((w''.setCell ⟨tb, 1, none⟩ (.slice S9 (ns + 1) c9)).setCell ⟨tb, 0, none⟩ (.slice none 0 0)) ∧ Lies tb (skC O no cO S ns cS s.last U nu cU) 25 w'' := by
  have l := lies_grown h.st hg (own_lies h.ow.os h.st (by decide))
  have r1 := lies_grown h.res hg (own_lies h.ow.os h.res (by decide))
  have l1 := l.set 1 (.slice S9 (ns + 1) c9)
  exact ⟨⟨by have := l1.set 0 (.slice none 0 0); simpa using this, (r1.other (Ne.symm h.lt.2.2) _ _).other (Ne.symm h.lt.2.2) _ _, ((h.ow.pushS hg ho).put l (by decide) (by decide) h.lt.1 1 _).put l1 (by decide) (by decide) h.lt.1 0 _, h.lt⟩, l⟩
/-- The stages up to a number count. -/
theorem OwnS.commit (h : OwnS w s no ns nu O cO S cS U cU sg [] w') {n : Int} {A : Option Addr} {k cA m : Nat} {U9 : Option Addr} {c9 : Nat} (hA : w'.ownsRow w.heap.size 50 2 (.slice A k cA) k (sgc (keepG n sg))) (hg : w'.grownBy w'' (Value.slice U nu cU).ownBlock)
    (ho : w''.ownsRow w.heap.size 29 5 (.slice U9 (nu + m) c9) (nu + m) (rec_ s.out ++ rec_ (goesO n s.st))) (hl : (Value.slice U9 (nu + m) c9).ownBlock = (Value.slice U nu cU).ownBlock ∨ (Value.slice U9 (nu + m) c9).ownBlock = some w'.heap.size) :
    OwnS w ⟨s.op, keepO n s.st, n, s.out ++ goesO n s.st⟩ no k (nu + m) O cO A cA U9 c9 (keepG n sg) [] w'' := by
  have hm : (keepG n sg).map pgOf = keepO n s.st := by rw [keepG_map]; have := h.map; rw [List.append_nil] at this; rw [this]
  have hk : k = (keepG n sg).length := by have := hA.1; rw [lenG] at this; omega
  have hn : nu + m = (s.out ++ goesO n s.st).length := by have := ho.1; rw [← appR, lenR] at this; omega
  refine ⟨own_grown h.oo hg h.aou, by rw [List.append_nil]; exact own_grown hA hg (own_kind hA h.ou (by decide)), by rw [appR]; exact ho, fun x hx => own_grown (h.oe x (List.mem_filter.1 hx).1) hg (h.aeu x (List.mem_filter.1 hx).1),
    apart_up h.aou (own_lt_ h.oo) hl, fun x hx => h.aeo x (List.mem_filter.1 hx).1, fun x hx => apart_up (h.aeu x (List.mem_filter.1 hx).1) (own_lt_ (h.oe x (List.mem_filter.1 hx).1)) hl, by rw [List.append_nil]; exact hm, h.lo, ?_, hn, h.below.grown hg h.below.size fun q hq => (h.ou.lt q hq).1⟩
  show k = (keepO n s.st).length
  rw [hk, ← hm, List.length_map]
theorem CnAt.commit (h : CnAt w tb R s no ns nu O cO S cS U cU sg [] w') {n : Int} {A : Option Addr} {k cA m : Nat} {U9 : Option Addr} {c9 : Nat} (hA : w'.ownsRow w.heap.size 50 2 (.slice A k cA) k (sgc (keepG n sg))) (hg : w'.grownBy w'' (Value.slice U nu cU).ownBlock)
    (ho : w''.ownsRow w.heap.size 29 5 (.slice U9 (nu + m) c9) (nu + m) (rec_ s.out ++ rec_ (goesO n s.st))) (hl : (Value.slice U9 (nu + m) c9).ownBlock = (Value.slice U nu cU).ownBlock ∨ (Value.slice U9 (nu + m) c9).ownBlock = some w'.heap.size) :
    CnAt w tb R ⟨s.op, keepO n s.st, n, s.out ++ goesO n s.st⟩ no k (nu + m) O cO A cA U9 c9 (keepG n sg) [] (((w''.setCell ⟨tb, 1, none⟩ (.slice A k cA)).setCell ⟨tb, 3, none⟩ (.slice U9 (nu + m) c9)).setCell ⟨tb, 2, none⟩ (.int .i64 n)) ∧ Lies tb (skC O no cO S ns cS s.last U nu cU) 25 w'' := by
  have l := lies_grown h.st hg (own_lies h.ow.ou h.st (by decide))
  have r1 := lies_grown h.res hg (own_lies h.ow.ou h.res (by decide))
  have l1 := l.set 1 (.slice A k cA)
  have l2 := l1.set 3 (.slice U9 (nu + m) c9)
  exact ⟨⟨by have := l2.set 2 (.int .i64 n); simpa using this, ((r1.other (Ne.symm h.lt.2.2) _ _).other (Ne.symm h.lt.2.2) _ _).other (Ne.symm h.lt.2.2) _ _,
    (((h.ow.commit hA hg ho hl).put l (by decide) (by decide) h.lt.1 1 _).put l1 (by decide) (by decide) h.lt.1 3 _).put l2 (by decide) (by decide) h.lt.1 2 _, h.lt⟩, l⟩
/-- The open results are let go; then the stages. -/
theorem CnAt.drop0 (h : CnAt w tb R s no ns nu O cO S cS U cU sg [] w') : CnAt w tb R ⟨[], s.st, s.last, s.out⟩ 0 ns nu none 0 S cS U cU sg [] (w'.setCell ⟨tb, 0, none⟩ (.slice none 0 0)) :=
  ⟨by have := h.st.set 0 (.slice none 0 0); simpa using this, h.res.other (Ne.symm h.lt.2.2) _ _,
   OwnS.put (s := ⟨[], s.st, s.last, s.out⟩) ⟨own_none, h.ow.os, h.ow.ou, h.ow.oe, fun q h1 => (by cases h1), fun x hx q h1 h2 => (by cases h2), h.ow.aeu, h.ow.map, rfl, h.ow.ls, h.ow.lu, h.ow.below⟩ h.st (by decide) (by decide) h.lt.1 0 _, h.lt⟩
theorem CnAt.drop1 (h : CnAt w tb R s no ns nu O cO S cS U cU sg [] w') {A : Option Addr} {k cA : Nat} (hA : w'.ownsRow w.heap.size 50 2 (.slice A k cA) k (sgc [])) :
    CnAt w tb R ⟨s.op, [], s.last, s.out⟩ no k nu O cO A cA U cU [] [] (w'.setCell ⟨tb, 1, none⟩ (.slice A k cA)) :=
  ⟨by have := h.st.set 1 (.slice A k cA); simpa using this, h.res.other (Ne.symm h.lt.2.2) _ _,
   OwnS.put (s := ⟨s.op, [], s.last, s.out⟩) ⟨h.ow.oo, hA, h.ow.ou, fun x hx => (by cases hx), h.ow.aou, fun x hx => (by cases hx), fun x hx => (by cases hx), rfl, h.ow.lo, by have := hA.1; rw [lenG] at this; simp at this; simp; omega, h.ow.lu, h.ow.below⟩ h.st (by decide) (by decide) h.lt.1 1 _, h.lt⟩
end
theorem add_as (s : Si) (r : Re) : addO s r = if rightS s = false then (zS, 1) else if okR r = false then (zS, 1) else if countS s = 20000 then (zS, 3) else (⟨s.op ++ [r], s.st, s.last, s.out⟩, 0) := by
  unfold addO rightS
  cases e : roomS s with
  | none => rfl
  | some m =>
    have h := (room_eq e).2
    simp only [Option.isSome_some, Bool.true_eq_false, if_false]
    have : (m = 0) = (countS s = 20000) := by unfold countS; apply propext; constructor <;> intro h1 <;> omega
    simp only [this]
theorem srt_le : ∀ {l : List Pg} {b : Int}, Srt b l → ∀ x ∈ l, x.1 ≤ 1073741824
  | [], _, _, x, hx => by cases hx
  | y :: l, b, ⟨h1, h2, h3⟩, x, hx => by
    rcases List.mem_cons.1 hx with rfl | hx
    · exact h2
    · exact srt_le h3 x hx
theorem keep_most {s : Si} (h : rightS s = true) {sg : List Sg} (hm : sg.map pgOf = s.st) : keepG 1073741824 sg = [] := by
  unfold keepG
  rw [List.filter_eq_nil_iff]
  intro x hx
  have h1 : pgOf x ∈ s.st := by rw [← hm]; exact List.mem_map_of_mem hx
  have := srt_le (right_ri h).r _ h1
  simp only at this
  simpa using this
theorem addC_ret {M : Nat → Prop} {w wF : World} {R no ns nu : Nat} {o : Si × Int} {O : Option Addr} {cO : Nat} {S : Option Addr} {cS : Nat} {U : Option Addr} {cU : Nat} {act : Act} (ht : act.tmps.getD 4 undef = .pointer (some ⟨R, 0, none⟩)) (he : act.tmps.getD 5 undef = .int .i64 o.2) (hd : act.defers = [])
    (hL : Lies R (skC O no cO S ns cS o.1.last U nu cU) 25 wF) (h1 : SkM M wF o.1 no ns nu O cO S cS U cU) (hB : Below w.heap.size w wF) :
    bodyPost Try.prog Try.f9 (GivesSkM M o w) .ret act wF := by
  have c0 := hL.cell (j := 0) rfl
  have c1 := hL.cell (j := 1) rfl
  have c2 := hL.cell (j := 2) rfl
  have c3 := hL.cell (j := 3) rfl
  refine bodyPost_ret (v := .tuple #[skV O no cO S ns cS o.1.last U nu cU, .int .i64 o.2]) ?_ hd ⟨no, ns, nu, O, cO, S, cS, U, cU, rfl, h1, hB⟩
  have ht2 : act.tmps[4]?.getD undef = .pointer (some ⟨R, 0, none⟩) := by simpa using ht
  have he2 : act.tmps[5]?.getD undef = .int .i64 o.2 := by simpa using he
  simp [results, Try.results9, go_sem, ht2, he2, c0, c1, c2, c3]
theorem stageC_ret {M : Nat → Prop} {w wF : World} {R no ns nu : Nat} {o : Si × Int} {O : Option Addr} {cO : Nat} {S : Option Addr} {cS : Nat} {U : Option Addr} {cU : Nat} {act : Act} (ht : act.tmps.getD 4 undef = .pointer (some ⟨R, 0, none⟩)) (he : act.tmps.getD 5 undef = .int .i64 o.2) (hd : act.defers = [])
    (hL : Lies R (skC O no cO S ns cS o.1.last U nu cU) 25 wF) (h1 : SkM M wF o.1 no ns nu O cO S cS U cU) (hB : Below w.heap.size w wF) :
    bodyPost Try.prog Try.f11 (GivesSkM M o w) .ret act wF := by
  have c0 := hL.cell (j := 0) rfl
  have c1 := hL.cell (j := 1) rfl
  have c2 := hL.cell (j := 2) rfl
  have c3 := hL.cell (j := 3) rfl
  refine bodyPost_ret (v := .tuple #[skV O no cO S ns cS o.1.last U nu cU, .int .i64 o.2]) ?_ hd ⟨no, ns, nu, O, cO, S, cS, U, cU, rfl, h1, hB⟩
  have ht2 : act.tmps[4]?.getD undef = .pointer (some ⟨R, 0, none⟩) := by simpa using ht
  have he2 : act.tmps[5]?.getD undef = .int .i64 o.2 := by simpa using he
  simp [results, Try.results11, go_sem, ht2, he2, c0, c1, c2, c3]
theorem commitC_ret {M : Nat → Prop} {w wF : World} {R no ns nu : Nat} {o : Si × Int} {O : Option Addr} {cO : Nat} {S : Option Addr} {cS : Nat} {U : Option Addr} {cU : Nat} {act : Act} (ht : act.tmps.getD 4 undef = .pointer (some ⟨R, 0, none⟩)) (he : act.tmps.getD 5 undef = .int .i64 o.2) (hd : act.defers = [])
    (hL : Lies R (skC O no cO S ns cS o.1.last U nu cU) 25 wF) (h1 : SkM M wF o.1 no ns nu O cO S cS U cU) (hB : Below w.heap.size w wF) :
    bodyPost Try.prog Try.f17 (GivesSkM M o w) .ret act wF := by
  have c0 := hL.cell (j := 0) rfl
  have c1 := hL.cell (j := 1) rfl
  have c2 := hL.cell (j := 2) rfl
  have c3 := hL.cell (j := 3) rfl
  refine bodyPost_ret (v := .tuple #[skV O no cO S ns cS o.1.last U nu cU, .int .i64 o.2]) ?_ hd ⟨no, ns, nu, O, cO, S, cS, U, cU, rfl, h1, hB⟩
  have ht2 : act.tmps[4]?.getD undef = .pointer (some ⟨R, 0, none⟩) := by simpa using ht
  have he2 : act.tmps[5]?.getD undef = .int .i64 o.2 := by simpa using he
  simp [results, Try.results17, go_sem, ht2, he2, c0, c1, c2, c3]
theorem abortC_ret {M : Nat → Prop} {w wF : World} {R no ns nu : Nat} {o : Si × Int} {O : Option Addr} {cO : Nat} {S : Option Addr} {cS : Nat} {U : Option Addr} {cU : Nat} {act : Act} (ht : act.tmps.getD 2 undef = .pointer (some ⟨R, 0, none⟩)) (he : act.tmps.getD 3 undef = .int .i64 o.2) (hd : act.defers = [])
    (hL : Lies R (skC O no cO S ns cS o.1.last U nu cU) 25 wF) (h1 : SkM M wF o.1 no ns nu O cO S cS U cU) (hB : Below w.heap.size w wF) :
    bodyPost Try.prog Try.f19 (GivesSkM M o w) .ret act wF := by
  have c0 := hL.cell (j := 0) rfl
  have c1 := hL.cell (j := 1) rfl
  have c2 := hL.cell (j := 2) rfl
  have c3 := hL.cell (j := 3) rfl
  refine bodyPost_ret (v := .tuple #[skV O no cO S ns cS o.1.last U nu cU, .int .i64 o.2]) ?_ hd ⟨no, ns, nu, O, cO, S, cS, U, cU, rfl, h1, hB⟩
  have ht2 : act.tmps[2]?.getD undef = .pointer (some ⟨R, 0, none⟩) := by simpa using ht
  have he2 : act.tmps[3]?.getD undef = .int .i64 o.2 := by simpa using he
  simp [results, Try.results19, go_sem, ht2, he2, c0, c1, c2, c3]
end Sk
end Go.Proofs.Ytmkbdlailffjeaa
