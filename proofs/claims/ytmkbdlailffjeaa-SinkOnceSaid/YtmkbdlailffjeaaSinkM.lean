/- Sinks in memory; what is made of them. -/
import Derived.Test.YtmkbdlailffjeaaSinkR
namespace Go.Proofs.Ytmkbdlailffjeaa
open Go.ChangeShapes Go.WideShapes Go.ChangeAt Go.RowKit
set_option linter.unusedVariables false
set_option maxRecDepth 8000
namespace Sk
open Gen (TellsB row_one flat_len flat_get Mine)
/-- A row avoids the blocks of M. -/
def OffR (M : Nat → Prop) (A : Option Addr) (cs : List Value) : Prop := cs = [] ∨ ∀ x, A = some x → ¬ M x.block
theorem OffR.old {M : Nat → Prop} {w : World} {A : Option Addr} {cs : List Value} (h : Row w A cs) (hM : ∀ k, M k → w.heap.size ≤ k) : OffR M A cs := by
  rcases h with h | ⟨b, off, rfl, h⟩
  · exact .inl h
  · cases cs with
    | nil => exact .inl rfl
    | cons v r =>
      right
      intro x hx hm
      cases hx
      have h1 := lt_of_cell (h 0 v rfl)
      have h2 := hM _ hm
      simp only at h1 h2
      omega
theorem OffR.row {M : Nat → Prop} {w w' : World} {A : Option Addr} {cs : List Value} (h : OffR M A cs) (hm : Mine M w w') (hr : Row w A cs) : Row w' A cs := by
  rcases h with h | h
  · exact .inl h
  · exact hm.row hr h
theorem OffR.own {M : Nat → Prop} {w : World} {B size n c : Nat} {e : TypeId} {A : Option Addr} {xs : List Value} (h : w.ownsRow B e size (.slice A n c) n xs) (hM : ∀ k, M k → k < B) : OffR M A xs := by
  obtain ⟨hl, ⟨h0, h1⟩ | ⟨g, cap, cur, hv, hg, _⟩⟩ := h
  · subst h1
    rw [Nat.zero_mul] at hl
    exact .inl (List.eq_nil_of_length_eq_zero hl)
  · cases hv
    right
    intro x hx hm
    cases hx
    have := hM _ hm
    simp only at this
    omega
theorem OffR.more {M M' : Nat → Prop} {w : World} {A : Option Addr} {cs : List Value} (h : OffR M A cs) (hr : Row w A cs) (hM : ∀ k, M' k → M k ∨ w.heap.size ≤ k) : OffR M' A cs := by
  rcases h with h | h
  · exact .inl h
  · rcases hr with hr | ⟨b, off, rfl, hr⟩
    · exact .inl hr
    · cases cs with
      | nil => exact .inl rfl
      | cons v r =>
        right
        intro x hx hm
        rcases hM _ hm with h1 | h1
        · exact h x hx h1
        · cases hx
          have h2 := lt_of_cell (hr 0 v rfl)
          simp only at h1 h2
          omega
/-- A sink's rows. -/
structure RawS (w : World) (s : Si) (no ns nu : Nat) (O : Option Addr) (cO : Nat) (S : Option Addr) (cS : Nat) (U : Option Addr) (cU : Nat) (sg : List Sg) : Prop where
  lno : no = s.op.length
  lns : ns = s.st.length
  lnu : nu = s.out.length
  ro : Row w O (rec_ s.op)
  rs : GAt w S sg
  ru : Row w U (rec_ s.out)
  map : sg.map pgOf = s.st
  co : no ≤ cO
  cs : ns ≤ cS
  cu : nu ≤ cU
  cap : ∀ x ∈ sg, x.2.2.2.length ≤ x.2.2.1
structure OffS (M : Nat → Prop) (s : Si) (O S U : Option Addr) (sg : List Sg) : Prop where
  o : OffR M O (rec_ s.op)
  t : OffR M S (sgc sg)
  e : ∀ x ∈ sg, OffR M x.2.1 (rec_ x.2.2.2)
  u : OffR M U (rec_ s.out)
def SkAt (w : World) (s : Si) (no ns nu : Nat) (O : Option Addr) (cO : Nat) (S : Option Addr) (cS : Nat) (U : Option Addr) (cU : Nat) : Prop := ∃ sg, RawS w s no ns nu O cO S cS U cU sg
def SkM (M : Nat → Prop) (w : World) (s : Si) (no ns nu : Nat) (O : Option Addr) (cO : Nat) (S : Option Addr) (cS : Nat) (U : Option Addr) (cU : Nat) : Prop := ∃ sg, RawS w s no ns nu O cO S cS U cU sg ∧ OffS M s O S U sg
section
variable {M : Nat → Prop} {w w' : World} {s : Si} {no ns nu : Nat} {O : Option Addr} {cO : Nat} {S : Option Addr} {cS : Nat} {U : Option Addr} {cU : Nat} {sg : List Sg}
theorem RawS.below (h : RawS w s no ns nu O cO S cS U cU sg) (hb : Below w.heap.size w w') : RawS w' s no ns nu O cO S cS U cU sg :=
  ⟨h.lno, h.lns, h.lnu, h.ro.below hb, h.rs.below hb, h.ru.below hb, h.map, h.co, h.cs, h.cu, h.cap⟩
theorem RawS.mine (h : RawS w s no ns nu O cO S cS U cU sg) (ho : OffS M s O S U sg) (hm : Mine M w w') : RawS w' s no ns nu O cO S cS U cU sg :=
  ⟨h.lno, h.lns, h.lnu, ho.o.row hm h.ro, ⟨ho.t.row hm h.rs.row, fun x hx => (ho.e x hx).row hm (h.rs.each x hx)⟩, ho.u.row hm h.ru, h.map, h.co, h.cs, h.cu, h.cap⟩
theorem SkAt.below (h : SkAt w s no ns nu O cO S cS U cU) (hb : Below w.heap.size w w') : SkAt w' s no ns nu O cO S cS U cU := by
  obtain ⟨sg, h1⟩ := h
  exact ⟨sg, h1.below hb⟩
theorem SkM.below (h : SkM M w s no ns nu O cO S cS U cU) (hb : Below w.heap.size w w') : SkM M w' s no ns nu O cO S cS U cU := by
  obtain ⟨sg, h1, h2⟩ := h
  exact ⟨sg, h1.below hb, h2⟩
theorem SkM.mine (h : SkM M w s no ns nu O cO S cS U cU) (hm : Mine M w w') : SkM M w' s no ns nu O cO S cS U cU := by
  obtain ⟨sg, h1, h2⟩ := h
  exact ⟨sg, h1.mine h2 hm, h2⟩
theorem SkM.at_ (h : SkM M w s no ns nu O cO S cS U cU) : SkAt w s no ns nu O cO S cS U cU := by
  obtain ⟨sg, h1, _⟩ := h
  exact ⟨sg, h1⟩
theorem SkAt.mk_ (h : SkAt w s no ns nu O cO S cS U cU) (M : Nat → Prop) (hM : ∀ k, M k → w.heap.size ≤ k) : SkM M w s no ns nu O cO S cS U cU := by
  obtain ⟨sg, h1⟩ := h
  exact ⟨sg, h1, ⟨.old h1.ro hM, .old h1.rs.row hM, fun x hx => .old (h1.rs.each x hx) hM, .old h1.ru hM⟩⟩
theorem SkM.more {M' : Nat → Prop} (h : SkM M w s no ns nu O cO S cS U cU) (hM : ∀ k, M' k → M k ∨ w.heap.size ≤ k) : SkM M' w s no ns nu O cO S cS U cU := by
  obtain ⟨sg, h1, h2⟩ := h
  exact ⟨sg, h1, ⟨h2.o.more h1.ro hM, h2.t.more h1.rs.row hM, fun x hx => (h2.e x hx).more (h1.rs.each x hx) hM, h2.u.more h1.ru hM⟩⟩
theorem SkAt.len (h : SkAt w s no ns nu O cO S cS U cU) : no = s.op.length ∧ ns = s.st.length ∧ nu = s.out.length := by
  obtain ⟨sg, h1⟩ := h
  exact ⟨h1.lno, h1.lns, h1.lnu⟩
end
theorem zero_at (M : Nat → Prop) (w : World) : SkM M w zS 0 0 0 none 0 none 0 none 0 :=
  ⟨[], ⟨rfl, rfl, rfl, .inl rfl, ⟨.inl rfl, fun x hx => by cases hx⟩, .inl rfl, rfl, Nat.le_refl _, Nat.le_refl _, Nat.le_refl _, fun x hx => by cases hx⟩, ⟨.inl rfl, .inl rfl, fun x hx => (by cases hx), .inl rfl⟩⟩
/-- A sink and an error. -/
def GivesSk (o : Si × Int) (w : World) (e : Ending) (w' : World) : Prop :=
  ∃ (no ns nu : Nat) (O : Option Addr) (cO : Nat) (S : Option Addr) (cS : Nat) (U : Option Addr) (cU : Nat), e = .returned (.tuple #[skV O no cO S ns cS o.1.last U nu cU, .int .i64 o.2]) ∧ SkAt w' o.1 no ns nu O cO S cS U cU ∧ Below w.heap.size w w'
def GivesSkM (M : Nat → Prop) (o : Si × Int) (w : World) (e : Ending) (w' : World) : Prop :=
  ∃ (no ns nu : Nat) (O : Option Addr) (cO : Nat) (S : Option Addr) (cS : Nat) (U : Option Addr) (cU : Nat), e = .returned (.tuple #[skV O no cO S ns cS o.1.last U nu cU, .int .i64 o.2]) ∧ SkM M w' o.1 no ns nu O cO S cS U cU ∧ Below w.heap.size w w'
theorem GivesSkM.at_ {M : Nat → Prop} {o : Si × Int} {w : World} {e : Ending} {w' : World} (h : GivesSkM M o w e w') : GivesSk o w e w' := by
  obtain ⟨no, ns, nu, O, cO, S, cS, U, cU, h1, h2, h3⟩ := h
  exact ⟨no, ns, nu, O, cO, S, cS, U, cU, h1, h2.at_, h3⟩
-- what is made of a sink
def lastO (s : Si) : Int := match s.st.getLast? with
  | none => s.last
  | some x => x.1
def addO (s : Si) (r : Re) : Si × Int := match roomS s with
  | none => (zS, 1)
  | some m => if okR r = false then (zS, 1) else if m = 0 then (zS, 3) else (⟨s.op ++ [r], s.st, s.last, s.out⟩, 0)
def stageO (s : Si) (n : Int) : Si × Int :=
  if rightS s = false ∨ 1073741824 < n then (zS, 1) else if n ≤ lastO s then (zS, 190) else if s.st.length = 8 then (zS, 3) else (⟨[], s.st ++ [(n, s.op)], s.last, s.out⟩, 0)
def thereO (n : Int) (l : List Pg) : Bool := l.any fun x => decide (x.1 = n)
def keepO (n : Int) (l : List Pg) : List Pg := l.filter fun x => decide (n < x.1)
def goesO (n : Int) (l : List Pg) : List Re := l.flatMap fun x => if n < x.1 then [] else x.2
def commitO (s : Si) (n : Int) : Si × Int :=
  if rightS s = false then (zS, 1) else if n ≤ s.last then (s, 0) else if thereO n s.st = false then (zS, 190) else (⟨s.op, keepO n s.st, n, s.out ++ goesO n s.st⟩, 0)
def abortO (s : Si) : Si × Int := if rightS s = false then (zS, 1) else (⟨[], [], s.last, s.out⟩, 0)
/-- How large the rows may be. -/
structure Bd (s : Si) : Prop where
  o : s.op.length ≤ 1000000
  u : s.out.length ≤ 1000000
  t : s.st.length ≤ 1000
  e : ∀ x ∈ s.st, x.2.length ≤ 1000000
theorem bd_z : Bd zS := ⟨by simp [zS], by simp [zS], by simp [zS], fun x hx => by cases hx⟩
theorem stO_len : ∀ {l : List Pg} {last : Int} {room m : Nat}, stO last room l = some m → ∀ x ∈ l, x.2.length ≤ room
  | [], _, _, _, _, x, hx => by cases hx
  | y :: r, last, room, m, h, x, hx => by
    cases e : allO y.2 room with
    | none => rw [stO_bad e] at h; cases h
    | some q =>
      rw [stO_next e] at h
      split at h
      · cases h
      · have h1 := all_le e
        rcases List.mem_cons.1 hx with rfl | hx
        · exact h1.2
        · have := stO_len h x hx
          omega
/-- A right sink's rows. -/
structure Fit (s : Si) : Prop where
  o : s.op.length ≤ 20000
  u : s.out.length ≤ 20000
  t : s.st.length ≤ 8
  e : ∀ x ∈ s.st, x.2.length ≤ 20000
  l : 0 ≤ s.last ∧ s.last ≤ 1073741824
theorem room_fit {s : Si} {m : Nat} (h : roomS s = some m) : Fit s := by
  unfold roomS headO at h
  cases e1 : allO s.op 20000 with
  | none => rw [e1] at h; cases h
  | some a =>
    rw [e1] at h
    simp only at h
    cases e2 : allO s.out a with
    | none => rw [e2] at h; cases h
    | some b =>
      rw [e2] at h
      simp only at h
      have h1 := all_le e1
      have h2 := all_le e2
      split at h
      · cases h
      · rename_i b' e3
        split at e3
        · cases e3
        · rename_i h3
          cases e3
          exact ⟨h1.2, by omega, by omega, fun x hx => by have := stO_len h x hx; omega, by omega⟩
theorem right_fit {s : Si} (h : rightS s = true) : Fit s := by
  unfold rightS at h
  cases e : roomS s with
  | none => rw [e] at h; cases h
  | some m => exact room_fit e
theorem Fit.bd {s : Si} (h : Fit s) : Bd s := ⟨by have := h.o; omega, by have := h.u; omega, by have := h.t; omega, fun x hx => by have := h.e x hx; omega⟩
theorem add_bd (s : Si) (r : Re) : Bd (addO s r).1 := by
  unfold addO
  cases e : roomS s with
  | none => exact bd_z
  | some m =>
    have h := room_fit e
    simp only
    split
    · exact bd_z
    · split
      · exact bd_z
      · have hb := h.bd
        exact ⟨by simp only [List.length_append, List.length_singleton]; have := h.o; omega, hb.u, hb.t, hb.e⟩
theorem stage_bd (s : Si) (n : Int) : Bd (stageO s n).1 := by
  unfold stageO
  split
  · exact bd_z
  · rename_i h0
    have h := right_fit (s := s) (by cases e : rightS s with | true => rfl | false => exact absurd (.inl e) h0)
    split
    · exact bd_z
    · split
      · exact bd_z
      · refine ⟨by simp, h.bd.u, by simp only [List.length_append, List.length_singleton]; have := h.t; omega, fun x hx => ?_⟩
        rcases List.mem_append.1 hx with hx | hx
        · exact h.bd.e x hx
        · rw [List.mem_singleton.1 hx]; exact h.bd.o
theorem goes_len (n : Int) : ∀ (l : List Pg) (c : Nat), (∀ x ∈ l, x.2.length ≤ c) → (goesO n l).length ≤ l.length * c
  | [], _, _ => by simp [goesO]
  | x :: r, c, h => by
    have ih := goes_len n r c fun y hy => h y (List.mem_cons_of_mem _ hy)
    have h0 := h x (by simp)
    unfold goesO at ih ⊢
    rw [List.flatMap_cons, List.length_append, List.length_cons, Nat.add_mul]
    split
    · simp only [List.length_nil]; omega
    · omega
theorem commit_bd (s : Si) (n : Int) : Bd (commitO s n).1 := by
  unfold commitO
  split
  · exact bd_z
  · rename_i h0
    have h := right_fit (s := s) (by simpa using h0)
    split
    · exact h.bd
    · split
      · exact bd_z
      · refine ⟨h.bd.o, ?_, ?_, fun x hx => h.bd.e x (List.mem_filter.1 hx).1⟩
        · simp only [List.length_append]
          have h1 := goes_len n s.st 20000 h.e
          have h2 : s.st.length * 20000 ≤ 8 * 20000 := Nat.mul_le_mul_right _ h.t
          have := h.u
          omega
        · exact Nat.le_trans (List.length_filter_le _ _) h.bd.t
theorem abort_bd (s : Si) : Bd (abortO s).1 := by
  unfold abortO
  split
  · exact bd_z
  · rename_i h0
    have h := right_fit (s := s) (by simpa using h0)
    exact ⟨by simp, h.bd.u, by simp, fun x hx => by cases hx⟩
end Sk
end Go.Proofs.Ytmkbdlailffjeaa
