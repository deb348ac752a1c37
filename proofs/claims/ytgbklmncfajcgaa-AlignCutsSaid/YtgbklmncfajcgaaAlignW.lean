/- Rows of an aligner being put together. -/
import Derived.Test.YtgbklmncfajcgaaAlignR
import Derived.Test.YtgbklmncfajcgaaHold
import Derived.Maps.AppendAt
namespace Go.Proofs.Ytgbklmncfajcgaa
open Go.ChangeShapes Go.WideShapes Go.ChangeAt Go.RowKit
set_option linter.unusedVariables false
set_option maxRecDepth 8000
namespace Aln
open Gen (TellsB row_one flat_len flat_get)
open Itm
theorem info_partsA {x : Option TypeInfo} {z : Value} {s b : Nat} (h : x.map (fun i => (i.zero, i.size, i.bytes)) = some (some z, s, b)) : ∃ i, x = some i ∧ i.zero = some z ∧ i.size = s ∧ i.bytes = b := by
  cases x with
  | none => cases h
  | some i =>
    simp only [Option.map_some, Option.some.injEq, Prod.mk.injEq] at h
    exact ⟨i, rfl, h.1, h.2.1, h.2.2⟩
theorem own_upA {w w' : World} {B size n : Nat} {e : TypeId} {v : Value} {xs : List Value} (h : w.ownsRow B e size v n xs) (hb : Below w.heap.size w w') : w'.ownsRow B e size v n xs :=
  Gen.ownsRow_block h fun k _ hk => hb.block k hk
theorem own_setA {B size n : Nat} {e : TypeId} {w : World} {u : Value} {cs : List Value} (h : w.ownsRow B e size u n cs) (p : Addr) (hp : u.ownBlock ≠ some p.block) (z : Value) : (w.setCell p z).ownsRow B e size u n cs :=
  Gen.ownsRow_block h fun k hk _ => Below.heap_setCell w p z k (fun e => hp (by rw [← e]; exact hk))
theorem lies_grownA {w w' : World} {row : Option Nat} {b : Nat} {C : Array Value} {T : TypeId} (h : Lies b C T w) (hg : w.grownBy w' row) (hne : row ≠ some b) : Lies b C T w' :=
  (hg.block b (lt_of_block h) (fun e => hne e.symm)).trans h
/-- Rows of different kinds lie apart. -/
theorem own_kindA {w : World} {B1 B2 s1 s2 n1 n2 : Nat} {e1 e2 : TypeId} {u v : Value} {xs ys : List Value} (h : w.ownsRow B1 e1 s1 u n1 xs) (k : w.ownsRow B2 e2 s2 v n2 ys) (hne : e1 ≠ e2) : ∀ q, u.ownBlock = some q → v.ownBlock ≠ some q := by
  intro q h1 h2
  obtain ⟨_, ⟨rfl, _⟩ | ⟨g, cap, cur, rfl, _, hh, _⟩⟩ := h
  · cases h1
  · obtain ⟨_, ⟨rfl, _⟩ | ⟨g', cap', cur', rfl, _, hh', _⟩⟩ := k
    · cases h2
    · cases h1
      cases h2
      rw [hh] at hh'
      simp only [Option.some.injEq, Obj.cells.injEq] at hh'
      exact hne hh'.2.1
theorem own_grownA {w w' : World} {B size n : Nat} {e : TypeId} {u v : Value} {xs : List Value} (h : w.ownsRow B e size u n xs) (hg : w.grownBy w' v.ownBlock) (hne : ∀ q, u.ownBlock = some q → v.ownBlock ≠ some q) : w'.ownsRow B e size u n xs :=
  Gen.ownsRow_block h fun k hk hlt => hg.block k hlt (fun e => hne k hk e.symm)
theorem InfoG : (Try.prog.info? 4).map (fun i => (i.zero, i.size, i.bytes)) = some (some (.bool false), 1, 1) := by kernel_rfl
theorem lenG (l : List Bool) : (gcs l).length = l.length * 1 := flat_len gL gL_len l
theorem appG (l m : List Bool) : gcs (l ++ m) = gcs l ++ gcs m := by simp [gcs]
theorem onesG (l : List Bool) : ∀ u ∈ gcs l, u.oneCell' = true := by
  intro u hu
  obtain ⟨p, _, hp⟩ := List.mem_flatMap.1 hu
  simp only [gL, List.mem_cons, List.not_mem_nil, or_false] at hp
  rw [hp]; rfl
theorem own_rowG {w : World} {B n c : Nat} {A : Option Addr} {l : List Bool} (h : w.ownsRow B 4 1 (.slice A n c) n (gcs l)) : Row w A (gcs l) ∧ n ≤ c ∧ n = l.length := by
  obtain ⟨A', c', e, h1, h2, h3, h4, _⟩ := own_form h (by omega)
  cases e
  rw [lenG] at h3
  exact ⟨h4, h1, by omega⟩
theorem wpPushG {ops : Array Oper} {rest : List Oper} {o : Oper} {a : Act} {Q : Exit → Act → World → Prop} {B k : Nat} {w : World} (hgd : o.guard = none) (s x : Operand)
    (ho : o.op = .call { callee := .builtin .append, args := #[s, x], argTypes := #[22, 22] }) (v : Value) (ms : List Bool) (hs : a.eval s = v) (hk : k = ms.length) (h : w.ownsRow B 4 1 v k (gcs ms)) (hB : B ≤ w.heap.size)
    (ad : Addr) (c : Nat) (y : Bool) (hx : a.eval x = .slice (some ad) 1 c) (hr : Row w (some ad) (gcs [y])) (hlen : k ≤ 1000000)
    (hK : ∀ v' w', w'.ownsRow B 4 1 v' (k + 1) (gcs (ms ++ [y])) → w.grownBy w' v.ownBlock → wpList Try.prog ops Q rest (a.put o.dst v') w') :
    wpList Try.prog ops Q (o :: rest) a w := by
  obtain ⟨i0, hi0, hz0, hz1, hz2⟩ := info_partsA InfoG
  have hcells : ∀ j u, (gcs [y])[j]? = some u → w.cell? (ad.add j) = some u := by
    rcases hr with hr | ⟨b, off, hr, hc⟩
    · have := lenG [y]; rw [hr] at this; simp at this
    · cases hr
      intro j u hu
      rw [Go.WideShapes.add_plain]
      exact hc j u hu
  refine wpList_append_own_at w hgd s x 22 ho B 4 i0 _ 1 1 Try.underlying22 hi0 hz0 hz1 hz2 rfl (by omega) v k (gcs ms) hs h ad 1 c (gcs [y]) hx (by rw [lenG]; rfl) hcells (onesG [y])
    (by unfold maxLen; omega) (by omega) hB ?_
  intro v' w' hown hg _ hat
  exact hK v' w' (by rw [appG]; exact hown) hg
theorem one_rowG (w : World) (p : Bool) : Row (w.alloc (.cells #[.bool p] 4)) (some ⟨w.heap.size, 0, none⟩) (gcs [p]) := by
  refine .inr ⟨w.heap.size, 0, rfl, fun j u hu => ?_⟩
  rw [Nat.zero_add]
  exact (Lies.new w #[.bool p] 4).cell (by simpa [gcs] using hu)
theorem InfoH : (Try.prog.info? 30).map (fun i => (i.zero, i.size, i.bytes)) = some (some (.slice none 0 0), 1, 24) := by kernel_rfl
theorem lenH (l : List Hd) : (hsc l).length = l.length * 1 := flat_len hsL hsL_len l
theorem appH (l m : List Hd) : hsc (l ++ m) = hsc l ++ hsc m := by simp [hsc]
theorem onesH (l : List Hd) : ∀ u ∈ hsc l, u.oneCell' = true := by
  intro u hu
  obtain ⟨p, _, hp⟩ := List.mem_flatMap.1 hu
  simp only [hsL, List.mem_cons, List.not_mem_nil, or_false] at hp
  rw [hp]; rfl
theorem own_rowH {w : World} {B n c : Nat} {A : Option Addr} {l : List Hd} (h : w.ownsRow B 30 1 (.slice A n c) n (hsc l)) : Row w A (hsc l) ∧ n ≤ c ∧ n = l.length := by
  obtain ⟨A', c', e, h1, h2, h3, h4, _⟩ := own_form h (by omega)
  cases e
  rw [lenH] at h3
  exact ⟨h4, h1, by omega⟩
theorem wpPushH {ops : Array Oper} {rest : List Oper} {o : Oper} {a : Act} {Q : Exit → Act → World → Prop} {B k : Nat} {w : World} (hgd : o.guard = none) (s x : Operand)
    (ho : o.op = .call { callee := .builtin .append, args := #[s, x], argTypes := #[23, 23] }) (v : Value) (ms : List Hd) (hs : a.eval s = v) (hk : k = ms.length) (h : w.ownsRow B 30 1 v k (hsc ms)) (hB : B ≤ w.heap.size)
    (ad : Addr) (c : Nat) (y : Hd) (hx : a.eval x = .slice (some ad) 1 c) (hr : Row w (some ad) (hsc [y])) (hlen : k ≤ 1000000)
    (hK : ∀ v' w', w'.ownsRow B 30 1 v' (k + 1) (hsc (ms ++ [y])) → w.grownBy w' v.ownBlock → wpList Try.prog ops Q rest (a.put o.dst v') w') :
    wpList Try.prog ops Q (o :: rest) a w := by
  obtain ⟨i0, hi0, hz0, hz1, hz2⟩ := info_partsA InfoH
  have hcells : ∀ j u, (hsc [y])[j]? = some u → w.cell? (ad.add j) = some u := by
    rcases hr with hr | ⟨b, off, hr, hc⟩
    · have := lenH [y]; rw [hr] at this; simp at this
    · cases hr
      intro j u hu
      rw [Go.WideShapes.add_plain]
      exact hc j u hu
  refine wpList_append_own_at w hgd s x 23 ho B 30 i0 _ 1 24 Try.underlying23 hi0 hz0 hz1 hz2 rfl (by omega) v k (hsc ms) hs h ad 1 c (hsc [y]) hx (by rw [lenH]; rfl) hcells (onesH [y])
    (by unfold maxLen; omega) (by omega) hB ?_
  intro v' w' hown hg _ hat
  exact hK v' w' (by rw [appH]; exact hown) hg
theorem one_rowH (w : World) (p : Hd) : Row (w.alloc (.cells #[.slice p.1 p.2.2.length p.2.1] 30)) (some ⟨w.heap.size, 0, none⟩) (hsc [p]) := by
  refine .inr ⟨w.heap.size, 0, rfl, fun j u hu => ?_⟩
  rw [Nat.zero_add]
  exact (Lies.new w #[.slice p.1 p.2.2.length p.2.1] 30).cell (by simpa [hsc] using hu)
theorem InfoI : (Try.prog.info? 42).map (fun i => (i.zero, i.size, i.bytes)) = some (some (.agg #[.int .i64 0, .string ⟨#[]⟩, .int .i64 0, .int .i64 0, .int .i64 0, .int .i64 0, .int .i64 0, .int .i64 0, .string ⟨#[]⟩, .int .i64 0, .int .i64 0]), 11, 104) := by kernel_rfl
theorem lenI (l : List It) : (itc l).length = l.length * 11 := flat_len itL itL_len l
theorem appI (l m : List It) : itc (l ++ m) = itc l ++ itc m := by simp [itc]
theorem onesI (l : List It) : ∀ u ∈ itc l, u.oneCell' = true := by
  intro u hu
  obtain ⟨p, _, hp⟩ := List.mem_flatMap.1 hu
  simp only [itL, List.mem_cons, List.not_mem_nil, or_false] at hp
  rcases hp with rfl | rfl | rfl | rfl | rfl | rfl | rfl | rfl | rfl | rfl | rfl <;> rfl
theorem own_rowI {w : World} {B n c : Nat} {A : Option Addr} {l : List It} (h : w.ownsRow B 42 11 (.slice A n c) n (itc l)) : Row w A (itc l) ∧ n ≤ c ∧ n = l.length := by
  obtain ⟨A', c', e, h1, h2, h3, h4, _⟩ := own_form h (by omega)
  cases e
  rw [lenI] at h3
  exact ⟨h4, h1, by omega⟩
theorem wpPushI {ops : Array Oper} {rest : List Oper} {o : Oper} {a : Act} {Q : Exit → Act → World → Prop} {B k : Nat} {w : World} (hgd : o.guard = none) (s x : Operand)
    (ho : o.op = .call { callee := .builtin .append, args := #[s, x], argTypes := #[30, 30] }) (v : Value) (ms : List It) (hs : a.eval s = v) (hk : k = ms.length) (h : w.ownsRow B 42 11 v k (itc ms)) (hB : B ≤ w.heap.size)
    (ad : Addr) (c : Nat) (y : It) (hx : a.eval x = .slice (some ad) 1 c) (hr : Row w (some ad) (itc [y])) (hlen : k ≤ 1000000)
    (hK : ∀ v' w', w'.ownsRow B 42 11 v' (k + 1) (itc (ms ++ [y])) → w.grownBy w' v.ownBlock → wpList Try.prog ops Q rest (a.put o.dst v') w') :
    wpList Try.prog ops Q (o :: rest) a w := by
  obtain ⟨i0, hi0, hz0, hz1, hz2⟩ := info_partsA InfoI
  have hcells : ∀ j u, (itc [y])[j]? = some u → w.cell? (ad.add j) = some u := by
    rcases hr with hr | ⟨b, off, hr, hc⟩
    · have := lenI [y]; rw [hr] at this; simp at this
    · cases hr
      intro j u hu
      rw [Go.WideShapes.add_plain]
      exact hc j u hu
  refine wpList_append_own_at w hgd s x 30 ho B 42 i0 _ 11 104 Try.underlying30 hi0 hz0 hz1 hz2 rfl (by omega) v k (itc ms) hs h ad 1 c (itc [y]) hx (by rw [lenI]; rfl) hcells (onesI [y])
    (by unfold maxLen; omega) (by omega) hB ?_
  intro v' w' hown hg _ hat
  exact hK v' w' (by rw [appI]; exact hown) hg
theorem one_rowI (w : World) (p : It) : Row (w.alloc (.cells (itC p) 42)) (some ⟨w.heap.size, 0, none⟩) (itc [p]) := by
  refine .inr ⟨w.heap.size, 0, rfl, fun j u hu => ?_⟩
  rw [Nat.zero_add]
  exact (Lies.new w (itC p) 42).cell (by simpa [itc] using hu)
theorem own_baseA {w : World} {B B' size n : Nat} {e : TypeId} {v : Value} {xs : List Value} (h : w.ownsRow B e size v n xs) (hb : B' ≤ B) : w.ownsRow B' e size v n xs := by
  obtain ⟨hl, ⟨rfl, rfl⟩ | ⟨g, cap, cur, rfl, hg, rest⟩⟩ := h
  · exact ⟨hl, .inl ⟨rfl, rfl⟩⟩
  · exact ⟨hl, .inr ⟨g, cap, cur, rfl, Nat.le_trans hb hg, rest⟩⟩
/-- A row of items of the call's own. -/
abbrev OwnI (w : World) (B : Nat) (x : Hd) : Prop := w.ownsRow B 42 11 (.slice x.1 x.2.2.length x.2.1) x.2.2.length (itc x.2.2)
/-- An aligner's rows, the call's own. -/
structure OwnA (w : World) (B : Nat) (gs : List Bool) (hs : List Hd) (ng : Nat) (G : Option Addr) (cG : Nat) (H : Option Addr) (cH : Nat) : Prop where
  got : w.ownsRow B 4 1 (.slice G ng cG) ng (gcs gs)
  held : w.ownsRow B 30 1 (.slice H ng cH) ng (hsc hs)
  each : ∀ x ∈ hs, OwnI w B x
theorem OwnA.rows {w : World} {B : Nat} {gs : List Bool} {hs : List Hd} {ng : Nat} {G : Option Addr} {cG : Nat} {H : Option Addr} {cH : Nat} (h : OwnA w B gs hs ng G cG H cH) : Row w G (gcs gs) ∧ HAt w H hs ∧ ng ≤ cG ∧ ng ≤ cH ∧ (∀ x ∈ hs, x.2.2.length ≤ x.2.1) ∧ ng = gs.length ∧ ng = hs.length := by
  have h1 := own_rowG h.got
  have h2 := own_rowH h.held
  exact ⟨h1.1, ⟨h2.1, fun x hx => (own_rowI (h.each x hx)).1⟩, h1.2.1, h2.2.1, fun x hx => (own_rowI (h.each x hx)).2.1, h1.2.2, h2.2.2⟩
theorem OwnA.next {w w' : World} {B : Nat} {gs : List Bool} {hs : List Hd} {ng : Nat} {G : Option Addr} {cG : Nat} {H : Option Addr} {cH : Nat} (h : OwnA w B gs hs ng G cG H cH) (hb : Below w.heap.size w w') : OwnA w' B gs hs ng G cG H cH :=
  ⟨own_upA h.got hb, own_upA h.held hb, fun x hx => own_upA (h.each x hx) hb⟩
/-- A block ahead of them is turned. -/
theorem OwnA.set {w : World} {B : Nat} {gs : List Bool} {hs : List Hd} {ng : Nat} {G : Option Addr} {cG : Nat} {H : Option Addr} {cH : Nat} (h : OwnA w B gs hs ng G cG H cH) (p : Addr) (hp : p.block < B) (z : Value) : OwnA (w.setCell p z) B gs hs ng G cG H cH :=
  ⟨own_setA h.got p (fun e => by have := (h.got.lt _ e).1; omega) z, own_setA h.held p (fun e => by have := (h.held.lt _ e).1; omega) z, fun x hx => own_setA (h.each x hx) p (fun e => by have := ((h.each x hx).lt _ e).1; omega) z⟩
theorem OwnA.base {w : World} {B B' : Nat} {gs : List Bool} {hs : List Hd} {ng : Nat} {G : Option Addr} {cG : Nat} {H : Option Addr} {cH : Nat} (h : OwnA w B gs hs ng G cG H cH) (hb : B' ≤ B) : OwnA w B' gs hs ng G cG H cH :=
  ⟨own_baseA h.got hb, own_baseA h.held hb, fun x hx => own_baseA (h.each x hx) hb⟩
end Aln
end Go.Proofs.Ytgbklmncfajcgaa
