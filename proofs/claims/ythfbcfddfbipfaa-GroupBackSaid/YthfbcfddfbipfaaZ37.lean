/- GroupFr, GroupGetC, put together. -/
import Derived.Test.YthfbcfddfbipfaaZ36
import Derived.Test.YthfbcfddfbipfaaZ29
import Derived.Test.YthfbcfddfbipfaaZ21
/- Where a group's reading stands in memory: the frame of the code's loop. -/
namespace Go.Proofs.Ythfbcfddfbipfaa
open Go.RowKit
open Itm Vlq
set_option linter.unusedVariables false
set_option maxRecDepth 8000
namespace Grp
open Pan (Pn Pl)
/-- A closure that reads, made. -/
def RGives (F G : FuncId) (T : TypeId) (g : Nat) (w : World) (e : Ending) (w' : World) : Prop :=
  ∃ b1 b2, e = .returned (.func (.func F) #[] #[.pointer (some ⟨b1, 0, none⟩), .pointer (some ⟨b2, 0, none⟩)]) ∧ RCapt g b1 b2 G T w' ∧ Below w.heap.size w w' ∧ w.heap.size ≤ b1 ∧ w.heap.size ≤ b2
theorem rcapt_new (g : Nat) (G : FuncId) (T : TypeId) (w : World) (hg : g < w.heap.size) :
    RCapt g w.heap.size (w.heap.size + 1) G T ((w.alloc (.cells #[.pointer (some ⟨g, 0, none⟩)] 128)).alloc (.cells #[.func (.func G) #[] #[]] T)) :=
  ⟨(Lies.new w _ _).al, lies_two _ _ _ _, by omega, by omega⟩
theorem gpReaderN (g : Nat) (G : FuncId) (w : World) (hg : g < w.heap.size) :
    Calls Try.prog 86 #[.pointer (some ⟨g, 0, none⟩), .func (.func G) #[] #[]] w (RGives 114 G 131 g w) := by
  go_enter Try.func86, Try.ntmps86
  go_wp2_with fail
  go_ret
  exact ⟨_, _, rfl, rcapt_new g G _ w hg, below_al (below_al (Below.refl _ _)), Nat.le_refl _, by omega⟩
theorem gpReaderS (g : Nat) (G : FuncId) (w : World) (hg : g < w.heap.size) :
    Calls Try.prog 89 #[.pointer (some ⟨g, 0, none⟩), .func (.func G) #[] #[]] w (RGives 117 G 134 g w) := by
  go_enter Try.func89, Try.ntmps89
  go_wp2_with fail
  go_ret
  exact ⟨_, _, rfl, rcapt_new g G _ w hg, below_al (below_al (Below.refl _ _)), Nat.le_refl _, by omega⟩
/-- A field put, and the place and the error behind it. -/
abbrev put3 (w : World) (f : Nat × Nat) (v : Value) (g : Nat) (x y : Int) : World := ((w.setCell ⟨f.1, f.2, none⟩ v).setCell ⟨g, 1, none⟩ (.int .i64 x)).setCell ⟨g, 2, none⟩ (.int .i64 y)
section
variable {w : World} {f : Nat × Nat} {v : Value} {g : Nat} {x y : Int}
theorem lies_put3 {b : Nat} {C : Array Value} {T : TypeId} (h : Lies b C T w) (hb : b ≠ f.1) (hg : b ≠ g) : Lies b C T (put3 w f v g x y) := ((h.other hb _ _).other hg _ _).other hg _ _
theorem lies_put3_at {C : Array Value} {T : TypeId} (h : Lies f.1 C T w) (hg : f.1 ≠ g) : Lies f.1 (C.setIfInBounds f.2 v) T (put3 w f v g x y) := ((h.set f.2 v).other hg _ _).other hg _ _
theorem rd_put3 {T : TypeId} {s : ByteArray} {i c : Int} (h : RdAt T g s i c w) (hg : f.1 ≠ g) : RdAt T g s x y (put3 w f v g x y) := by
  have h1 : RdAt T g s i c (w.setCell ⟨f.1, f.2, none⟩ v) := (Below.heap_setCell w ⟨f.1, f.2, none⟩ v g (Ne.symm hg)).trans h
  exact (h1.set1 x).set2 y
theorem rcapt_put3 {b1 b2 : Nat} {G : FuncId} {T : TypeId} (h : RCapt g b1 b2 G T w) (h1 : b1 ≠ f.1) (h2 : b2 ≠ f.1) : RCapt g b1 b2 G T (put3 w f v g x y) := ⟨lies_put3 h.inp h1 h.n1, lies_put3 h.get h2 h.n2, h.n1, h.n2⟩
theorem but_new {w0 : World} (h : But g w0 w) {b : Nat} (hf : w0.heap.size ≤ b) (o : Nat) (u : Value) : But g w0 (w.setCell ⟨b, o, none⟩ u) :=
  ⟨h.os, h.tape, h.output, by simpa using h.size, fun k hk hg => (Below.heap_setCell w ⟨b, o, none⟩ u k (by show k ≠ b; omega)).trans (h.block k hk hg)⟩
theorem but_put3 {w0 : World} (h : But g w0 w) (hf : w0.heap.size ≤ f.1) : But g w0 (put3 w f v g x y) := ((but_new h hf _ _).setCell _ _).setCell _ _
theorem RCapt.below {b1 b2 : Nat} {G : FuncId} {T : TypeId} {w' : World} (h : RCapt g b1 b2 G T w) (hb : Below w.heap.size w w') : RCapt g b1 b2 G T w' := ⟨h.inp.below hb, h.get.below hb, h.n1, h.n2⟩
theorem own_set {B size n : Nat} {e : TypeId} {u : Value} {cs : List Value} (h : w.ownsRow B e size u n cs) (p : Addr) (hp : u.ownBlock ≠ some p.block) (z : Value) : (w.setCell p z).ownsRow B e size u n cs :=
  h.kept (row := some p.block) ⟨rfl, rfl, rfl, by simp [World.setCell], fun k _ hk => Below.heap_setCell _ _ _ _ (fun e => hk (by simp [e]))⟩ (Or.inr hp)
theorem own_put3 {B size n : Nat} {e : TypeId} {u : Value} {cs : List Value} (h : w.ownsRow B e size u n cs) (hf : u.ownBlock ≠ some f.1) (hg : g < B) : (put3 w f v g x y).ownsRow B e size u n cs := by
  have hg' : u.ownBlock ≠ some g := fun e => by have := (h.lt g e).1; omega
  exact own_set (own_set (own_set h ⟨f.1, f.2, none⟩ hf _) ⟨g, 1, none⟩ hg' _) ⟨g, 2, none⟩ hg' _
end
/-- The blocks of the frame, and what three of them hold. -/
structure Fr where
  w0 : World
  g : Nat
  n1 : Nat
  n2 : Nat
  s1 : Nat
  s2 : Nat
  t1 : Nat
  t2 : Nat
  q : Nat
  R : Nat
  no : Int
  mark : Int
  ct : Int
  B : Nat
def Fr.bs (F : Fr) : List Nat := [F.n1, F.n2, F.s1, F.s2, F.t1, F.t2, F.q + 2, F.R]
structure Env (F : Fr) (sv : Value) (w : World) : Prop where
  num : RCapt F.g F.n1 F.n2 87 131 w
  sig : RCapt F.g F.s1 F.s2 88 131 w
  txt : RCapt F.g F.t1 F.t2 90 134 w
  gp : Lies F.q (gpC F.no F.mark sv) 26 w
  ctl : Lies (F.q + 2) #[.int .i64 F.ct] 2 w
  res : Lies F.R (gpC 0 0 (.slice none 0 0)) 26 w
  but : But F.g F.w0 w
  g0 : F.g < F.w0.heap.size
  q0 : F.w0.heap.size ≤ F.q ∧ F.q < F.B
  blk : ∀ b ∈ F.bs, F.w0.heap.size ≤ b ∧ b < F.B ∧ b ≠ F.q
  size : F.B ≤ w.heap.size
namespace Env
variable {F : Fr} {sv : Value} {w w' : World}
theorem next (h : Env F sv w) (hb : Below w.heap.size w w') : Env F sv w' :=
  ⟨h.num.below hb, h.sig.below hb, h.txt.below hb, h.gp.below hb, h.ctl.below hb, h.res.below hb, h.but.trans (But.of_below hb), h.g0, h.q0, h.blk, Nat.le_trans h.size hb.size⟩
theorem g_ne (h : Env F sv w) {b : Nat} (hb : b ∈ F.bs) : b ≠ F.g := by have := h.blk b hb; have := h.g0; omega
theorem mem (h : Env F sv w) : (F.n1 ∈ F.bs ∧ F.n2 ∈ F.bs ∧ F.s1 ∈ F.bs ∧ F.s2 ∈ F.bs) ∧ (F.t1 ∈ F.bs ∧ F.t2 ∈ F.bs ∧ F.q + 2 ∈ F.bs ∧ F.R ∈ F.bs) := by simp [Fr.bs]
theorem put (h : Env F sv w) {f : Nat × Nat} (hf : F.B ≤ f.1) (v : Value) (x y : Int) : Env F sv (put3 w f v F.g x y) := by
  obtain ⟨⟨m1, m2, m3, m4⟩, m5, m6, m7, m8⟩ := h.mem
  have k : ∀ b ∈ F.bs, b ≠ f.1 := fun b hb => by have := (h.blk b hb).2.1; omega
  refine ⟨rcapt_put3 h.num (k _ m1) (k _ m2), rcapt_put3 h.sig (k _ m3) (k _ m4), rcapt_put3 h.txt (k _ m5) (k _ m6), lies_put3 h.gp (by have := h.q0; omega) (by have := h.q0; have := h.g0; omega), lies_put3 h.ctl (k _ m7) (h.g_ne m7), lies_put3 h.res (k _ m8) (h.g_ne m8),
    but_put3 h.but (by have := h.q0; omega), h.g0, h.q0, h.blk, by simpa using h.size⟩
/-- Blocks below the bound stay. -/
theorem apart (h : Env F sv w) (hb : Below F.B w w') : Env F sv w' := by
  obtain ⟨⟨m1, m2, m3, m4⟩, m5, m6, m7, m8⟩ := h.mem
  have k : ∀ {b : Nat} {C : Array Value} {T : TypeId}, b < F.B → Lies b C T w → Lies b C T w' := fun hl hL => (hb.block _ hl).trans hL
  have n := fun b hb => (h.blk b hb).2.1
  exact ⟨⟨k (n _ m1) h.num.inp, k (n _ m2) h.num.get, h.num.n1, h.num.n2⟩, ⟨k (n _ m3) h.sig.inp, k (n _ m4) h.sig.get, h.sig.n1, h.sig.n2⟩, ⟨k (n _ m5) h.txt.inp, k (n _ m6) h.txt.get, h.txt.n1, h.txt.n2⟩, k h.q0.2 h.gp, k (n _ m7) h.ctl, k (n _ m8) h.res,
    ⟨hb.os.trans h.but.os, hb.tape.trans h.but.tape, hb.output.trans h.but.output, Nat.le_trans h.but.size hb.size, fun i hi hg => (hb.block i (by have := h.q0; omega)).trans (h.but.block i hi hg)⟩, h.g0, h.q0, h.blk, Nat.le_trans h.size hb.size⟩
theorem other {b o : Nat} {u : Value} (h : Env F sv w) (hb1 : F.w0.heap.size ≤ b) (hb2 : ∀ c ∈ F.bs, c ≠ b) (hq : F.q ≠ b) : Env F sv (w.setCell ⟨b, o, none⟩ u) := by
  obtain ⟨⟨m1, m2, m3, m4⟩, m5, m6, m7, m8⟩ := h.mem
  exact ⟨⟨h.num.inp.other (hb2 _ m1) _ _, h.num.get.other (hb2 _ m2) _ _, h.num.n1, h.num.n2⟩, ⟨h.sig.inp.other (hb2 _ m3) _ _, h.sig.get.other (hb2 _ m4) _ _, h.sig.n1, h.sig.n2⟩, ⟨h.txt.inp.other (hb2 _ m5) _ _, h.txt.get.other (hb2 _ m6) _ _, h.txt.n1, h.txt.n2⟩,
    h.gp.other hq _ _, h.ctl.other (hb2 _ m7) _ _, h.res.other (hb2 _ m8) _ _, but_new h.but hb1 _ _, h.g0, h.q0, h.blk, by simpa using h.size⟩
/-- Another row of panes laid into the group. -/
theorem panes (h : Env F sv w) (u : Value) : Env F u (w.setCell ⟨F.q, 2, none⟩ u) := by
  obtain ⟨⟨m1, m2, m3, m4⟩, m5, m6, m7, m8⟩ := h.mem
  have k : ∀ b ∈ F.bs, b ≠ F.q := fun b hb => (h.blk b hb).2.2
  exact ⟨⟨h.num.inp.other (k _ m1) _ _, h.num.get.other (k _ m2) _ _, h.num.n1, h.num.n2⟩, ⟨h.sig.inp.other (k _ m3) _ _, h.sig.get.other (k _ m4) _ _, h.sig.n1, h.sig.n2⟩, ⟨h.txt.inp.other (k _ m5) _ _, h.txt.get.other (k _ m6) _ _, h.txt.n1, h.txt.n2⟩,
    h.gp.set 2 u, h.ctl.other (k _ m7) _ _, h.res.other (k _ m8) _ _, but_new h.but h.q0.1 _ _, h.g0, h.q0, h.blk, by simpa using h.size⟩
end Env
theorem numS_skip {s : ByteArray} {p : Nat × Nat} (h : p.2 ≠ 0) : numS s p = (0, p.1, p.2) := if_neg h
theorem sgnS_skip {s : ByteArray} {p : Nat × Nat} (h : p.2 ≠ 0) : sgnS s p = (0, p.1, p.2) := if_neg h
theorem txtS_skip {s : ByteArray} {p : Nat × Nat} (h : p.2 ≠ 0) : txtS s p = ([], p.1, p.2) := if_neg h
theorem chN_to {s : ByteArray} {st : Nat × Nat} (h : st.1 ≤ s.size) : ∀ k, (chN s st k).1 ≤ s.size
  | 0 => h
  | k + 1 => numS_to s _ (chN_to h k)
theorem chS_to {s : ByteArray} {st : Nat × Nat} (h : st.1 ≤ s.size) : ∀ k, (chS s st k).1 ≤ s.size
  | 0 => h
  | k + 1 => sgnS_to s _ (chS_to h k)
theorem chT_to {s : ByteArray} {st : Nat × Nat} (h : st.1 ≤ s.size) : ∀ k, (chT s st k).1 ≤ s.size
  | 0 => h
  | k + 1 => txtS_to s _ (chT_to h k)
/-- Where one pane is read. -/
structure PI (F : Fr) (sv : Value) (xs : List Pn) (s : ByteArray) (a p : Nat) (ps : Array Value) (Tp : TypeId) (x : Pn) (st : Nat × Nat) (w : World) : Prop where
  env : Env F sv w
  rd : RdAt 91 F.g s (st.1 : Nat) (st.2 : Nat) w
  row : Lies a ps Tp w
  pn : Lies p (paC x) 59 w
  own : w.ownsRow F.B 59 6 sv xs.length (pc xs)
  ha : F.B ≤ a
  hp : F.B ≤ p
  hap : a ≠ p
  far : sv.ownBlock ≠ some p
theorem PI.next {F : Fr} {sv : Value} {xs : List Pn} {s : ByteArray} {a p : Nat} {ps : Array Value} {Tp : TypeId} {x : Pn} {st : Nat × Nat} {w w' : World} (h : PI F sv xs s a p ps Tp x st w) (hb : Below w.heap.size w w') : PI F sv xs s a p ps Tp x st w' :=
  ⟨h.env.next hb, h.rd.below hb, h.row.below hb, h.pn.below hb, own_up h.own hb, h.ha, h.hp, h.hap, h.far⟩
theorem PI.put {F : Fr} {sv : Value} {xs : List Pn} {s : ByteArray} {a p : Nat} {ps : Array Value} {Tp : TypeId} {x y : Pn} {st st' : Nat × Nat} {w : World} (h : PI F sv xs s a p ps Tp x st w) (o : Nat) (v : Value) (hy : (paC x).setIfInBounds o v = paC y) :
    PI F sv xs s a p ps Tp y st' (put3 w (p, o) v F.g (st'.1 : Nat) (st'.2 : Nat)) := by
  have hg : p ≠ F.g := by have := h.hp; have := h.env.q0; have := h.env.g0; omega
  have hga : a ≠ F.g := by have := h.ha; have := h.env.q0; have := h.env.g0; omega
  exact ⟨h.env.put (f := (p, o)) h.hp v _ _, rd_put3 (f := (p, o)) h.rd hg, lies_put3 (f := (p, o)) h.row h.hap hga, hy ▸ lies_put3_at (f := (p, o)) h.pn hg, own_put3 (f := (p, o)) h.own h.far (by have := h.env.q0; have := h.env.g0; omega), h.ha, h.hp, h.hap, h.far⟩
theorem PI.cell {F : Fr} {sv : Value} {xs : List Pn} {s : ByteArray} {a p : Nat} {ps : Array Value} {Tp : TypeId} {x : Pn} {st : Nat × Nat} {w : World} (h : PI F sv xs s a p ps Tp x st w) {b1 b2 : Nat} (h1 : b1 ∈ F.bs) (h2 : b2 ∈ F.bs) (o : Nat) (ho : o < 6) :
    (∃ u, w.cell? ⟨p, o, none⟩ = some u) ∧ w.frozen? ⟨p, o, none⟩ = false ∧ p ≠ F.g ∧ p ≠ b1 ∧ p ≠ b2 := by
  have k1 := (h.env.blk b1 h1).2.1; have k2 := (h.env.blk b2 h2).2.1; have := h.hp; have := h.env.q0; have := h.env.g0
  exact ⟨⟨_, h.pn.cell (j := o) (Array.getElem?_eq_getElem (by exact ho))⟩, h.pn.free o, by omega, by omega, by omega⟩
/-- The pane behind one field. -/
def pKey (R : List UInt8 × Nat × Nat) (x : Pn) : Pn := ⟨⟨x.p.lo, x.p.hi, R.1⟩, x.acc⟩
theorem gpText1 {F : Fr} {sv : Value} {xs : List Pn} {s : ByteArray} {a p : Nat} {c : Nat} {st : Nat × Nat} {w : World} (hs : s.size ≤ 9223372036854775807) (hto : st.1 ≤ s.size)
    (h : PI F sv xs s a p #[.pointer (some ⟨p, 2, none⟩)] 136 ⟨⟨0, 0, []⟩, ⟨0, 0, 0⟩⟩ st w) :
    Calls Try.prog 117 #[.slice (some ⟨a, 0, none⟩) 1 c, .pointer (some ⟨F.t1, 0, none⟩), .pointer (some ⟨F.t2, 0, none⟩)] w fun e w' => e = .returned (.tuple #[]) ∧
      PI F sv xs s a p #[.pointer (some ⟨p, 2, none⟩)] 136 ⟨⟨0, 0, (txtS s st).1⟩, ⟨0, 0, 0⟩⟩ (txtS s st).2 w' := by
  have hI : RdT F.g F.t1 F.t2 a s [(p, 2)] st (fun k w => PI F sv xs s a p #[.pointer (some ⟨p, 2, none⟩)] 136 ⟨⟨0, 0, if 0 < k then (txtS s st).1 else []⟩, ⟨0, 0, 0⟩⟩ (chT s st k) w) := by
    refine ⟨fun k w h => h.row, fun k w h => h.env.txt, fun k w h => h.rd, fun k w _ => chT_to hto k, fun k f w hf h => ?_, fun k w w' h hb => h.next hb, fun k f w hf h h0 => ?_, fun k f w hf h h0 => ?_⟩
    · match k, hf with
      | 0, hf => cases hf; exact h.cell h.env.mem.2.1 h.env.mem.2.2.1 2 (by omega)
      | k + 1, hf => simp at hf
    · match k, hf with
      | 0, hf => cases hf; exact h.put 2 _ rfl
      | k + 1, hf => simp at hf
    · match k, hf with
      | 0, hf =>
        have e : txtS s st = ([], st.1, st.2) := txtS_skip h0
        have e2 : chT s st 1 = st := by show (txtS s st).2 = st; rw [e]
        simp only [Nat.zero_add, e2, Nat.lt_irrefl, e, ite_self] at h ⊢
        exact h
      | k + 1, hf => simp at hf
  have hc := gpReadT F.g F.t1 F.t2 a s hs [(p, 2)] (by simp) c st _ hI w (by simpa [chT] using h)
  exact hc.mono fun e w' ⟨h1, h2⟩ => ⟨h1, by simpa [chT] using h2⟩
/-- Numbers as they are set one by one. -/
def nv (s : ByteArray) (st : Nat × Nat) (k j : Nat) : Int := if j < k then ((numS s (chN s st j)).1 : Int) else 0
theorem nv_skip {s : ByteArray} {st : Nat × Nat} {k : Nat} (h : (chN s st k).2 ≠ 0) (j : Nat) : nv s st (k + 1) j = nv s st k j := by
  unfold nv
  by_cases h1 : j < k
  · rw [if_pos h1, if_pos (by omega)]
  · rw [if_neg h1]
    by_cases h2 : j < k + 1
    · have e : j = k := by omega
      subst e
      rw [if_pos h2, numS_skip h]; rfl
    · rw [if_neg h2]
theorem chN_skip {s : ByteArray} {st : Nat × Nat} {k : Nat} (h : (chN s st k).2 ≠ 0) : chN s st (k + 1) = chN s st k := by
  show (numS s (chN s st k)).2 = _
  rw [numS_skip h]
def nx (s : ByteArray) (st : Nat × Nat) (key : List UInt8) (k : Nat) : Pn := ⟨⟨nv s st k 0, nv s st k 1, key⟩, ⟨nv s st k 2, 0, 0⟩⟩
theorem nx_skip {s : ByteArray} {st : Nat × Nat} {key : List UInt8} {k : Nat} (h : (chN s st k).2 ≠ 0) : nx s st key (k + 1) = nx s st key k := by
  unfold nx; rw [nv_skip h, nv_skip h, nv_skip h]
theorem gpNums3 {F : Fr} {sv : Value} {xs : List Pn} {s : ByteArray} {a p : Nat} {c : Nat} {st : Nat × Nat} {key : List UInt8} {w : World} (hs : s.size ≤ 9223372036854775807) (hto : st.1 ≤ s.size)
    (h : PI F sv xs s a p #[.pointer (some ⟨p, 0, none⟩), .pointer (some ⟨p, 1, none⟩), .pointer (some ⟨p, 3, none⟩)] 135 ⟨⟨0, 0, key⟩, ⟨0, 0, 0⟩⟩ st w) :
    Calls Try.prog 114 #[.slice (some ⟨a, 0, none⟩) 3 c, .pointer (some ⟨F.n1, 0, none⟩), .pointer (some ⟨F.n2, 0, none⟩)] w fun e w' => e = .returned (.tuple #[]) ∧
      PI F sv xs s a p #[.pointer (some ⟨p, 0, none⟩), .pointer (some ⟨p, 1, none⟩), .pointer (some ⟨p, 3, none⟩)] 135 (nx s st key 3) (chN s st 3) w' := by
  have hI : RdN F.g F.n1 F.n2 a s [(p, 0), (p, 1), (p, 3)] st (fun k w => PI F sv xs s a p #[.pointer (some ⟨p, 0, none⟩), .pointer (some ⟨p, 1, none⟩), .pointer (some ⟨p, 3, none⟩)] 135 (nx s st key k) (chN s st k) w) := by
    refine ⟨fun k w h => h.row, fun k w h => h.env.num, fun k w h => h.rd, fun k w _ => chN_to hto k, fun k f w hf h => ?_, fun k w w' h hb => h.next hb, fun k f w hf h h0 => ?_, fun k f w hf h h0 => ?_⟩
    · match k, hf with
      | 0, hf => cases hf; exact h.cell h.env.mem.1.1 h.env.mem.1.2.1 0 (by omega)
      | 1, hf => cases hf; exact h.cell h.env.mem.1.1 h.env.mem.1.2.1 1 (by omega)
      | 2, hf => cases hf; exact h.cell h.env.mem.1.1 h.env.mem.1.2.1 3 (by omega)
      | k + 3, hf => simp at hf
    · match k, hf with
      | 0, hf => cases hf; exact h.put 0 _ rfl
      | 1, hf => cases hf; exact h.put 1 _ rfl
      | 2, hf => cases hf; exact h.put 3 _ rfl
      | k + 3, hf => simp at hf
    · show PI F sv xs s a p _ _ (nx s st key (k + 1)) (chN s st (k + 1)) w
      rw [nx_skip h0, chN_skip h0]; exact h
  exact gpReadN F.g F.n1 F.n2 a s hs [(p, 0), (p, 1), (p, 3)] (by simp) c st _ hI w h
def gv (s : ByteArray) (st : Nat × Nat) (k j : Nat) : Int := if j < k then un (sgnS s (chS s st j)).1 else 0
theorem gv_skip {s : ByteArray} {st : Nat × Nat} {k : Nat} (h : (chS s st k).2 ≠ 0) (j : Nat) : gv s st (k + 1) j = gv s st k j := by
  unfold gv
  by_cases h1 : j < k
  · rw [if_pos h1, if_pos (by omega)]
  · rw [if_neg h1]
    by_cases h2 : j < k + 1
    · have e : j = k := by omega
      subst e
      rw [if_pos h2, sgnS_skip h]; simp [un]
    · rw [if_neg h2]
theorem chS_skip {s : ByteArray} {st : Nat × Nat} {k : Nat} (h : (chS s st k).2 ≠ 0) : chS s st (k + 1) = chS s st k := by
  show (sgnS s (chS s st k)).2 = _
  rw [sgnS_skip h]
def gx (s : ByteArray) (st : Nat × Nat) (pl : Pl) (n : Int) (k : Nat) : Pn := ⟨pl, ⟨n, gv s st k 0, gv s st k 1⟩⟩
theorem gx_skip {s : ByteArray} {st : Nat × Nat} {pl : Pl} {n : Int} {k : Nat} (h : (chS s st k).2 ≠ 0) : gx s st pl n (k + 1) = gx s st pl n k := by
  unfold gx; rw [gv_skip h, gv_skip h]
theorem gpSgns2 {F : Fr} {sv : Value} {xs : List Pn} {s : ByteArray} {a p : Nat} {c : Nat} {st : Nat × Nat} {pl : Pl} {n : Int} {w : World} (hs : s.size ≤ 9223372036854775807) (hto : st.1 ≤ s.size)
    (h : PI F sv xs s a p #[.pointer (some ⟨p, 4, none⟩), .pointer (some ⟨p, 5, none⟩)] 135 ⟨pl, ⟨n, 0, 0⟩⟩ st w) :
    Calls Try.prog 114 #[.slice (some ⟨a, 0, none⟩) 2 c, .pointer (some ⟨F.s1, 0, none⟩), .pointer (some ⟨F.s2, 0, none⟩)] w fun e w' => e = .returned (.tuple #[]) ∧
      PI F sv xs s a p #[.pointer (some ⟨p, 4, none⟩), .pointer (some ⟨p, 5, none⟩)] 135 (gx s st pl n 2) (chS s st 2) w' := by
  have hI : RdS F.g F.s1 F.s2 a s [(p, 4), (p, 5)] st (fun k w => PI F sv xs s a p #[.pointer (some ⟨p, 4, none⟩), .pointer (some ⟨p, 5, none⟩)] 135 (gx s st pl n k) (chS s st k) w) := by
    refine ⟨fun k w h => h.row, fun k w h => h.env.sig, fun k w h => h.rd, fun k w _ => chS_to hto k, fun k f w hf h => ?_, fun k w w' h hb => h.next hb, fun k f w hf h h0 => ?_, fun k f w hf h h0 => ?_⟩
    · match k, hf with
      | 0, hf => cases hf; exact h.cell h.env.mem.1.2.2.1 h.env.mem.1.2.2.2 4 (by omega)
      | 1, hf => cases hf; exact h.cell h.env.mem.1.2.2.1 h.env.mem.1.2.2.2 5 (by omega)
      | k + 2, hf => simp at hf
    · match k, hf with
      | 0, hf => cases hf; exact h.put 4 _ rfl
      | 1, hf => cases hf; exact h.put 5 _ rfl
      | k + 2, hf => simp at hf
    · show PI F sv xs s a p _ _ (gx s st pl n (k + 1)) (chS s st (k + 1)) w
      rw [gx_skip h0, chS_skip h0]; exact h
  exact gpReadS F.g F.s1 F.s2 a s hs [(p, 4), (p, 5)] (by simp) c st _ hI w h
/-- A pane, as the three calls read it. -/
theorem pnS_calls (s : ByteArray) (st : Nat × Nat) :
    pnS s st = (gx s (chN s (txtS s st).2 3) (nx s (txtS s st).2 (txtS s st).1 3).p (nx s (txtS s st).2 (txtS s st).1 3).acc.n 2, chS s (chN s (txtS s st).2 3) 2) := rfl
end Grp
end Go.Proofs.Ythfbcfddfbipfaa
/- Get of the code. -/
namespace Go.Proofs.Ythfbcfddfbipfaa
open Go.RowKit
open Itm Vlq
set_option linter.unusedVariables false
set_option maxRecDepth 8000
namespace Grp
open Pan (Pn Pl)
/-- What is read of bytes, before it is asked whether it may be: the group, the place, the error. -/
def grS (s : ByteArray) : Gp × Nat × Nat :=
  if 2000 < (numS s (numS s (numS s (0, 0)).2).2).1 then (⟨min ((numS s (0, 0)).1 : Int) 32, ((numS s (numS s (0, 0)).2).1 : Int), []⟩, (numS s (numS s (numS s (0, 0)).2).2).2.1, 1)
  else (⟨min ((numS s (0, 0)).1 : Int) 32, ((numS s (numS s (0, 0)).2).1 : Int), (pnI s (numS s (numS s (numS s (0, 0)).2).2).2 (numS s (numS s (numS s (0, 0)).2).2).1).1⟩, (pnI s (numS s (numS s (numS s (0, 0)).2).2).2 (numS s (numS s (numS s (0, 0)).2).2).1).2)
def Fr.ks (F : Fr) : List Nat := [F.n1, F.n2, F.s1, F.s2, F.t1, F.t2, F.R]
/-- Where the head is read. -/
structure Hd (F : Fr) (s : ByteArray) (a : Nat) (k : Nat) (w : World) : Prop where
  num : RCapt F.g F.n1 F.n2 87 131 w
  sig : RCapt F.g F.s1 F.s2 88 131 w
  txt : RCapt F.g F.t1 F.t2 90 134 w
  noL : Lies (F.q + 1) #[.int .i64 (nv s (0, 0) k 0)] 2 w
  gp : Lies F.q (gpC 0 (nv s (0, 0) k 1) (.slice none 0 0)) 26 w
  ctl : Lies (F.q + 2) #[.int .i64 (nv s (0, 0) k 2)] 2 w
  res : Lies F.R (gpC 0 0 (.slice none 0 0)) 26 w
  rd : RdAt 91 F.g s ((chN s (0, 0) k).1 : Nat) ((chN s (0, 0) k).2 : Nat) w
  row : Lies a #[.pointer (some ⟨F.q + 1, 0, none⟩), .pointer (some ⟨F.q, 1, none⟩), .pointer (some ⟨F.q + 2, 0, none⟩)] 135 w
  but : But F.g F.w0 w
  g0 : F.g < F.w0.heap.size
  blk : ∀ b ∈ F.ks, F.w0.heap.size ≤ b ∧ b < F.q
  q0 : F.w0.heap.size ≤ F.q
  ha : a = F.q + 3
namespace Hd
variable {F : Fr} {s : ByteArray} {a k : Nat} {w w' : World}
theorem mem (F : Fr) : (F.n1 ∈ F.ks ∧ F.n2 ∈ F.ks ∧ F.s1 ∈ F.ks ∧ F.s2 ∈ F.ks) ∧ (F.t1 ∈ F.ks ∧ F.t2 ∈ F.ks ∧ F.R ∈ F.ks) := by simp [Fr.ks]
theorem next (h : Hd F s a k w) (hb : Below w.heap.size w w') : Hd F s a k w' :=
  ⟨h.num.below hb, h.sig.below hb, h.txt.below hb, h.noL.below hb, h.gp.below hb, h.ctl.below hb, h.res.below hb, h.rd.below hb, h.row.below hb, h.but.trans (But.of_below hb), h.g0, h.blk, h.q0, h.ha⟩
theorem gne (h : Hd F s a k w) : F.q ≠ F.g ∧ F.q + 1 ≠ F.g ∧ F.q + 2 ≠ F.g ∧ a ≠ F.g := by have := h.g0; have := h.q0; have := h.ha; omega
theorem cell (h : Hd F s a k w) {f : Nat × Nat} (hf : [(F.q + 1, 0), (F.q, 1), (F.q + 2, 0)][k]? = some f) : (∃ u, w.cell? ⟨f.1, f.2, none⟩ = some u) ∧ w.frozen? ⟨f.1, f.2, none⟩ = false ∧ f.1 ≠ F.g ∧ f.1 ≠ F.n1 ∧ f.1 ≠ F.n2 := by
  obtain ⟨g1, g2, g3, _⟩ := h.gne
  have k1 := (h.blk _ (mem F).1.1).2; have k2 := (h.blk _ (mem F).1.2.1).2
  match k, hf with
  | 0, hf => cases hf; exact ⟨⟨_, h.noL.cell (j := 0) rfl⟩, h.noL.free 0, g2, by show F.q + 1 ≠ _; omega, by show F.q + 1 ≠ _; omega⟩
  | 1, hf => cases hf; exact ⟨⟨_, h.gp.cell (j := 1) rfl⟩, h.gp.free 1, g1, by show F.q ≠ _; omega, by show F.q ≠ _; omega⟩
  | 2, hf => cases hf; exact ⟨⟨_, h.ctl.cell (j := 0) rfl⟩, h.ctl.free 0, g3, by show F.q + 2 ≠ _; omega, by show F.q + 2 ≠ _; omega⟩
  | k + 3, hf => simp at hf
theorem stay (h : Hd F s a k w) (h0 : (chN s (0, 0) k).2 ≠ 0) : Hd F s a (k + 1) w := by
  refine ⟨h.num, h.sig, h.txt, ?_, ?_, ?_, h.res, ?_, h.row, h.but, h.g0, h.blk, h.q0, h.ha⟩
  · rw [nv_skip h0]; exact h.noL
  · rw [nv_skip h0]; exact h.gp
  · rw [nv_skip h0]; exact h.ctl
  · rw [chN_skip h0]; exact h.rd
theorem put (h : Hd F s a k w) {f : Nat × Nat} (hf : [(F.q + 1, 0), (F.q, 1), (F.q + 2, 0)][k]? = some f) :
    Hd F s a (k + 1) (put3 w f (numV (numS s (chN s (0, 0) k))) F.g (numS s (chN s (0, 0) k)).2.1 (numS s (chN s (0, 0) k)).2.2) := by
  obtain ⟨⟨m1, m2, m3, m4⟩, m5, m6, m7⟩ := mem F
  obtain ⟨g1, g2, g3, g4⟩ := h.gne
  have ha := h.ha
  have kb : ∀ b ∈ F.ks, b < F.q := fun b hb => (h.blk b hb).2
  have kg : ∀ b ∈ F.ks, b ≠ F.g := fun b hb => by have := h.blk b hb; have := h.g0; omega
  have hq0 := h.q0
  match k, hf with
  | 0, hf =>
    cases hf
    have kf : ∀ b ∈ F.ks, b ≠ F.q + 1 := fun b hb => by have := kb b hb; omega
    exact ⟨rcapt_put3 h.num (kf _ m1) (kf _ m2), rcapt_put3 h.sig (kf _ m3) (kf _ m4), rcapt_put3 h.txt (kf _ m5) (kf _ m6), lies_put3_at (f := (F.q + 1, 0)) h.noL g2, lies_put3 h.gp (by show F.q ≠ F.q + 1; omega) g1, lies_put3 h.ctl (by show F.q + 2 ≠ F.q + 1; omega) g3,
      lies_put3 h.res (kf _ m7) (kg _ m7), rd_put3 (f := (F.q + 1, 0)) h.rd g2, lies_put3 h.row (by show a ≠ F.q + 1; omega) g4, but_put3 h.but (by show _ ≤ F.q + 1; omega), h.g0, h.blk, h.q0, h.ha⟩
  | 1, hf =>
    cases hf
    have kf : ∀ b ∈ F.ks, b ≠ F.q := fun b hb => by have := kb b hb; omega
    exact ⟨rcapt_put3 h.num (kf _ m1) (kf _ m2), rcapt_put3 h.sig (kf _ m3) (kf _ m4), rcapt_put3 h.txt (kf _ m5) (kf _ m6), lies_put3 h.noL (by show F.q + 1 ≠ F.q; omega) g2, lies_put3_at (f := (F.q, 1)) h.gp g1, lies_put3 h.ctl (by show F.q + 2 ≠ F.q; omega) g3,
      lies_put3 h.res (kf _ m7) (kg _ m7), rd_put3 (f := (F.q, 1)) h.rd g1, lies_put3 h.row (by show a ≠ F.q; omega) g4, but_put3 h.but (by show _ ≤ F.q; omega), h.g0, h.blk, h.q0, h.ha⟩
  | 2, hf =>
    cases hf
    have kf : ∀ b ∈ F.ks, b ≠ F.q + 2 := fun b hb => by have := kb b hb; omega
    exact ⟨rcapt_put3 h.num (kf _ m1) (kf _ m2), rcapt_put3 h.sig (kf _ m3) (kf _ m4), rcapt_put3 h.txt (kf _ m5) (kf _ m6), lies_put3 h.noL (by show F.q + 1 ≠ F.q + 2; omega) g2, lies_put3 h.gp (by show F.q ≠ F.q + 2; omega) g1, lies_put3_at (f := (F.q + 2, 0)) h.ctl g3,
      lies_put3 h.res (kf _ m7) (kg _ m7), rd_put3 (f := (F.q + 2, 0)) h.rd g3, lies_put3 h.row (by show a ≠ F.q + 2; omega) g4, but_put3 h.but (by show _ ≤ F.q + 2; omega), h.g0, h.blk, h.q0, h.ha⟩
  | k + 3, hf => simp at hf
end Hd
theorem gpHead {F : Fr} {s : ByteArray} {a c : Nat} {w : World} (hs : s.size ≤ 9223372036854775807) (h : Hd F s a 0 w) :
    Calls Try.prog 114 #[.slice (some ⟨a, 0, none⟩) 3 c, .pointer (some ⟨F.n1, 0, none⟩), .pointer (some ⟨F.n2, 0, none⟩)] w fun e w' => e = .returned (.tuple #[]) ∧ Hd F s a 3 w' := by
  have hI : RdN F.g F.n1 F.n2 a s [(F.q + 1, 0), (F.q, 1), (F.q + 2, 0)] (0, 0) (fun k w => Hd F s a k w) :=
    ⟨fun k w h => h.row, fun k w h => h.num, fun k w h => h.rd, fun k w _ => chN_to (Nat.zero_le _) k, fun k f w hf h => h.cell hf, fun k w w' h hb => h.next hb, fun k f w hf h h0 => h.put hf, fun k f w hf h h0 => h.stay h0⟩
  exact gpReadN F.g F.n1 F.n2 a s hs [(F.q + 1, 0), (F.q, 1), (F.q + 2, 0)] (by simp) c (0, 0) _ hI w h
/-- What group hands back. -/
def GrOut (s : ByteArray) (g : Nat) (o : Gp) (st : Nat × Nat) (w : World) (e : Ending) (w' : World) : Prop :=
  ∃ A c, e = .returned (gpV o.no o.mark (.slice A o.ps.length c)) ∧ o.ps.length ≤ c ∧ c ≤ maxLen ∧ Row w' A (pc o.ps) ∧ RdAt 91 g s (st.1 : Nat) (st.2 : Nat) w' ∧ But g w w'
theorem PI.slice {F : Fr} {sv : Value} {xs : List Pn} {s : ByteArray} {a p : Nat} {ps : Array Value} {Tp : TypeId} {x : Pn} {st : Nat × Nat} {w : World} (h : PI F sv xs s a p ps Tp x st w) (ps' : Array Value) (Tp' : TypeId) :
    PI F sv xs s w.heap.size p ps' Tp' x st (w.alloc (.cells ps' Tp')) := by
  have hb := below_al (o := .cells ps' Tp') (Below.refl w.heap.size w)
  exact ⟨h.env.next hb, h.rd.below hb, Lies.new w _ _, h.pn.below hb, own_up h.own hb, h.env.size, h.hp, by have := lt_of_block h.pn; omega, h.far⟩
/-- Where the loop over panes stands. -/
structure GrAt (F : Fr) (s : ByteArray) (st : Nat × Nat) (j : Nat) (sv : Value) (w : World) : Prop where
  env : Env F sv w
  own : w.ownsRow F.B 59 6 sv (pnI s st j).1.length (pc (pnI s st j).1)
  rd : RdAt 91 F.g s ((pnI s st j).2.1 : Nat) ((pnI s st j).2.2 : Nat) w
theorem pnI_len (s : ByteArray) (st : Nat × Nat) : ∀ j, (pnI s st j).1.length ≤ j
  | 0 => Nat.le_refl _
  | j + 1 => by
    rw [pnI_next]
    have := pnI_len s st j
    split
    · simp; omega
    · omega
theorem pnS_to {s : ByteArray} {st : Nat × Nat} (h : st.1 ≤ s.size) : (pnS s st).2.1 ≤ s.size := by
  rw [pnS_calls]; exact chS_to (chN_to (txtS_to s st h) 3) 2
theorem pnI_to {s : ByteArray} {st : Nat × Nat} (h : st.1 ≤ s.size) : ∀ j, (pnI s st j).2.1 ≤ s.size
  | 0 => h
  | j + 1 => by
    rw [pnI_next]
    have := pnI_to h j
    split
    · exact pnS_to this
    · exact this
/-- The first pane of a round. -/
theorem GrAt.first {F : Fr} {s : ByteArray} {st : Nat × Nat} {j : Nat} {sv : Value} {w : World} (h : GrAt F s st j sv w) (ps : Array Value) (Tp : TypeId) :
    PI F sv (pnI s st j).1 s (w.heap.size + 1) w.heap.size ps Tp ⟨⟨0, 0, []⟩, ⟨0, 0, 0⟩⟩ (pnI s st j).2 ((w.alloc (.cells (paC ⟨⟨0, 0, []⟩, ⟨0, 0, 0⟩⟩) 59)).alloc (.cells ps Tp)) := by
  have hb := below_al (o := .cells ps Tp) (below_al (o := .cells (paC ⟨⟨0, 0, []⟩, ⟨0, 0, 0⟩⟩) 59) (Below.refl w.heap.size w))
  exact ⟨h.env.next hb, h.rd.below hb, lies_two _ _ _ _, (Lies.new w _ _).al, own_up h.own hb, by have := h.env.size; omega, h.env.size, by omega, fun e => by have := (h.own.lt _ e).2; omega⟩
end Grp
end Go.Proofs.Ythfbcfddfbipfaa
