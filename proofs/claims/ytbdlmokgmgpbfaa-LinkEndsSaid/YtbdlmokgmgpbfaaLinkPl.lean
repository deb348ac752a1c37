/- A link on its way, in memory: the block, and the rows of the call's own that it points to. -/
import Derived.Test.YtbdlmokgmgpbfaaLinkRow
import Derived.Test.YtbdlmokgmgpbfaaLinkFin
import Derived.Test.YtbdlmokgmgpbfaaLinkPushC
import Derived.Test.YtbdlmokgmgpbfaaLinkTickC
import Derived.Deep.RegionLaw
import Derived.Maps.AppendAt
namespace Go.Proofs.Ytbdlmokgmgpbfaa
open Go.ChangeShapes Go.WideShapes Go.ChangeAt Go.RowKit
set_option linter.unusedVariables false
set_option maxRecDepth 8000
namespace Lk
open Gen (TellsB TellsI Mine)
abbrev ivs (l : List Int) : List Value := l.map (Value.int .i64)
theorem ivs_len (l : List Int) : (ivs l).length = l.length := by simp
theorem ivs_ones (l : List Int) : ∀ u ∈ ivs l, u.oneCell' = true := by
  intro u hu
  obtain ⟨z, _, rfl⟩ := List.mem_map.1 hu
  rfl
theorem PlInfo : (Try.prog.info? 51).map (fun i => (i.zero, i.size)) = some (some (.agg #[.int .i64 0, .int .i64 0, .slice none 0 0, .int .i64 0, .int .i64 0, .int .i64 0, .slice none 0 0, .slice none 0 0, .slice none 0 0, .bool false, .slice none 0 0]), 11) := by kernel_rfl
theorem IInfo : (Try.prog.info? 3).map (fun i => (i.zero, i.size, i.bytes)) = some (some (.int .i64 0), 1, 8) := by kernel_rfl
/-- Two values that lie in different blocks. -/
def Apart (u v : Value) : Prop := ∀ q, u.ownBlock = some q → v.ownBlock ≠ some q
theorem Apart.symm {u v : Value} (h : Apart u v) : Apart v u := fun q h1 h2 => h q h2 h1
/-- Rows of different kinds lie apart. -/
theorem own_kind {w : World} {B1 B2 s1 s2 n1 n2 : Nat} {e1 e2 : TypeId} {u v : Value} {xs ys : List Value} (h : w.ownsRow B1 e1 s1 u n1 xs) (k : w.ownsRow B2 e2 s2 v n2 ys) (hne : e1 ≠ e2) : Apart u v := by
  intro q h1 h2
  obtain ⟨_, ⟨rfl, _⟩ | ⟨g, cap, cur, rfl, _, hh, _⟩⟩ := h
  · cases h1
  · obtain ⟨_, ⟨rfl, _⟩ | ⟨g', cap', cur', rfl, _, hh', _⟩⟩ := k
    · cases h2
    · cases h1
      cases h2
      rw [hh] at hh'
      simp only [Option.some.injEq, Obj.cells.injEq] at hh'
      exact hne hh'.2.1
theorem own_blk {w : World} {B n b size : Nat} {e T : TypeId} {u : Value} {xs : List Value} {C : Array Value} (h : w.ownsRow B e size u n xs) (hl : Lies b C T w) (hne : e ≠ T) : u.ownBlock ≠ some b := by
  intro h1
  obtain ⟨_, ⟨rfl, _⟩ | ⟨g, cap, cur, rfl, _, hh, _⟩⟩ := h
  · cases h1
  · cases h1
    unfold Lies at hl
    rw [hl] at hh
    simp only [Option.some.injEq, Obj.cells.injEq] at hh
    exact hne hh.2.1.symm
/-- The blocks of a link: the structure, bodies, packets, what was pushed, what was taken, what was waited for. -/
structure PlAt (w0 : World) (b : Nat) (p : Wy) (vb vw vp vg vs : Value) (w : World) : Prop where
  at_ : Lies b #[.int .i64 p.s.epoch, .int .i64 p.s.base, vb, .int .i64 p.s.timer, .int .i64 p.r.epoch, .int .i64 p.r.want, vw, vp, vg, .bool p.ok, vs] 51 w
  bod : w.ownsRow w0.heap.size 9 1 vb p.s.bodies.length (bcs p.s.bodies)
  way : w.ownsRow w0.heap.size 26 3 vw p.way.length (pcs p.way)
  put : w.ownsRow w0.heap.size 9 1 vp p.put.length (bcs p.put)
  got : w.ownsRow w0.heap.size 9 1 vg p.got.length (bcs p.got)
  wants : w.ownsRow w0.heap.size 3 1 vs p.wants.length (ivs p.wants)
  bp : Apart vb vp
  bg : Apart vb vg
  pg : Apart vp vg
  ge : w0.heap.size ≤ b
  below : Below w0.heap.size w0 w
theorem lies_lt {b : Nat} {C : Array Value} {T : TypeId} {w : World} (h : Lies b C T w) : b < w.heap.size := lt_of_block h
/-- Worlds in which no old block has turned. -/
theorem PlAt.next {w0 : World} {b : Nat} {p : Wy} {vb vw vp vg vs : Value} {w w' : World} (h : PlAt w0 b p vb vw vp vg vs w) (hb : Below w.heap.size w w') : PlAt w0 b p vb vw vp vg vs w' :=
  ⟨h.at_.below hb, own_upL h.bod hb, own_upL h.way hb, own_upL h.put hb, own_upL h.got hb, own_upL h.wants hb, h.bp, h.bg, h.pg, h.ge, h.below.trans (hb.mono h.below.size)⟩
/-- A link that lies somewhere. -/
def Plays (w0 : World) (b : Nat) (p : Wy) (w : World) : Prop := ∃ vb vw vp vg vs, PlAt w0 b p vb vw vp vg vs w
def DidP (w0 : World) (b : Nat) (p : Wy) (e : Ending) (w' : World) : Prop := e = .returned (.tuple #[]) ∧ Plays w0 b p w'
theorem own_cell {w : World} {B size n : Nat} {e : TypeId} {u : Value} {cs : List Value} (h : w.ownsRow B e size u n cs) {b : Nat} (hb : u.ownBlock ≠ some b) (o : Nat) (z : Value) : (w.setCell ⟨b, o, none⟩ z).ownsRow B e size u n cs := own_setL h ⟨b, o, none⟩ hb z
theorem own_grown {w w' : World} {B size n : Nat} {e : TypeId} {u : Value} {cs : List Value} {r : Option Nat} (h : w.ownsRow B e size u n cs) (hg : w.grownBy w' r) (hne : ∀ q, u.ownBlock = some q → r ≠ some q) : w'.ownsRow B e size u n cs := by
  obtain ⟨hl, ⟨rfl, h0⟩ | ⟨g, cap, cur, rfl, hgB, hh, hn, hm, hc, hx⟩⟩ := h
  · exact ⟨hl, .inl ⟨rfl, h0⟩⟩
  · exact ⟨hl, .inr ⟨g, cap, cur, rfl, hgB, (hg.block g (lt_of_block hh) (fun e => hne g rfl e.symm)).trans hh, hn, hm, hc, hx⟩⟩
/-- A row's new value lies apart from what lay apart from the old one. -/
theorem apart_grown {w : World} {B size n : Nat} {e : TypeId} {u v v' : Value} {cs : List Value} (h : w.ownsRow B e size u n cs) (ha : Apart u v) (hv : v'.ownBlock = v.ownBlock ∨ v'.ownBlock = some w.heap.size) : Apart u v' := by
  intro q h1 h2
  rcases hv with e | e
  · exact ha q h1 (by rw [← e]; exact h2)
  · rw [e] at h2; cases h2; have := (h.lt _ h1).2; omega
theorem ne_some {u v : Value} (h : Apart u v) : ∀ q, u.ownBlock = some q → v.ownBlock ≠ some q := h
theorem str_pk : 9 ≠ 26 := by decide
theorem str_int : 9 ≠ 3 := by decide
theorem str_pl : 9 ≠ 51 := by decide
theorem pk_int : 26 ≠ 3 := by decide
theorem pk_pl : 26 ≠ 51 := by decide
theorem int_pl : 3 ≠ 51 := by decide
/-- The rows' blocks are none of the structure's. -/
theorem PlAt.far {w0 : World} {b : Nat} {p : Wy} {vb vw vp vg vs : Value} {w : World} (h : PlAt w0 b p vb vw vp vg vs w) : vb.ownBlock ≠ some b ∧ vw.ownBlock ≠ some b ∧ vp.ownBlock ≠ some b ∧ vg.ownBlock ≠ some b ∧ vs.ownBlock ≠ some b :=
  ⟨own_blk h.bod h.at_ str_pl, own_blk h.way h.at_ pk_pl, own_blk h.put h.at_ str_pl, own_blk h.got h.at_ str_pl, own_blk h.wants h.at_ int_pl⟩
/-- A cell of the structure is set. -/
theorem PlAt.ok_ {w0 : World} {b : Nat} {p : Wy} {vb vw vp vg vs : Value} {w : World} (h : PlAt w0 b p vb vw vp vg vs w) (z : Bool) : PlAt w0 b { p with ok := z } vb vw vp vg vs (w.setCell ⟨b, 9, none⟩ (.bool z)) := by
  obtain ⟨f1, f2, f3, f4, f5⟩ := h.far
  refine ⟨by have := h.at_.set 9 (.bool z); simpa using this, own_cell h.bod f1 _ _, own_cell h.way f2 _ _, own_cell h.put f3 _ _, own_cell h.got f4 _ _, own_cell h.wants f5 _ _, h.bp, h.bg, h.pg, h.ge, h.below.setCell (p := ⟨b, 9, none⟩) h.ge _⟩
/-- The receiver is set. -/
theorem PlAt.rc {w0 : World} {b : Nat} {p : Wy} {vb vw vp vg vs : Value} {w : World} (h : PlAt w0 b p vb vw vp vg vs w) (r : Rc) : PlAt w0 b { p with r := r } vb vw vp vg vs ((w.setCell ⟨b, 4, none⟩ (.int .i64 r.epoch)).setCell ⟨b, 5, none⟩ (.int .i64 r.want)) := by
  obtain ⟨f1, f2, f3, f4, f5⟩ := h.far
  refine ⟨by have := (h.at_.set 4 (.int .i64 r.epoch)).set 5 (.int .i64 r.want); simpa using this, own_cell (own_cell h.bod f1 _ _) f1 _ _, own_cell (own_cell h.way f2 _ _) f2 _ _, own_cell (own_cell h.put f3 _ _) f3 _ _, own_cell (own_cell h.got f4 _ _) f4 _ _, own_cell (own_cell h.wants f5 _ _) f5 _ _, h.bp, h.bg, h.pg, h.ge,
    (h.below.setCell (p := ⟨b, 4, none⟩) h.ge _).setCell (p := ⟨b, 5, none⟩) h.ge _⟩
/-- The sender is set: its bodies lie in new memory. -/
theorem PlAt.sn {w0 : World} {b : Nat} {p : Wy} {vb vw vp vg vs : Value} {w : World} (h : PlAt w0 b p vb vw vp vg vs w) (s : Sn) (v : Value) (n : Nat) (hn : n = s.bodies.length) (hv : w.ownsRow w0.heap.size 9 1 v n (bcs s.bodies)) (h1 : Apart v vp) (h2 : Apart v vg) :
    PlAt w0 b { p with s := s } v vw vp vg vs ((((w.setCell ⟨b, 0, none⟩ (.int .i64 s.epoch)).setCell ⟨b, 1, none⟩ (.int .i64 s.base)).setCell ⟨b, 2, none⟩ v).setCell ⟨b, 3, none⟩ (.int .i64 s.timer)) := by
  subst hn
  obtain ⟨f1, f2, f3, f4, f5⟩ := h.far
  have f0 := own_blk hv h.at_ str_pl
  refine ⟨by have := (((h.at_.set 0 (.int .i64 s.epoch)).set 1 (.int .i64 s.base)).set 2 v).set 3 (.int .i64 s.timer); simpa using this, own_cell (own_cell (own_cell (own_cell hv f0 _ _) f0 _ _) f0 _ _) f0 _ _, own_cell (own_cell (own_cell (own_cell h.way f2 _ _) f2 _ _) f2 _ _) f2 _ _,
    own_cell (own_cell (own_cell (own_cell h.put f3 _ _) f3 _ _) f3 _ _) f3 _ _, own_cell (own_cell (own_cell (own_cell h.got f4 _ _) f4 _ _) f4 _ _) f4 _ _, own_cell (own_cell (own_cell (own_cell h.wants f5 _ _) f5 _ _) f5 _ _) f5 _ _, h1, h2, h.pg, h.ge, Gen.below_set4 h.below h.ge _ _ _ _⟩
/-- Packets on their way, grown or made anew. -/
theorem PlAt.wy {w0 : World} {b : Nat} {p : Wy} {vb vw vp vg vs : Value} {w w' : World} {r : Option Nat} (h : PlAt w0 b p vb vw vp vg vs w) (hg : w.grownBy w' r) (hr : ∀ q, r = some q → vw.ownBlock = some q ∨ w.heap.size ≤ q) (l : List Pk) (v : Value) (n : Nat) (hn : n = l.length)
    (hv : w'.ownsRow w0.heap.size 26 3 v n (pcs l)) : PlAt w0 b { p with way := l } vb v vp vg vs (w'.setCell ⟨b, 6, none⟩ v) := by
  subst hn
  have hk : ∀ {B size n : Nat} {e : TypeId} {u : Value} {cs : List Value}, w.ownsRow B e size u n cs → Apart vw u → ∀ q, u.ownBlock = some q → r ≠ some q := fun ho ha q h1 h2 => by
    rcases hr q h2 with h3 | h3
    · exact ha q h3 h1
    · have := (ho.lt _ h1).2; omega
  have hb' : r ≠ some b := fun e => by
    rcases hr b e with h3 | h3
    · exact h.far.2.1 h3
    · have := lies_lt h.at_; omega
  have at1 := lies_grownK h.at_ hg hb'
  have o1 := own_grown h.bod hg (hk h.bod (own_kind h.bod h.way str_pk).symm)
  have o3 := own_grown h.put hg (hk h.put (own_kind h.put h.way str_pk).symm)
  have o4 := own_grown h.got hg (hk h.got (own_kind h.got h.way str_pk).symm)
  have o5 := own_grown h.wants hg (hk h.wants (own_kind h.way h.wants pk_int))
  obtain ⟨f1, f2, f3, f4, f5⟩ := h.far
  have f0 := own_blk hv at1 pk_pl
  refine ⟨by have := at1.set 6 v; simpa using this, own_cell o1 f1 _ _, own_cell hv f0 _ _, own_cell o3 f3 _ _, own_cell o4 f4 _ _, own_cell o5 f5 _ _, h.bp, h.bg, h.pg, h.ge, Below.setCell (p := ⟨b, 6, none⟩) (h.below.grown hg h.below.size fun q hq => ?_) h.ge _⟩
  rcases hr q hq with h3 | h3
  · exact (h.way.lt _ h3).1
  · have := h.below.size; omega
/-- A row of the structure has grown: what is kept. -/
theorem PlAt.grow {w0 : World} {b : Nat} {p : Wy} {vb vw vp vg vs : Value} {w w' : World} {r : Option Nat} (h : PlAt w0 b p vb vw vp vg vs w) (hg : w.grownBy w' r) (hr : ∀ q, r = some q → q ≠ b ∧ w0.heap.size ≤ q) :
    Lies b #[.int .i64 p.s.epoch, .int .i64 p.s.base, vb, .int .i64 p.s.timer, .int .i64 p.r.epoch, .int .i64 p.r.want, vw, vp, vg, .bool p.ok, vs] 51 w' ∧ Below w0.heap.size w0 w' :=
  ⟨lies_grownK h.at_ hg fun e => (hr b e).1 rfl, h.below.grown hg h.below.size fun q hq => (hr q hq).2⟩
theorem PlAt.ws {w0 : World} {b : Nat} {p : Wy} {vb vw vp vg vs : Value} {w w' : World} (h : PlAt w0 b p vb vw vp vg vs w) (hg : w.grownBy w' vs.ownBlock) (l : List Int) (v : Value) (n : Nat) (hn : n = l.length)
    (hv : w'.ownsRow w0.heap.size 3 1 v n (ivs l)) : PlAt w0 b { p with wants := l } vb vw vp vg v (w'.setCell ⟨b, 10, none⟩ v) := by
  subst hn
  obtain ⟨a1, a2⟩ := h.grow hg fun q hq => ⟨fun e => h.far.2.2.2.2 (by rw [hq, e]), (h.wants.lt q hq).1⟩
  have o1 := own_grown h.bod hg (own_kind h.bod h.wants str_int)
  have o2 := own_grown h.way hg (own_kind h.way h.wants pk_int)
  have o3 := own_grown h.put hg (own_kind h.put h.wants str_int)
  have o4 := own_grown h.got hg (own_kind h.got h.wants str_int)
  obtain ⟨f1, f2, f3, f4, f5⟩ := h.far
  have f0 := own_blk hv a1 int_pl
  exact ⟨by have := a1.set 10 v; simpa using this, own_cell o1 f1 _ _, own_cell o2 f2 _ _, own_cell o3 f3 _ _, own_cell o4 f4 _ _, own_cell hv f0 _ _, h.bp, h.bg, h.pg, h.ge, a2.setCell (p := ⟨b, 10, none⟩) h.ge _⟩
theorem PlAt.gt {w0 : World} {b : Nat} {p : Wy} {vb vw vp vg vs : Value} {w w' : World} (h : PlAt w0 b p vb vw vp vg vs w) (hg : w.grownBy w' vg.ownBlock) (l : List ByteArray) (v : Value) (n : Nat) (hn : n = l.length) (hat : v.ownBlock = vg.ownBlock ∨ v.ownBlock = some w.heap.size)
    (hv : w'.ownsRow w0.heap.size 9 1 v n (bcs l)) : PlAt w0 b { p with got := l } vb vw vp v vs (w'.setCell ⟨b, 8, none⟩ v) := by
  subst hn
  obtain ⟨a1, a2⟩ := h.grow hg fun q hq => ⟨fun e => h.far.2.2.2.1 (by rw [hq, e]), (h.got.lt q hq).1⟩
  have o1 := own_grown h.bod hg h.bg
  have o2 := own_grown h.way hg (own_kind h.got h.way str_pk).symm
  have o3 := own_grown h.put hg h.pg
  have o5 := own_grown h.wants hg (own_kind h.got h.wants str_int).symm
  obtain ⟨f1, f2, f3, f4, f5⟩ := h.far
  have f0 := own_blk hv a1 str_pl
  exact ⟨by have := a1.set 8 v; simpa using this, own_cell o1 f1 _ _, own_cell o2 f2 _ _, own_cell o3 f3 _ _, own_cell hv f0 _ _, own_cell o5 f5 _ _, h.bp, apart_grown h.bod h.bg hat, apart_grown h.put h.pg hat, h.ge, a2.setCell (p := ⟨b, 8, none⟩) h.ge _⟩
theorem PlAt.pt {w0 : World} {b : Nat} {p : Wy} {vb vw vp vg vs : Value} {w w' : World} (h : PlAt w0 b p vb vw vp vg vs w) (hg : w.grownBy w' vp.ownBlock) (l : List ByteArray) (v : Value) (n : Nat) (hn : n = l.length) (hat : v.ownBlock = vp.ownBlock ∨ v.ownBlock = some w.heap.size)
    (hv : w'.ownsRow w0.heap.size 9 1 v n (bcs l)) : PlAt w0 b { p with put := l } vb vw v vg vs (w'.setCell ⟨b, 7, none⟩ v) := by
  subst hn
  obtain ⟨a1, a2⟩ := h.grow hg fun q hq => ⟨fun e => h.far.2.2.1 (by rw [hq, e]), (h.put.lt q hq).1⟩
  have o1 := own_grown h.bod hg h.bp
  have o2 := own_grown h.way hg (own_kind h.put h.way str_pk).symm
  have o4 := own_grown h.got hg h.pg.symm
  have o5 := own_grown h.wants hg (own_kind h.put h.wants str_int).symm
  obtain ⟨f1, f2, f3, f4, f5⟩ := h.far
  have f0 := own_blk hv a1 str_pl
  exact ⟨by have := a1.set 7 v; simpa using this, own_cell o1 f1 _ _, own_cell o2 f2 _ _, own_cell hv f0 _ _, own_cell o4 f4 _ _, own_cell o5 f5 _ _, apart_grown h.bod h.bp hat, h.bg, (apart_grown h.got h.pg.symm hat).symm, h.ge, a2.setCell (p := ⟨b, 7, none⟩) h.ge _⟩
theorem cells_new (w : World) (C : Array Value) (T : TypeId) : ∀ j u, C.toList[j]? = some u → (w.alloc (.cells C T)).cell? ((⟨w.heap.size, 0, none⟩ : Addr).add j) = some u := by
  intro j u hu
  rw [Go.WideShapes.add_plain, Nat.zero_add]
  exact (Lies.new w C T).cell (by simpa using hu)
end Lk
end Go.Proofs.Ytbdlmokgmgpbfaa
