/- The reference's row of events, and its Step. -/
import Derived.Test.YtdfdfdhgggilbaaLoopOpen
import Derived.Test.YtdfdfdhgggilbaaGenTail
import Derived.Deep.RegionLaw
import Derived.Deep.CutRange
import Derived.Test.YtdfdfdhgggilbaaHold
namespace Go.Proofs.Ytdfdfdhgggilbaa
open Go.RowKit
set_option linter.unusedVariables false
set_option maxRecDepth 8000
namespace Lp
open Gen
def evs (l : List Tr) : List Value := l.flatMap fun t => evL t.ev
def ns (l : List Tr) : List Value := l.map fun t => .int .i64 (t.n : Int)
theorem evs_cons (t : Tr) (l : List Tr) : evs (t :: l) = evL t.ev ++ evs l := by simp [evs]
theorem evs_push (l : List Tr) (t : Tr) : evs (l ++ [t]) = evs l ++ evL t.ev := by simp [evs]
theorem ns_push (l : List Tr) (t : Tr) : ns (l ++ [t]) = ns l ++ [.int .i64 (t.n : Int)] := by simp [ns]
/-- rb is a Row's block; xs lies in v1, ys in v2, rows of its own; all its memory is M's. -/
structure RowS (B : Nat) (M : Nat → Prop) (w : World) (rb : Nat) (v1 : Value) (n1 : Nat) (xs : List Value) (v2 : Value) (n2 : Nat) (ys : List Value) : Prop where
  own : M rb
  lt : ∀ k, M k → k < w.heap.size
  base : ∀ k, M k → B ≤ k
  lies : Lies rb #[v1, v2] 35 w
  o1 : ownsTail w B 23 3 v1 n1 xs
  o2 : ownsTail w B 3 1 v2 n2 ys
  m1 : ∀ k, v1.ownBlock = some k → M k
  m2 : ∀ k, v2.ownBlock = some k → M k
theorem RowS.mine {B : Nat} {M M2 : Nat → Prop} {w w' : World} {rb : Nat} {v1 v2 : Value} {n1 n2 : Nat} {xs ys : List Value} (H : RowS B M w rb v1 n1 xs v2 n2 ys) (hm : Mine M2 w w') (hd : ∀ k, M k → ¬ M2 k) : RowS B M w' rb v1 n1 xs v2 n2 ys :=
  ⟨H.own, fun k hk => Nat.lt_of_lt_of_le (H.lt k hk) hm.size, H.base, hm.lies H.lies (hd _ H.own), tail_block H.o1 fun k hk hlt => hm.block k hlt (hd k (H.m1 k hk)), tail_block H.o2 fun k hk hlt => hm.block k hlt (hd k (H.m2 k hk)), H.m1, H.m2⟩
theorem RowS.below {B : Nat} {M : Nat → Prop} {w w' : World} {rb : Nat} {v1 v2 : Value} {n1 n2 : Nat} {xs ys : List Value} (H : RowS B M w rb v1 n1 xs v2 n2 ys) (hb : Below w.heap.size w w') : RowS B M w' rb v1 n1 xs v2 n2 ys :=
  H.mine (M2 := fun _ => False) (Mine.of_below hb (Nat.le_refl _)) fun _ _ h => h
theorem tEvRow : 23 ≠ 35 := by decide
theorem tIntRow : 3 ≠ 35 := by decide
theorem tEvInt : 23 ≠ 3 := by decide
/-- The events' row has grown, and is stored. -/
theorem RowS.push1 {B : Nat} {M : Nat → Prop} {w w5 : World} {rb : Nat} {v1 v2 v1' : Value} {n1 n2 m : Nat} {xs ys news : List Value} (H : RowS B M w rb v1 n1 xs v2 n2 ys)
    (ho : ownsTail w5 B 23 3 v1' m news) (hg : w.grownBy w5 v1.ownBlock) (hl : v1'.ownBlock = v1.ownBlock ∨ v1'.ownBlock = some w.heap.size) (hB : B ≤ w.heap.size) :
    Lies rb #[v1, v2] 35 w5 ∧ ∃ M', RowS B M' (w5.setCell ⟨rb, 0, none⟩ v1') rb v1' m news v2 n2 ys ∧ Mine M w (w5.setCell ⟨rb, 0, none⟩ v1') ∧ ∀ k, M' k → M k ∨ w.heap.size ≤ k := by
  have hrb := tail_ne H.o1 H.lies tEvRow
  have l5 : Lies rb #[v1, v2] 35 w5 := (hg.block rb (lt_of_block H.lies) (fun e => hrb e.symm)).trans H.lies
  have o5 : ownsTail w5 B 3 1 v2 n2 ys := tail_block H.o2 fun k hk hlt => hg.block k hlt fun e => tail_apart H.o1 H.o2 tEvInt k e.symm hk
  have hrb' := tail_ne ho l5 tEvRow
  have hne : ∀ k, k ≠ rb → (w5.setCell ⟨rb, 0, none⟩ v1').heap[k]? = w5.heap[k]? := fun k hk => Below.heap_setCell _ _ _ _ hk
  have hs5 : (w5.setCell ⟨rb, 0, none⟩ v1').heap.size = w5.heap.size := by show (w5.heap.modify _ _).size = _; rw [Array.size_modify]
  have hloc : ∀ k, v1'.ownBlock = some k → M k ∨ w.heap.size ≤ k := fun k hk => by
    rcases hl with e | e
    · exact .inl (H.m1 k (e.symm.trans hk))
    · rw [e] at hk; cases hk; exact .inr (Nat.le_refl _)
  have m5 : Mine M w w5 := Mine.grown hg fun k hk => H.m1 k hk
  refine ⟨l5, fun k => M k ∨ v1'.ownBlock = some k, ⟨.inl H.own, fun k hk => ?_, fun k hk => ?_, l5.set 0 v1', tail_block ho fun k hk _ => hne k fun e => hrb' (e ▸ hk), tail_block o5 fun k hk _ => hne k fun e => tail_ne o5 l5 tIntRow (e ▸ hk), fun k hk => .inr hk, fun k hk => .inl (H.m2 k hk)⟩,
    m5.trans (Mine.set _ (a := ⟨rb, 0, none⟩) _ H.own), fun k hk => hk.elim .inl (hloc k)⟩
  · rw [hs5]
    rcases hk with hk | hk
    · exact Nat.lt_of_lt_of_le (H.lt k hk) m5.size
    · exact (tail_lt ho k hk).2
  · rcases hk with hk | hk
    · exact H.base k hk
    · exact (tail_lt ho k hk).1
/-- The rounds' row has grown, and is stored. -/
theorem RowS.push2 {B : Nat} {M : Nat → Prop} {w w5 : World} {rb : Nat} {v1 v2 v2' : Value} {n1 n2 m : Nat} {xs ys news : List Value} (H : RowS B M w rb v1 n1 xs v2 n2 ys)
    (ho : ownsTail w5 B 3 1 v2' m news) (hg : w.grownBy w5 v2.ownBlock) (hl : v2'.ownBlock = v2.ownBlock ∨ v2'.ownBlock = some w.heap.size) (hB : B ≤ w.heap.size) :
    Lies rb #[v1, v2] 35 w5 ∧ ∃ M', RowS B M' (w5.setCell ⟨rb, 1, none⟩ v2') rb v1 n1 xs v2' m news ∧ Mine M w (w5.setCell ⟨rb, 1, none⟩ v2') ∧ ∀ k, M' k → M k ∨ w.heap.size ≤ k := by
  have hrb := tail_ne H.o2 H.lies tIntRow
  have l5 : Lies rb #[v1, v2] 35 w5 := (hg.block rb (lt_of_block H.lies) (fun e => hrb e.symm)).trans H.lies
  have o5 : ownsTail w5 B 23 3 v1 n1 xs := tail_block H.o1 fun k hk hlt => hg.block k hlt fun e => tail_apart H.o1 H.o2 tEvInt k hk e.symm
  have hrb' := tail_ne ho l5 tIntRow
  have hne : ∀ k, k ≠ rb → (w5.setCell ⟨rb, 1, none⟩ v2').heap[k]? = w5.heap[k]? := fun k hk => Below.heap_setCell _ _ _ _ hk
  have hs5 : (w5.setCell ⟨rb, 1, none⟩ v2').heap.size = w5.heap.size := by show (w5.heap.modify _ _).size = _; rw [Array.size_modify]
  have hloc : ∀ k, v2'.ownBlock = some k → M k ∨ w.heap.size ≤ k := fun k hk => by
    rcases hl with e | e
    · exact .inl (H.m2 k (e.symm.trans hk))
    · rw [e] at hk; cases hk; exact .inr (Nat.le_refl _)
  have m5 : Mine M w w5 := Mine.grown hg fun k hk => H.m2 k hk
  refine ⟨l5, fun k => M k ∨ v2'.ownBlock = some k, ⟨.inl H.own, fun k hk => ?_, fun k hk => ?_, l5.set 1 v2', tail_block o5 fun k hk _ => hne k fun e => tail_ne o5 l5 tEvRow (e ▸ hk), tail_block ho fun k hk _ => hne k fun e => hrb' (e ▸ hk), fun k hk => .inl (H.m1 k hk), fun k hk => .inr hk⟩,
    m5.trans (Mine.set _ (a := ⟨rb, 1, none⟩) _ H.own), fun k hk => hk.elim .inl (hloc k)⟩
  · rw [hs5]
    rcases hk with hk | hk
    · exact Nat.lt_of_lt_of_le (H.lt k hk) m5.size
    · exact (tail_lt ho k hk).2
  · rcases hk with hk | hk
    · exact H.base k hk
    · exact (tail_lt ho k hk).1
/-- The first ones are cut off, and both windows stored. -/
theorem RowS.cut {B : Nat} {M : Nat → Prop} {w : World} {rb g1 o1 k1 g2 o2 k2 p1 p2 n : Nat} {xs ys : List Value} (H : RowS B M w rb (.slice (some ⟨g1, o1, none⟩) (n + 1) k1) (n + 1) xs (.slice (some ⟨g2, o2, none⟩) (n + 1) k2) (n + 1) ys)
    (h1 : p1 = o1 + 3 ∨ k1 = 1 ∧ p1 = o1) (h2 : p2 = o2 + 1 ∨ k2 = 1 ∧ p2 = o2) :
    RowS B M ((w.setCell ⟨rb, 0, none⟩ (.slice (some ⟨g1, p1, none⟩) n (k1 - 1))).setCell ⟨rb, 1, none⟩ (.slice (some ⟨g2, p2, none⟩) n (k2 - 1))) rb (.slice (some ⟨g1, p1, none⟩) n (k1 - 1)) n (xs.drop 3) (.slice (some ⟨g2, p2, none⟩) n (k2 - 1)) n (ys.drop 1) ∧
    Mine M w ((w.setCell ⟨rb, 0, none⟩ (.slice (some ⟨g1, p1, none⟩) n (k1 - 1))).setCell ⟨rb, 1, none⟩ (.slice (some ⟨g2, p2, none⟩) n (k2 - 1))) := by
  have hm : Mine M w ((w.setCell ⟨rb, 0, none⟩ (.slice (some ⟨g1, p1, none⟩) n (k1 - 1))).setCell ⟨rb, 1, none⟩ (.slice (some ⟨g2, p2, none⟩) n (k2 - 1))) := (Mine.set w (a := ⟨rb, 0, none⟩) _ H.own).trans (Mine.set _ (a := ⟨rb, 1, none⟩) _ H.own)
  have hne : ∀ k, k ≠ rb → ((w.setCell ⟨rb, 0, none⟩ (.slice (some ⟨g1, p1, none⟩) n (k1 - 1))).setCell ⟨rb, 1, none⟩ (.slice (some ⟨g2, p2, none⟩) n (k2 - 1))).heap[k]? = w.heap[k]? := fun k hk => (Below.heap_setCell _ _ _ _ hk).trans (Below.heap_setCell _ _ _ _ hk)
  have c1 := tail_cut H.o1 p1 h1
  have c2 := tail_cut H.o2 p2 h2
  refine ⟨⟨H.own, fun k hk => Nat.lt_of_lt_of_le (H.lt k hk) hm.size, H.base, ?_, tail_block c1 fun k hk _ => hne k fun e => tail_ne c1 H.lies tEvRow (e ▸ hk), tail_block c2 fun k hk _ => hne k fun e => tail_ne c2 H.lies tIntRow (e ▸ hk), fun k hk => H.m1 k (by simpa [Value.ownBlock] using hk), fun k hk => H.m2 k (by simpa [Value.ownBlock] using hk)⟩, hm⟩
  have := (H.lies.set 0 (.slice (some ⟨g1, p1, none⟩) n (k1 - 1))).set 1 (.slice (some ⟨g2, p2, none⟩) n (k2 - 1))
  simpa using this
/-- The events and rounds of l lie in a Row. -/
def RowQ (B : Nat) (M : Nat → Prop) (w : World) (rb : Nat) (l : List Tr) : Prop := ∃ v1 v2, RowS B M w rb v1 l.length (evs l) v2 l.length (ns l)
theorem RowQ.mine {B : Nat} {M M2 : Nat → Prop} {w w' : World} {rb : Nat} {l : List Tr} (H : RowQ B M w rb l) (hm : Mine M2 w w') (hd : ∀ k, M k → ¬ M2 k) : RowQ B M w' rb l := by
  obtain ⟨v1, v2, h⟩ := H
  exact ⟨v1, v2, h.mine hm hd⟩
theorem RowQ.below {B : Nat} {M : Nat → Prop} {w w' : World} {rb : Nat} {l : List Tr} (H : RowQ B M w rb l) (hb : Below w.heap.size w w') : RowQ B M w' rb l := by
  obtain ⟨v1, v2, h⟩ := H
  exact ⟨v1, v2, h.below hb⟩
theorem RowQ.lt {B : Nat} {M : Nat → Prop} {w : World} {rb : Nat} {l : List Tr} (H : RowQ B M w rb l) : ∀ k, M k → k < w.heap.size := by
  obtain ⟨v1, v2, h⟩ := H
  exact h.lt
theorem RowQ.base {B : Nat} {M : Nat → Prop} {w : World} {rb : Nat} {l : List Tr} (H : RowQ B M w rb l) : ∀ k, M k → B ≤ k := by
  obtain ⟨v1, v2, h⟩ := H
  exact h.base
theorem evI0 : (Try.prog.info? 23).map (fun i => (i.zero, i.size, i.bytes)) = some (some (.agg #[.string ByteArray.empty, .int .i64 0, .int .i64 0]), 3, 32) := by kernel_rfl
theorem intI0 : (Try.prog.info? 3).map (fun i => (i.zero, i.size, i.bytes)) = some (some (.int .i64 0), 1, 8) := by kernel_rfl
theorem info3 {t : TypeId} {z : Value} {s b : Nat} (h : (Try.prog.info? t).map (fun i => (i.zero, i.size, i.bytes)) = some (some z, s, b)) : ∃ i, Try.prog.info? t = some i ∧ i.zero = some z ∧ i.size = s ∧ i.bytes = b := by
  obtain ⟨i, hi, he⟩ := Option.map_eq_some_iff.1 h
  simp only [Prod.mk.injEq] at he
  exact ⟨i, hi, he.1, he.2.1, he.2.2⟩
theorem row_ret {Post : Ending → World → Prop} {e : Ev} {b : Bool} {rb : Nat} {w : World} {act : Act} (ht : act.tmps.getD 6 undef = .pointer (some ⟨rb, 0, none⟩)) (hs : act.tmps.getD 7 undef = .bool b) (hd : act.defers = []) (hl : Lies rb (evC e) 23 w) (h : Post (.returned (.tuple #[evV e, .bool b])) w) :
    bodyPost Try.prog Try.f16 Post Exit.ret act w := by
  have c0 : w.cell? ⟨rb, 0, none⟩ = some (.string e.key) := hl.cell (j := 0) rfl
  have c1 : w.cell? ⟨rb, 1, none⟩ = some (.int .i64 e.at_) := hl.cell (j := 1) rfl
  have c2 : w.cell? ⟨rb, 2, none⟩ = some (.int .i64 e.val) := hl.cell (j := 2) rfl
  have ht2 : act.tmps[6]?.getD undef = .pointer (some ⟨rb, 0, none⟩) := by simpa using ht
  have hs2 : act.tmps[7]?.getD undef = .bool b := by simpa using hs
  exact bodyPost_ret (v := .tuple #[evV e, .bool b]) (by simp [results, Try.results16, go_sem, ht2, hs2, c0, c1, c2]) hd h
/-- What a Step of the row hands back. -/
def RowPost (L : Int) (F : Nat) (B : Nat) (M : Nat → Prop) (rb : Nat) (l : List Tr) (w : World) (r : Ending) (w' : World) : Prop :=
  ∃ o l', step L F l = (l', o) ∧ r = .returned (.tuple #[evV (match o with | some t => t.ev | none => zEv), .bool o.isSome]) ∧ ∃ M', RowQ B M' w' rb l' ∧ Mine M w w' ∧ ∀ k, M' k → M k ∨ w.heap.size ≤ k
theorem rfStepNo (L : Int) (F : Nat) (B : Nat) (M : Nat → Prop) (rb : Nat) (l f : Int) (w : World) (H : RowQ B M w rb []) :
    Calls Try.prog 16 #[.pointer (some ⟨rb, 0, none⟩), .int .i64 l, .int .i64 f] w (RowPost L F B M rb [] w) := by
  obtain ⟨v1, v2, h⟩ := id H
  have h1 := h.lies
  have h2 := h.o1
  obtain ⟨A, c, rfl, _, _⟩ := tail_slice h2
  have HH := Lib.hid H
  have c0 : w.cell? ⟨rb, 0, none⟩ = some (.slice A 0 c) := h1.cell (j := 0) rfl
  have lt := lt_of_block h1
  clear H h h1 h2
  go_enter Try.func16, Try.ntmps16
  go_wp2_with fail
  exact row_ret (e := zEv) (b := false) (rb := w.heap.size) rfl rfl rfl (Lies.new w _ _) ⟨none, [], rfl, rfl, M, HH.out.below (below_al (Below.refl _ _)), Mine.alloc _ _ _, fun k hk => .inl hk⟩
abbrev evZ : Array Value := #[.string ⟨#[]⟩, .int .i64 0, .int .i64 0]
/-- Behind the cuts: what lies where. -/
structure RowMid (B : Nat) (M : Nat → Prop) (w : World) (rb : Nat) (C : Array Value) (r : List Tr) (w2 : World) : Prop where
  row : RowQ B M w2 rb r
  res : Lies w.heap.size evZ 23 w2
  ev : Lies (w.heap.size + 1) C 23 w2
  mine : Mine M w w2
theorem row_mid {B : Nat} {M : Nat → Prop} {w W : World} {rb n : Nat} {v1 v2 : Value} {r : List Tr} (X : RowS B M W rb v1 n (evs r) v2 n (ns r) ∧ Mine M w W) (hn : n = r.length) (hs : W.heap.size = w.heap.size) (C : Array Value) :
    RowMid B M w rb C r ((W.alloc (.cells evZ 23)).alloc (.cells C 23)) := by
  subst hn
  refine ⟨⟨v1, v2, X.1.below (below_al (below_al (Below.refl _ _)))⟩, ?_, ?_, (X.2.trans (Mine.alloc _ _ _)).trans (Mine.alloc _ _ _)⟩
  · rw [← hs]; exact (Lies.new W evZ _).al
  · rw [← hs]; exact lies_new1 W _ C _
theorem size_set1 (w : World) (a : Addr) (u : Value) : (w.setCell a u).heap.size = w.heap.size := by
  show (w.heap.modify _ _).size = _
  rw [Array.size_modify]
theorem size_set2 (w : World) (a b : Addr) (u v : Value) : ((w.setCell a u).setCell b v).heap.size = w.heap.size := by rw [size_set1, size_set1]
theorem row_out {L : Int} {F : Nat} {B : Nat} {M : Nat → Prop} {w w2 : World} {rb : Nat} {t : Tr} {r : List Tr} {C : Array Value} {u0 u1 u2 : Value} (hs : step L F (t :: r) = (r, some t)) (Y : RowMid B M w rb C r w2) (hM : ∀ k, M k → k < w.heap.size) :
    RowPost L F B M rb (t :: r) w (.returned (.tuple #[evV t.ev, .bool true])) (((w2.setCell ⟨w.heap.size, 0, none⟩ u0).setCell ⟨w.heap.size, 1, none⟩ u1).setCell ⟨w.heap.size, 2, none⟩ u2) := by
  have m : Mine (· = w.heap.size) w2 (((w2.setCell ⟨w.heap.size, 0, none⟩ u0).setCell ⟨w.heap.size, 1, none⟩ u1).setCell ⟨w.heap.size, 2, none⟩ u2) :=
    ((Mine.set (M := (· = w.heap.size)) w2 (a := ⟨w.heap.size, 0, none⟩) _ rfl).trans (Mine.set (M := (· = w.heap.size)) _ (a := ⟨w.heap.size, 1, none⟩) _ rfl)).trans (Mine.set (M := (· = w.heap.size)) _ (a := ⟨w.heap.size, 2, none⟩) _ rfl)
  exact ⟨some t, r, hs, rfl, M, Y.row.mine m (fun k hk e => by have := hM k hk; omega), Y.mine.next (fun k hk => .inr (by rw [hk]; exact Nat.le_refl _)) m, fun k hk => .inl hk⟩
theorem RowMid.halved {B : Nat} {M : Nat → Prop} {w w2 : World} {rb : Nat} {t : Tr} {r : List Tr} (Y : RowMid B M w rb (evC t.ev) r w2) (hM : ∀ k, M k → k < w.heap.size) :
    RowMid B M w rb (evC (next t).ev) r (w2.setCell ⟨w.heap.size + 1, 2, none⟩ (.int .i64 (half t.ev.val))) := by
  have m : Mine (· = w.heap.size + 1) w2 (w2.setCell ⟨w.heap.size + 1, 2, none⟩ (.int .i64 (half t.ev.val))) := Mine.set (M := (· = w.heap.size + 1)) w2 (a := ⟨w.heap.size + 1, 2, none⟩) _ rfl
  refine ⟨Y.row.mine m (fun k hk e => by have := hM k hk; omega), m.lies Y.res (by omega), ?_, Y.mine.next (fun k hk => .inr (by rw [hk]; exact Nat.le_succ _)) m⟩
  have := Y.ev.set 2 (.int .i64 (half t.ev.val))
  simpa [next] using this
theorem cell_newE (w : World) (e : Ev) (T : TypeId) : ∀ j u, (evL e)[j]? = some u → (w.alloc (.cells (evC e) T)).cell? ((⟨w.heap.size, 0, none⟩ : Addr).add j) = some u := by
  intro j u hu
  rw [Go.WideShapes.add_plain, Nat.zero_add]
  exact (Lies.new w (evC e) T).cell (by simpa using hu)
theorem evL_ones (e : Ev) : ∀ u ∈ evL e, u.oneCell' = true := by
  intro u hu
  simp only [evL, List.mem_cons, List.not_mem_nil, or_false] at hu
  rcases hu with rfl | rfl | rfl <;> rfl
theorem int_ones (z : Int) : ∀ u ∈ [Value.int .i64 z], u.oneCell' = true := by
  intro u hu
  rw [List.mem_singleton.1 hu]; rfl
/-- The end of a round that goes on. -/
theorem row_on {L : Int} {F : Nat} {B : Nat} {M M1 M2 : Nat → Prop} {w w3 w6 w8 : World} {rb : Nat} {t : Tr} {r : List Tr} {v1 v2 : Value} {u0 u1 u2 : Value} {C : Array Value} (hs : step L F (t :: r) = (r ++ [next t], none)) (Y : RowMid B M w rb C r w3) (hM : ∀ k, M k → k < w.heap.size)
    (m1 : Mine M w3 w6) (s1 : ∀ k, M1 k → M k ∨ w3.heap.size ≤ k) (m2 : Mine M1 w6 w8) (s2 : ∀ k, M2 k → M1 k ∨ w3.heap.size ≤ k) (H : RowS B M2 w8 rb v1 (r.length + 1) (evs r ++ evL (next t).ev) v2 (r.length + 1) (ns r ++ [.int .i64 ((t.n : Int) + 1)])) :
    Lies w.heap.size evZ 23 w8 ∧
    RowPost L F B M rb (t :: r) w (.returned (.tuple #[evV zEv, .bool false])) (((w8.setCell ⟨w.heap.size, 0, none⟩ u0).setCell ⟨w.heap.size, 1, none⟩ u1).setCell ⟨w.heap.size, 2, none⟩ u2) := by
  have hw3 : w.heap.size < w3.heap.size := lt_of_block Y.res
  have n1 : ¬ M1 w.heap.size := fun h => (s1 _ h).elim (fun h => by have := hM _ h; omega) fun h => by omega
  have n2 : ¬ M2 w.heap.size := fun h => (s2 _ h).elim n1 fun h => by omega
  have hl := m2.lies (m1.lies Y.res fun h => by have := hM _ h; omega) n1
  refine ⟨hl, ?_⟩
  have m : Mine (· = w.heap.size) w8 (((w8.setCell ⟨w.heap.size, 0, none⟩ u0).setCell ⟨w.heap.size, 1, none⟩ u1).setCell ⟨w.heap.size, 2, none⟩ u2) :=
    ((Mine.set (M := (· = w.heap.size)) w8 (a := ⟨w.heap.size, 0, none⟩) _ rfl).trans (Mine.set (M := (· = w.heap.size)) _ (a := ⟨w.heap.size, 1, none⟩) _ rfl)).trans (Mine.set (M := (· = w.heap.size)) _ (a := ⟨w.heap.size, 2, none⟩) _ rfl)
  have h8 : Mine M w w8 := (Y.mine.trans m1).next (fun k hk => (s1 k hk).imp id fun h => by omega) m2
  refine ⟨none, r ++ [next t], hs, rfl, M2, ⟨v1, v2, ?_⟩, h8.next (fun k hk => .inr (by rw [hk]; exact Nat.le_refl _)) m, fun k hk => (s2 k hk).elim (fun h => (s1 k h).imp id fun h => by omega) fun h => .inr (by omega)⟩
  have := H.mine m (fun k hk e => n2 (e ▸ hk))
  rw [List.length_append, evs_push, ns_push]
  exact this
set_option maxHeartbeats 4000000 in
theorem rfStepOk (B : Nat) (M : Nat → Prop) (rb : Nat) (t : Tr) (r : List Tr) (l f : Int) (w : World) (H : RowQ B M w rb (t :: r)) (hv : inI t.ev.val) (hl : inI l) (hn : t.n ≤ 1000) (hr : r.length ≤ 1000) (hB : B ≤ w.heap.size) :
    Calls Try.prog 16 #[.pointer (some ⟨rb, 0, none⟩), .int .i64 l, .int .i64 f] w (RowPost (limOf l) (fuelOf f) B M rb (t :: r) w) := by
  obtain ⟨v1, v2, h⟩ := H
  obtain ⟨g1, o1, k1, rfl, hk1, hm1, hg1, hc1⟩ := tail_open h.o1 (by rw [List.length_cons]; omega)
  obtain ⟨g2, o2, k2, rfl, hk2, hm2, hg2, hc2⟩ := tail_open h.o2 (by rw [List.length_cons]; omega)
  obtain ⟨n, hn2⟩ : ∃ n, n = r.length := ⟨_, rfl⟩
  rw [List.length_cons, ← hn2] at h hk1 hk2
  have h1 := h.lies
  have c0 : w.cell? ⟨rb, 0, none⟩ = some (.slice (some ⟨g1, o1, none⟩) (n + 1) k1) := h1.cell (j := 0) rfl
  have c1 : w.cell? ⟨rb, 1, none⟩ = some (.slice (some ⟨g2, o2, none⟩) (n + 1) k2) := h1.cell (j := 1) rfl
  have f0 := h1.free 0
  have f1 := h1.free 1
  have lt := lt_of_block h1
  have a0 : w.cell? ⟨g1, o1, none⟩ = some (.string t.ev.key) := hc1 0 _ rfl
  have a1 : w.cell? ⟨g1, o1 + 1, none⟩ = some (.int .i64 t.ev.at_) := hc1 1 _ rfl
  have a2 : w.cell? ⟨g1, o1 + 2, none⟩ = some (.int .i64 t.ev.val) := hc1 2 _ rfl
  have b0 : w.cell? ⟨g2, o2, none⟩ = some (.int .i64 (t.n : Int)) := hc2 0 _ rfl
  have hpos : ((n : Int) + 1 == 0) = false := by simp; omega
  have hx1 : (evs (t :: r)).drop 3 = evs r := rfl
  have hx2 : (ns (t :: r)).drop 1 = ns r := rfl
  have hcut := fun p1 p2 => h.cut (p1 := p1) (p2 := p2)
  rw [hx1, hx2] at hcut
  have HCUT := Lib.hid hcut
  have HLV := Lib.hid (fun w => rfLeaves t l f hv hl w)
  have HHF := Lib.hid (fun w => rfHalf t.ev.val hv w)
  have HN := Lib.hid hn2
  have HRB : Hid (∀ k, M k → k < w.heap.size) := Lib.hid h.lt
  obtain ⟨i0, hi0, hz0, hz1, hz2⟩ := info3 evI0
  have HI0 := Lib.hid hi0; have HZ0 := Lib.hid hz0; have HZ1 := Lib.hid hz1; have HZ2 := Lib.hid hz2
  obtain ⟨i1, hj0, hy0, hy1, hy2⟩ := info3 intI0
  have HJ0 := Lib.hid hj0; have HY0 := Lib.hid hy0; have HY1 := Lib.hid hy1; have HY2 := Lib.hid hy2
  clear hi0 hz0 hz1 hz2 hj0 hy0 hy1 hy2
  unfold maxLen at hm1 hm2
  clear h h1 hc1 hc2 hx1 hx2 hcut hv hl hn2
  have hway : (k1 = 1 ∧ k2 = 1 ∧ n = 0) ∨ (k1 = 1 ∧ ¬ k2 = 1 ∧ n = 0) ∨ (¬ k1 = 1 ∧ k2 = 1 ∧ n = 0) ∨ (¬ k1 = 1 ∧ ¬ k2 = 1) := by omega
  cases hq : leaves (limOf l) (fuelOf f) t
  · have HS := Lib.hid (step_on hq r)
    rw [hq] at HLV
    have hwn := wrap_i (v := (t.n : Int) + 1) (by unfold inI; omega)
    clear hq
    rcases hway with ⟨rfl, rfl, rfl⟩ | ⟨rfl, hw2, rfl⟩ | ⟨hw1, rfl, rfl⟩ | ⟨hw1, hw2⟩
    all_goals (
      go_enter Try.func16, Try.ntmps16
      go_wp2_with fail
      refine (HLV.out _).mono ?_
      rintro e1 w2 ⟨rfl, hw⟩
      have Y : Hid (RowMid B M w rb (evC t.ev) r w2) := Lib.hid (by
        rw [← hw]
        first
          | exact row_mid (HCUT.out o1 o2 (.inr (by simp)) (.inr (by simp))) HN.out (size_set2 _ _ _ _ _) _
          | exact row_mid (HCUT.out o1 (o2 + 1) (.inr (by simp)) (.inl rfl)) HN.out (size_set2 _ _ _ _ _) _
          | exact row_mid (HCUT.out (o1 + 3) o2 (.inl rfl) (.inr (by simp))) HN.out (size_set2 _ _ _ _ _) _
          | exact row_mid (HCUT.out (o1 + 3) (o2 + 1) (.inl rfl) (.inl rfl)) HN.out (size_set2 _ _ _ _ _) _)
      clear hw
      try clear c0 c1
      try clear f0 f1 a0 a1 a2 b0
      have s0 : w.heap.size + 1 < w2.heap.size := lt_of_block Y.out.ev
      have s1 : w.heap.size < w2.heap.size := by omega
      have r0 := Y.out.res.cell (j := 0) rfl
      have r1 := Y.out.res.cell (j := 1) rfl
      have r2 := Y.out.res.cell (j := 2) rfl
      have t0 := Y.out.res.free 0
      have t1 := Y.out.res.free 1
      have t2 := Y.out.res.free 2
      have e0 := Y.out.ev.cell (j := 0) rfl
      have e1 := Y.out.ev.cell (j := 1) rfl
      have e2 := Y.out.ev.cell (j := 2) rfl
      have u2 := Y.out.ev.free 2
      go_wp2_with fail
      refine (HHF.out _).mono ?_
      rintro e3 w3 ⟨rfl, rfl⟩
      go_wp2_with fail
      have X3 : Hid (RowMid B M w rb (evC (next t).ev) r (w2.setCell ⟨w.heap.size + 1, 2, none⟩ (.int .i64 (half t.ev.val)))) := Lib.hid (Y.out.halved HRB.out)
      obtain ⟨w3, hw3⟩ : ∃ w3, w3 = w2.setCell ⟨w.heap.size + 1, 2, none⟩ (.int .i64 (half t.ev.val)) := ⟨_, rfl⟩
      rw [← hw3] at X3 ⊢
      clear hw3
      obtain ⟨v1, v2, h3⟩ := X3.out.row
      have H3 := Lib.hid h3
      have z1 := X3.out.ev.cell (j := 0) rfl
      have z2 := X3.out.ev.cell (j := 1) rfl
      have z3 := X3.out.ev.cell (j := 2) rfl
      have y0 := h3.lies.cell (j := 0) rfl
      have y1 := h3.lies.free 0
      have ltr : rb < w3.heap.size := lt_of_block h3.lies
      have lt1 : w.heap.size + 1 < w3.heap.size := lt_of_block X3.out.ev
      have hB3 : B ≤ w3.heap.size := by omega
      clear h3 r0 r1 r2 t0 t1 t2 e0 e1 e2 u2 s0 s1
      go_cut [65] from 56 (fun s65 wc => s65 = .pointer (some ⟨rb, 0, none⟩) ∧ ∃ (M1 : Nat → Prop) (A5 : Option Addr) (c5 : Nat), RowS B M1 wc rb (.slice A5 (r.length + 1) c5) (r.length + 1) (evs r ++ evL (next t).ev) v2 r.length (ns r) ∧ Mine M w3 wc ∧ ∀ k, M1 k → M k ∨ w3.heap.size ≤ k)
      case first =>
        go_region_law (refine step_append_tail rfl (.tmp 60) (.tmp 62) 28 rfl B 23 i0 _ 3 32 Try.underlying28 HI0.out HZ0.out HZ1.out HZ2.out rfl (by omega) v1 r.length (evs r) (by simp [Act.eval]) (tail_block H3.out.o1 fun k _ hk => Below.heap_alloc w3.drew _ k hk) ⟨w3.drew.heap.size, 0, none⟩ 1 1 (evL (next t).ev) (by simp [Act.eval]) rfl (cell_newE w3.drew (next t).ev _) (evL_ones _) (by unfold maxLen; omega) (by omega) (by simp; omega) ?_; intro v1' w5 ho5 hg5 hl5; obtain ⟨A5, c5, rfl, _, _⟩ := tail_slice ho5; obtain ⟨l5, M1, S1, m1, s1⟩ := RowS.push1 (H3.out.below ((below_drewOf (Below.refl _ _)).alloc (Nat.le_refl _) _)) ho5 hg5 hl5 (by simp; omega); have S1 := Lib.hid S1; have m1 := Lib.hid m1; have s1 := Lib.hid s1; have x0 := l5.cell (j := 0) rfl; have x1 := l5.free 0; clear ho5 hg5 hl5 l5)
        all_goals (
          go_wp2_with fail
          go_meet
          case rel => exact ⟨rfl, M1, A5, c5, S1.out, ((Mine.drew M w3).trans (Mine.alloc M _ _)).trans m1.out, fun k hk => (s1.out k hk).imp id fun h => by simp at h; omega⟩)
      case rest =>
        obtain ⟨rfl, M1, A5, c5, S1, m1, s1⟩ := hcut
        have S1 := Lib.hid S1
        have m1 := Lib.hid m1
        have s1 := Lib.hid s1
        obtain ⟨q, hq⟩ : ∃ q, q = r.length := ⟨_, rfl⟩
        obtain ⟨A2, c2, rfl, _, _⟩ := tail_slice S1.out.o2
        have x0 := S1.out.lies.cell (j := 1) rfl
        have x1 := S1.out.lies.free 1
        have ltc : rb < wc.heap.size := lt_of_block S1.out.lies
        have hsz := m1.out.size
        have hBc : B ≤ wc.heap.size := by omega
        clear hq y0 y1 z1 z2 z3
        go_wp2_with (at_builtin; refine hold_mk ?_)
        refine hold_out ?_
        refine wpList_append_tail rfl (.tmp 70) (.tmp 73) 33 rfl B 3 i1 _ 1 8 Try.underlying33 HJ0.out HY0.out HY1.out HY2.out rfl (by omega) (.slice A2 r.length c2) r.length (ns r) rfl (tail_below S1.out.o2 (below_al (Below.refl _ _))) ⟨wc.heap.size, 0, none⟩ 1 1 [.int .i64 ((t.n : Int) + 1)] rfl rfl (cell_one_new _ _ _) (int_ones _) (by unfold maxLen; omega) (by omega) (by simp; omega) ?_
        intro v7 w7 ho7 hg7 hl7
        obtain ⟨A7, c7, rfl, _, _⟩ := tail_slice ho7
        obtain ⟨l7, M2, S2, m2, s2⟩ := RowS.push2 (S1.out.below (below_al (Below.refl _ _))) ho7 hg7 hl7 (by simp; omega)
        have y0 := l7.cell (j := 1) rfl
        have y1 := l7.free 1
        have hnM : ¬ M1 w.heap.size := fun hm => (s1.out _ hm).elim (fun h => by have := HRB.out _ h; omega) fun h => by omega
        have K7 : Lies w.heap.size evZ 23 w7 := (hg7.block w.heap.size (by simp; omega) (fun e => hnM (S1.out.m2 _ e.symm))).trans (m1.out.lies X3.out.res (fun hm => by have := HRB.out _ hm; omega)).al
        have r0 := K7.cell (j := 0) rfl
        have r1 := K7.cell (j := 1) rfl
        have r2 := K7.cell (j := 2) rfl
        have t0 := K7.free 0
        have t1 := K7.free 1
        have t2 := K7.free 2
        have S2 := Lib.hid S2
        have m2 := Lib.hid m2
        have s2 := Lib.hid s2
        clear ho7 hg7 hl7 l7 hnM K7
        go_wp2_with fail
        obtain ⟨q1, q2⟩ := row_on (u0 := .string ⟨#[]⟩) (u1 := .int .i64 0) (u2 := .int .i64 0) HS.out X3.out HRB.out m1.out s1.out ((Mine.alloc M1 wc _).trans m2.out) (fun k hk => (s2.out k hk).imp id fun h => by simp at h; omega) S2.out
        exact row_ret (e := zEv) (b := false) (rb := w.heap.size) rfl rfl rfl (Lies.set3 q1 _ _ _) q2)
  · have HS := Lib.hid (step_out hq r)
    rw [hq] at HLV
    clear hq HHF
    rcases hway with ⟨rfl, rfl, rfl⟩ | ⟨rfl, hw2, rfl⟩ | ⟨hw1, rfl, rfl⟩ | ⟨hw1, hw2⟩
    all_goals (
      go_enter Try.func16, Try.ntmps16
      go_wp2_with fail
      refine (HLV.out _).mono ?_
      rintro e1 w2 ⟨rfl, hw⟩
      have Y : Hid (RowMid B M w rb (evC t.ev) r w2) := Lib.hid (by
        rw [← hw]
        first
          | exact row_mid (HCUT.out o1 o2 (.inr (by simp)) (.inr (by simp))) HN.out (size_set2 _ _ _ _ _) _
          | exact row_mid (HCUT.out o1 (o2 + 1) (.inr (by simp)) (.inl rfl)) HN.out (size_set2 _ _ _ _ _) _
          | exact row_mid (HCUT.out (o1 + 3) o2 (.inl rfl) (.inr (by simp))) HN.out (size_set2 _ _ _ _ _) _
          | exact row_mid (HCUT.out (o1 + 3) (o2 + 1) (.inl rfl) (.inl rfl)) HN.out (size_set2 _ _ _ _ _) _)
      clear hw
      try clear c0 c1
      try clear f0 f1 a0 a1 a2 b0
      have s0 : w.heap.size + 1 < w2.heap.size := lt_of_block Y.out.ev
      have s1 : w.heap.size < w2.heap.size := by omega
      have r0 := Y.out.res.cell (j := 0) rfl
      have r1 := Y.out.res.cell (j := 1) rfl
      have r2 := Y.out.res.cell (j := 2) rfl
      have t0 := Y.out.res.free 0
      have t1 := Y.out.res.free 1
      have t2 := Y.out.res.free 2
      have e0 := Y.out.ev.cell (j := 0) rfl
      have e1 := Y.out.ev.cell (j := 1) rfl
      have e2 := Y.out.ev.cell (j := 2) rfl
      go_wp2_with fail
      exact row_ret (e := t.ev) (b := true) (rb := w.heap.size) rfl rfl rfl (Lies.set3 Y.out.res _ _ _) (row_out HS.out Y.out HRB.out))
end Lp
end Go.Proofs.Ytdfdfdhgggilbaa
