/- WinCollect, WinRev, WinOf, put together. -/
import Derived.Test.YtipmphkmeiogoaaZ5
import Derived.Test.YtipmphkmeiogoaaZ16
import Derived.Maps.OwnIn
import Derived.RegionTactic
import Derived.BigRegion
import Derived.ChangeAlike
import Derived.LoopTactic
/- slices.AppendSeq, slices.Collect over whatever iterator of windows. -/
namespace Go.Proofs.Ytipmphkmeiogoaa
open Go.RowKit Go.Shelf Tick
set_option linter.unusedVariables false
attribute [local go_sem] Oper.semAt_some
/-- Windows as they lie in a slice. -/
def wc (xs : List (Int × Int)) : List Value := xs.flatMap fun p => [.int .i64 p.1, .int .i64 p.2]
theorem wc_len (xs : List (Int × Int)) : (wc xs).length = xs.length * 2 := by
  induction xs with
  | nil => rfl
  | cons x r ih => simp only [wc, List.flatMap_cons, List.length_append, List.length_cons, List.length_nil] at ih ⊢; omega
theorem wc_app (xs ys : List (Int × Int)) : wc (xs ++ ys) = wc xs ++ wc ys := by simp [wc]
theorem wc_one (x : Int × Int) : wc [x] = [.int .i64 x.1, .int .i64 x.2] := by simp [wc]
theorem wc_ones (xs : List (Int × Int)) : ∀ u ∈ wc xs, u.oneCell' = true := by
  intro u hu
  obtain ⟨p, _, hp⟩ := List.mem_flatMap.1 hu
  simp only [List.mem_cons, List.not_mem_nil, or_false] at hp
  rcases hp with rfl | rfl <;> rfl
theorem wc_0 {xs : List (Int × Int)} {i : Nat} {x : Int × Int} (h : xs[i]? = some x) : (wc xs)[i * 2]? = some (.int .i64 x.1) := by
  obtain ⟨hl, rfl⟩ := List.getElem?_eq_some_iff.1 h
  have e : wc xs = wc (xs.take i) ++ wc (xs[i] :: xs.drop (i + 1)) := by rw [← wc_app, ← List.drop_eq_getElem_cons hl, List.take_append_drop]
  rw [e, List.getElem?_append_right (by rw [wc_len, List.length_take]; omega), wc_len, List.length_take, Nat.min_eq_left (by omega), Nat.sub_self]
  rw [wc]; rfl
theorem wc_1 {xs : List (Int × Int)} {i : Nat} {x : Int × Int} (h : xs[i]? = some x) : (wc xs)[i * 2 + 1]? = some (.int .i64 x.2) := by
  obtain ⟨hl, rfl⟩ := List.getElem?_eq_some_iff.1 h
  have e : wc xs = wc (xs.take i) ++ wc (xs[i] :: xs.drop (i + 1)) := by rw [← wc_app, ← List.drop_eq_getElem_cons hl, List.take_append_drop]
  rw [e, List.getElem?_append_right (by rw [wc_len, List.length_take]; omega), wc_len, List.length_take, Nat.min_eq_left (by omega), show i * 2 + 1 - i * 2 = 1 by omega]
  rw [wc]; rfl
/-- The cells of a block just laid. -/
theorem cells_new (W : World) (cs : List Value) (t : TypeId) : ∀ j u, cs[j]? = some u → (W.alloc (.cells cs.toArray t)).cell? ((⟨W.heap.size, 0, none⟩ : Addr).add j) = some u := by
  intro j u hu
  rw [Go.WideShapes.add_plain]
  unfold World.cell?
  rw [show (W.alloc (.cells cs.toArray t)).heap[(⟨W.heap.size, 0 + j, none⟩ : Addr).block]? = _ from World.alloc_heap_new W _]
  simpa using hu
/-- An owned row stands while others turn their own blocks. -/
theorem own_mine {M : Nat → Prop} {W W' : World} {B size n : Nat} {e : TypeId} {v : Value} {xs : List Value} (h : W.ownsRow B e size v n xs) (hm : Over.Mine M W W') (hv : ∀ k, v.ownBlock = some k → ¬ M k) : W'.ownsRow B e size v n xs := by
  obtain ⟨hl, h0 | ⟨g, cap, cur, rfl, hg, hh, rest⟩⟩ := h
  · exact ⟨hl, .inl h0⟩
  · exact ⟨hl, .inr ⟨g, cap, cur, rfl, hg, (hm.block g (Array.getElem?_eq_some_iff.1 hh).1 (hv g rfl)).trans hh, rest⟩⟩
theorem own_blockLt {W : World} {B size n : Nat} {e : TypeId} {v : Value} {xs : List Value} (h : W.ownsRow B e size v n xs) : ∀ k, v.ownBlock = some k → B ≤ k ∧ k < W.heap.size := h.lt
namespace Coll
variable (w : World) (sv : Value)
def Inv (M' : Nat → Prop) (pre : List (Int × Int)) (W : World) : Prop :=
  ∃ v, Boxed W w.heap.size 74 v ∧ W.ownsRow w.heap.size 48 2 v pre.length (wc pre) ∧ (∀ k, v.ownBlock = some k → ¬ M' k) ∧ Below w.heap.size w W ∧ (∀ k, M' k → w.heap.size < k ∧ k < W.heap.size)
def Inv2 (M' : Nat → Prop) (s : List (Int × Int) × (Int × Int) × Act) (W : World) : Prop :=
  Inv w M' s.1 W ∧ ∃ bx, WBox W bx s.2.1 ∧ ¬ M' bx ∧
    s.2.2 = { tmps := #[.slice none 0 0, sv, .pointer (some ⟨w.heap.size, 0, none⟩), undef, .slice none 0 0, .pointer (some ⟨bx, 0, none⟩), sv, winV s.2.1, undef, undef, undef, undef, undef], defers := [] }
variable {w sv}
theorem inv_abide : Over.Abide (Inv w) := fun M' M'' s W W' h hm hs => by
  obtain ⟨v, h1, h2, h3, h4, h5⟩ := h
  have hl := h1.lt
  have hsz := hm.size
  exact ⟨v, hm.box h1 fun h => by (have := (h5 _ h).1; omega), own_mine h2 hm h3, fun k hk h => (hs k h).elim (h3 k hk) fun h => by (have := (own_blockLt h2 k hk).2; omega),
    ⟨hm.os.trans h4.os, hm.tape.trans h4.tape, hm.output.trans h4.output, Nat.le_trans h4.size hsz, fun k hk => (hm.block k (by omega) fun h => by (have := (h5 _ h).1; omega)).trans (h4.block k hk)⟩,
    fun k hk => (hs k hk).elim (fun h => ⟨(h5 k h).1, by have := (h5 k h).2; omega⟩) fun h => ⟨by omega, h.2⟩⟩
theorem inv2_abide : Over.Abide (Inv2 w sv) := fun M' M'' s W W' h hm hs => by
  obtain ⟨h1, bx, h2, h3, h4⟩ := h
  have hlt := h2.lt
  exact ⟨inv_abide _ _ _ _ _ h1 hm hs, bx, h2.mine hm h3, fun h => (hs bx h).elim h3 fun h => by omega, h4⟩
end Coll
theorem winInfo : (Try.prog.info? 48).map (fun i => (i.zero, i.size, i.bytes)) = some (some (.agg #[.int .i64 0, .int .i64 0]), 2, 16) := by kernel_rfl
set_option maxRecDepth 100000 in
set_option maxHeartbeats 2000000 in
theorem appendSeq (F : Fence) (hF : Over.Wide F) (n : Nat) (hn : 4 ≤ n) (g : Nat) (lb : Array Value) (eg : ∀ args w, (callFunc g args).run Try.prog w = .ok (.enter g args) w) (xs : List (Int × Int)) (hlen : xs.length ≤ 100000) (w0 w : World)
    (hseq : Over.Feeds F (n - 1) Try.prog g lb (fun x => #[winV x]) xs w0) (hw : Below w0.heap.size w0 w) :
    CallsIn F n Try.prog 110 #[.slice none 0 0, .func (.func g) #[] lb] w fun e w' => ∃ v, e = .returned v ∧ w'.ownsRow w.heap.size 48 2 v xs.length (wc xs) ∧ Below w.heap.size w w' := by
  obtain ⟨i0, hi0, hz0, hz1, hz2⟩ := info_parts winInfo
  have hfn := hF.fn 110
  have hro : F.round = none := hF.ro
  have h1n : 1 ≤ n := by omega
  have h2n : 1 ≤ n - 1 := by omega
  have h3n : 1 ≤ n - 1 - 1 := by omega
  have HS := Lib.hid hseq
  have HW := Lib.hid hw
  have EG := Lib.hid eg
  have H0 := Lib.hid hz0; have H1 := Lib.hid hz1; have H2 := Lib.hid hz2; have HI := Lib.hid hi0
  have HLEN := Lib.hid hlen
  clear hseq hw eg hz0 hz1 hz2 hi0 hlen
  refine callsIn_of_wp_marks Try.func110 rfl hfn ?_ hro
  simp only [Try.ntmps110, List.size_toArray, List.length_cons, List.length_nil, Nat.reduceAdd, Nat.reduceSub, Array.replicate_succ, Array.replicate_zero, List.push_toArray, List.append_toArray, List.nil_append, List.cons_append]
  gi_wp2
  refine Over.range (α := Int × Int) hro h1n (gf := g) (lb := lb) rfl (hF.fn g) EG.out HS.out (HW.out.trans (((Below.refl _ w).alloc (Nat.le_refl _) _).mono HW.out.size)) (fun _ => rfl)
    (Coll.Inv w) (Coll.Inv2 w (.func (.func g) #[] lb)) (fun _ _ _ _ => False) Coll.inv_abide Coll.inv2_abide (fun _ _ _ _ _ _ h _ _ => h) ?start ?assign ?body ?done ?stop
  case start =>
    exact ⟨.slice none 0 0, Boxed.new _ _ _, own_none, fun k hk => by simp [Value.ownBlock] at hk, (Below.refl _ _).alloc (Nat.le_refl _) _, fun _ h => h.elim⟩
  case assign =>
    intro l' M' pre x rest W' hx hi
    have hi1 := Lib.hid hi
    have hw0 : w0.heap.size ≤ w.heap.size := HW.out.size
    obtain ⟨x0, x1⟩ := x
    clear hi
    unfold winV
    gi_wp2
    obtain ⟨v, j1, j2, j3, j4, j5⟩ := hi1.out
    refine ⟨⟨Coll.inv_abide _ _ _ _ _ hi1.out (Over.Mine.alloc _ _ _) fun k hk => .inl hk, W'.heap.size, WBox.new W' (x0, x1), fun h => by have := (j5 _ h).2; omega, rfl⟩, Over.Kept.alloc _ _ _ _⟩
  case body =>
    rintro l' M' pre ⟨x0, x1⟩ rest a' W' hx ⟨⟨v, j1, j2, j3, j4, j5⟩, bx, hbx, hnb, ha⟩
    dsimp only [winV] at ha
    subst ha
    have hw0 : w0.heap.size ≤ w.heap.size := HW.out.size
    have d0 := hbx.c0; have d1 := hbx.c1; have d2 := j1.cell
    have hbl := hbx.lt
    have hvl := j1.lt
    have hB : w.heap.size ≤ W'.heap.size := by omega
    have hpl : pre.length + 1 ≤ 100000 := by have := HLEN.out; rw [hx] at this; simp at this; omega
    have HX := Lib.hid hx
    have H3 := Lib.hid j3
    have H4 := Lib.hid j4
    have H5 := Lib.hid j5
    have HO := Lib.hid j2
    have HN := Lib.hid hnb
    have HB := Lib.hid j1
    have HC := Lib.hid (cells_new W' [.int .i64 x0, .int .i64 x1] 48)
    clear hx j1 j2 j3 j4 j5 hnb
    gi_wp2_with (gi_at_builtin; refine hold_mk ?_)
    refine hold_out ?_
    refine wpListIn_append_own_at _ rfl _ _ 74 rfl w.heap.size 48 i0 (.agg #[.int .i64 0, .int .i64 0]) 2 16 Try.underlying74 HI.out H0.out H1.out H2.out rfl (by decide) _ _ _ rfl (HO.out.alloc _) ⟨W'.heap.size, 0, none⟩ 1 1 [.int .i64 x0, .int .i64 x1] rfl rfl HC.out (by simp [Value.oneCell']) (by unfold maxLen; omega) (by omega) (by simp; omega) ?_
    intro v' w1 hown' hgrow _ hat
    obtain ⟨g', cap', rfl⟩ := ownsRow_succ hown'
    have hne : some w.heap.size ≠ v.ownBlock := HB.out.not_row (by decide) HO.out
    have hbx1 : Boxed w1 w.heap.size 74 v := (HB.out.alloc _).kept hgrow hne
    have hz1 := hgrow.size
    have c1 := hbx1.cell; have f1 := hbx1.frozen
    have HG := Lib.hid hgrow
    have HAT := Lib.hid hat
    have HO1 := Lib.hid hown'
    have HB1 := Lib.hid hbx1
    have HNE := Lib.hid hne
    clear hgrow hat hown' hbx1 hne d0 d1 d2
    gi_wp2
    have hg : g' ≠ w.heap.size ∧ ¬ M' g' := by
      rcases HAT.out with h | h
      · have h' : some g' = v.ownBlock := h
        exact ⟨fun e => HNE.out (by rw [← h', e]), H3.out g' h'.symm⟩
      · have h' : g' = W'.heap.size + 1 := by simpa [Value.ownBlock] using h
        exact ⟨by omega, fun hm => by have := (H5.out _ hm).2; omega⟩
    have hrow : ∀ k, v.ownBlock = some k → w.heap.size ≤ k ∧ ¬ M' k := fun k hk => ⟨(own_blockLt HO.out k hk).1, H3.out k hk⟩
    have hb1 : Below w.heap.size w w1 := (H4.out.alloc (by omega) _).grown HG.out (by simp; omega) fun k hk => (hrow k hk).1
    refine ⟨⟨_, HB1.out.set _, ?_, fun k hk => by cases hk; exact hg.2, hb1.setCell (p := ⟨w.heap.size, 0, none⟩) (Nat.le_refl _) _, fun k hk => ⟨(H5.out k hk).1, ?_⟩⟩, ?_⟩
    · have h := HO1.out.kept (grownBy_setCell' w1 w.heap.size (.slice (some ⟨g', 0, none⟩) (pre.length + 1) cap')) (.inr fun e => hg.1 (by cases e; rfl))
      rw [wc_app, wc_one, List.length_append, List.length_singleton]
      exact h
    · have h1 := (H5.out k hk).2
      have h2 : w1.heap.size ≤ (w1.setCell ⟨w.heap.size, 0, none⟩ (.slice (some ⟨g', 0, none⟩) (pre.length + 1) cap')).heap.size := (grownBy_setCell' w1 w.heap.size _).size
      simp only [World.size_alloc] at hz1
      omega
    · refine ((Over.Kept.alloc _ _ _ _).trans (Over.Kept.grown HG.out fun k hk => ⟨Nat.le_trans hw0 (hrow k hk).1, (hrow k hk).2⟩)).trans (Over.Kept.set _ _ hw0 fun hm => ?_)
      have := (H5.out _ hm).1
      exact Nat.lt_irrefl _ this
  case done =>
    rintro D M' W' hD hDw ⟨v, j1, j2, j3, j4, j5⟩ hK
    have d2 := j1.cell
    gi_wp2
    refine ⟨by simp, .inl ⟨_, _, rfl, run_takeDeferred hK, ?_⟩⟩
    refine ⟨_, results_tmp rfl _ _ _, v, rfl, own_mine j2 (Over.Mine.put _ _ hD) j3, ?_⟩
    have hm := Over.Mine.put (M := M') W' (.deferred none) hD
    exact ⟨hm.os.trans j4.os, hm.tape.trans j4.tape, hm.output.trans j4.output, Nat.le_trans j4.size hm.size, fun k hk => (hm.block k (by have := j4.size; omega) fun h => by (have := (j5 _ h).1; omega)).trans (j4.block k hk)⟩
  case stop =>
    rintro D c M' pre W' hD hDw hpre hi hK
    exact hi.elim
theorem collect (F : Fence) (hF : Over.Wide F) (n : Nat) (hn : 5 ≤ n) (g : Nat) (lb : Array Value) (eg : ∀ args w, (callFunc g args).run Try.prog w = .ok (.enter g args) w) (xs : List (Int × Int)) (hlen : xs.length ≤ 100000) (w0 w : World)
    (hseq : Over.Feeds F (n - 1) Try.prog g lb (fun x => #[winV x]) xs w0) (hw : Below w0.heap.size w0 w) :
    Calls Try.prog 104 #[.func (.func g) #[] lb] w fun e w' => ∃ v, e = .returned v ∧ w'.ownsRow w.heap.size 48 2 v xs.length (wc xs) ∧ Below w.heap.size w w' := by
  have HA : Hid (Calls Try.prog 110 #[.slice none 0 0, .func (.func g) #[] lb] w fun e w' => ∃ v, e = .returned v ∧ w'.ownsRow w.heap.size 48 2 v xs.length (wc xs) ∧ Below w.heap.size w w') :=
    Lib.hid (by have h := appendSeq F hF n (by omega) g lb eg xs hlen w0 w hseq hw; rw [hF.all] at h; exact callsIn_wide.1 h)
  clear hseq hw eg hlen
  go_enter Try.func104, Try.ntmps104
  go_wp2_with (go_at_call 110; refine HA.out.mono ?_; rintro e w' ⟨v, rfl, h1, h2⟩)
  go_ret
  exact ⟨v, rfl, h1, h2⟩
end Go.Proofs.Ytipmphkmeiogoaa
/- slices.Reverse over a row of windows of the call's own; the makers of rows: Of, Open. -/
namespace Go.Proofs.Ytipmphkmeiogoaa
open Go.RowKit Go.Shelf Tick
set_option linter.unusedVariables false
theorem wc_set {ys : List (Int × Int)} {i : Nat} (x : Int × Int) (h : i < ys.length) : ((wc ys).set (i * 2) (.int .i64 x.1)).set (i * 2 + 1) (.int .i64 x.2) = wc (ys.set i x) := by
  induction ys generalizing i with
  | nil => simp at h
  | cons y r ih =>
    cases i with
    | zero => simp [wc]
    | succ i =>
      have e : wc (y :: r) = .int .i64 y.1 :: .int .i64 y.2 :: wc r := by simp [wc]
      have e2 : wc ((y :: r).set (i + 1) x) = .int .i64 y.1 :: .int .i64 y.2 :: wc (r.set i x) := by simp [wc]
      rw [e, e2, show (i + 1) * 2 = i * 2 + 1 + 1 by omega]
      simp only [List.set_cons_succ]
      rw [ih (by simpa using h)]
theorem own_setW {w : World} {B n cap g : Nat} {ys : List (Int × Int)} (h : w.ownsRow B 48 2 (.slice (some ⟨g, 0, none⟩) n cap) n (wc ys)) {i : Nat} (x : Int × Int) (hi : i < ys.length) :
    ((w.setCell ⟨g, i * 2, none⟩ (.int .i64 x.1)).setCell ⟨g, i * 2 + 1, none⟩ (.int .i64 x.2)).ownsRow B 48 2 (.slice (some ⟨g, 0, none⟩) n cap) n (wc (ys.set i x)) := by
  have h1 := (h.stored (i * 2) (.int .i64 x.1)).1
  have h2 := (h1.stored (i * 2 + 1) (.int .i64 x.2)).1
  rwa [wc_set x hi] at h2
theorem own_cells {w : World} {B n cap g : Nat} {ys : List (Int × Int)} (h : w.ownsRow B 48 2 (.slice (some ⟨g, 0, none⟩) n cap) n (wc ys)) {i : Nat} {x : Int × Int} (hi : ys[i]? = some x) :
    w.cell? ⟨g, i * 2, none⟩ = some (.int .i64 x.1) ∧ w.cell? ⟨g, i * 2 + 1, none⟩ = some (.int .i64 x.2) ∧ w.frozen? ⟨g, i * 2, none⟩ = false ∧ w.frozen? ⟨g, i * 2 + 1, none⟩ = false := by
  have hl := h.1
  rw [wc_len] at hl
  have := (List.getElem?_eq_some_iff.1 hi).1
  refine ⟨?_, ?_, h.frozenAt _, h.frozenAt _⟩
  · rw [h.cellAt _ (by omega)]; exact wc_0 hi
  · rw [h.cellAt _ (by omega)]; exact wc_1 hi
namespace Rev
/-- The row behind i rounds. -/
def at_ (xs : List (Int × Int)) (i : Nat) (ys : List (Int × Int)) : Prop :=
  ys.length = xs.length ∧ ∀ k, k < xs.length → ys[k]? = if k < i ∨ xs.length ≤ k + i then xs[xs.length - 1 - k]? else xs[k]?
theorem start (xs : List (Int × Int)) : at_ xs 0 xs := ⟨rfl, fun k hk => by rw [if_neg (by omega)]⟩
theorem done {xs ys : List (Int × Int)} {i : Nat} (h : at_ xs i ys) (hi : xs.length ≤ 2 * i + 1) : ys = xs.reverse := by
  obtain ⟨hl, h⟩ := h
  apply List.ext_getElem?
  intro k
  by_cases hk : k < xs.length
  · rw [h k hk, List.getElem?_reverse hk]
    split
    · rfl
    · rw [show xs.length - 1 - k = k by omega]
  · rw [List.getElem?_eq_none (by omega), List.getElem?_eq_none (by simp; omega)]
theorem step {xs ys : List (Int × Int)} {i : Nat} (h : at_ xs i ys) (hi : 2 * i + 1 < xs.length) (a b : Int × Int) (ha : ys[i]? = some a) (hb : ys[xs.length - 1 - i]? = some b) : at_ xs (i + 1) ((ys.set i b).set (xs.length - 1 - i) a) := by
  obtain ⟨hl, h⟩ := h
  refine ⟨by simp [hl], fun k hk => ?_⟩
  have ei := h i (by omega)
  have ej := h (xs.length - 1 - i) (by omega)
  rw [if_neg (by omega)] at ei ej
  rw [ha] at ei
  rw [hb] at ej
  rw [List.getElem?_set, List.getElem?_set]
  by_cases h1 : xs.length - 1 - i = k
  · subst h1
    rw [if_pos rfl, if_pos (by simp; omega), if_pos (by omega), show xs.length - 1 - (xs.length - 1 - i) = i by omega, ei]
  · rw [if_neg h1]
    by_cases h2 : i = k
    · subst h2
      rw [if_pos rfl, if_pos (by omega), if_pos (by omega), ej]
    · rw [if_neg h2, h k hk]
      by_cases h3 : k < i ∨ xs.length ≤ k + i
      · rw [if_pos h3, if_pos (by omega)]
      · rw [if_neg h3, if_neg (by omega)]
end Rev
set_option maxRecDepth 100000 in
set_option maxHeartbeats 2000000 in
theorem reverse_some (xs : List (Int × Int)) (B g cap : Nat) (w : World) (hlen : xs.length ≤ 100000) (hBg : B ≤ g) (h : w.ownsRow B 48 2 (.slice (some ⟨g, 0, none⟩) xs.length cap) xs.length (wc xs)) :
    Calls Try.prog 105 #[.slice (some ⟨g, 0, none⟩) xs.length cap] w fun e w' => e = .returned (.tuple #[]) ∧
      w'.ownsRow B 48 2 (.slice (some ⟨g, 0, none⟩) xs.length cap) xs.length (wc xs.reverse) ∧ Below B w w' := by
  have H := Lib.hid h
  clear h
  go_enter Try.func105, Try.ntmps105
  go_wp2_with fail
  go_loopw [2, 3] (fun s2 s3 wr => ∃ (i : Nat) (ys : List (Int × Int)), s2 = .int .i64 i ∧ s3 = .int .i64 ((xs.length : Int) - 1 - i) ∧ i ≤ xs.length ∧ Rev.at_ xs i ys ∧ wr.ownsRow B 48 2 (.slice (some ⟨g, 0, none⟩) xs.length cap) xs.length (wc ys) ∧ Below B w wr)
    (fun s2 _ _ => xs.length - (intOf s2).toNat)
  case atStart => exact ⟨0, xs, rfl, by simp, by omega, Rev.start xs, H.out, Below.refl _ _⟩
  case round =>
    obtain ⟨i, ys, rfl, rfl, hi, hat, hown, hb⟩ := hrel
    by_cases hlt : 2 * i + 1 < xs.length
    · have hl : ys.length = xs.length := hat.1
      obtain ⟨j, hj⟩ : ∃ j, j = xs.length - 1 - i := ⟨_, rfl⟩
      have ej : (xs.length : Int) - 1 - i = (j : Int) := by omega
      rw [ej]
      obtain ⟨a, ha⟩ : ∃ a, ys[i]? = some a := ⟨_, List.getElem?_eq_getElem (by omega)⟩
      obtain ⟨b, hb'⟩ : ∃ b, ys[j]? = some b := ⟨_, List.getElem?_eq_getElem (by omega)⟩
      obtain ⟨i1, i2, i3, i4⟩ := own_cells hown ha
      obtain ⟨j1, j2, j3, j4⟩ := own_cells hown hb'
      have HA := Lib.hid ha
      have HB := Lib.hid hb'
      have HAT := Lib.hid hat
      have HO := Lib.hid hown
      have HBE := Lib.hid hb
      have HL := Lib.hid hl
      have hij : i < j := by omega
      have hjn : j < xs.length := by omega
      have HJ := Lib.hid hj
      have EJ := Lib.hid ej
      clear ha hb' hat hown hb hl hj ej
      go_wp2_with fail
      go_region
      have HO2 := Lib.hid (own_setW (own_setW HO.out b (i := i) (by have := HL.out; omega)) a (i := j) (by have := HL.out; simp; omega)).drew
      have HA2 := Lib.hid (Rev.step HAT.out hlt a b HA.out (by rw [← HJ.out]; exact HB.out))
      have HB2 : Hid (Below B w ((((wr.setCell ⟨g, i * 2, none⟩ (.int .i64 b.1)).setCell ⟨g, i * 2 + 1, none⟩ (.int .i64 b.2)).setCell ⟨g, j * 2, none⟩ (.int .i64 a.1)).setCell ⟨g, j * 2 + 1, none⟩ (.int .i64 a.2)).drew) :=
        Lib.hid (((((HBE.out.setCell (p := ⟨g, i * 2, none⟩) hBg _).setCell (p := ⟨g, i * 2 + 1, none⟩) hBg _).setCell (p := ⟨g, j * 2, none⟩) hBg _).setCell (p := ⟨g, j * 2 + 1, none⟩) hBg _).drew)
      clear i1 i2 i3 i4 j1 j2 j3 j4
      go_wp2
      go_roundw
      case rel => exact ⟨i + 1, _, by go_num, by rw [← EJ.out]; congr 1; push_cast; omega, by omega, by rw [← HJ.out] at HA2; exact HA2.out, HO2.out, HB2.out⟩
      case measure => simp [intOf]; omega
    · have hle : xs.length ≤ 2 * i + 1 := by omega
      have hge : (xs.length : Int) - 1 - i ≤ i := by omega
      have HD := Lib.hid (Rev.done hat hle)
      have HO := Lib.hid hown
      have HBE := Lib.hid hb
      clear hat hown hb hlt
      go_wp2_with fail
      go_end0
      refine ⟨rfl, ?_, HBE.out⟩
      rw [← HD.out]
      exact HO.out
theorem reverse_none (c : Nat) (w : World) :
    Calls Try.prog 105 #[.slice none 0 c] w fun e w' => e = .returned (.tuple #[]) ∧ w = w' := by
  go_enter Try.func105, Try.ntmps105
  go_wp2_with fail
  go_loop [2, 3] (fun s2 s3 => s2 = .int .i64 0 ∧ s3 = .int .i64 (-1)) (fun _ _ => 0)
  case atStart => exact ⟨rfl, rfl⟩
  case round =>
    obtain ⟨rfl, rfl⟩ := hrel
    go_wp2_with fail
    go_end0
    exact ⟨rfl, rfl⟩
/-- Whatever row of windows of the call's own is turned round in its place. -/
theorem reverse (xs : List (Int × Int)) (B : Nat) (v : Value) (w : World) (hlen : xs.length ≤ 100000) (h : w.ownsRow B 48 2 v xs.length (wc xs)) :
    Calls Try.prog 105 #[v] w fun e w' => e = .returned (.tuple #[]) ∧ w'.ownsRow B 48 2 v xs.length (wc xs.reverse) ∧ Below B w w' := by
  have h' := h
  obtain ⟨hl, ⟨rfl, h0⟩ | ⟨g, cap, cur, rfl, hg, hh, hn, hm, hc, hx⟩⟩ := h
  · have e : xs = [] := List.eq_nil_of_length_eq_zero h0
    subst e
    refine (reverse_none 0 w).mono ?_
    rintro e w' ⟨rfl, rfl⟩
    exact ⟨rfl, h', Below.refl _ _⟩
  · exact reverse_some xs B g cap w hlen hg h'
end Go.Proofs.Ytipmphkmeiogoaa
/- Of and Open: the rows that the program makes. -/
namespace Go.Proofs.Ytipmphkmeiogoaa
open Go.RowKit Go.Shelf Tick
set_option linter.unusedVariables false
/-- A call that hands back a new row of windows. -/
def GivesW (xs : List (Int × Int)) (w : World) (e : Ending) (w' : World) : Prop :=
  ∃ A c, e = .returned (.slice A xs.length c) ∧ xs.length ≤ c ∧ c ≤ maxLen ∧ Row w' A (wc xs) ∧ Below w.heap.size w w'
theorem gives_own {xs : List (Int × Int)} {w w' : World} {B n : Nat} {v : Value} (h : w'.ownsRow B 48 2 v n (wc xs)) (hn : n = xs.length) (hb : Below w.heap.size w w') : GivesW xs w (.returned v) w' := by
  subst hn
  obtain ⟨A, c, rfl, h1, h2, h3, h4, _⟩ := own_form h (by omega)
  exact ⟨A, c, rfl, h1, h2, h4, hb⟩
theorem winForwards (F : Fence) (hF : Over.Wide F) (n : Nat) (hn : 5 ≤ n) (g : Nat) (lb : Array Value) (eg : ∀ args w, (callFunc g args).run Try.prog w = .ok (.enter g args) w) (xs : List (Int × Int)) (hlen : xs.length ≤ 100000) (w0 w : World)
    (hseq : Over.Feeds F (n - 1) Try.prog g lb (fun x => #[winV x]) xs w0) (hw : Below w0.heap.size w0 w) :
    Calls Try.prog 89 #[.func (.func g) #[] lb] w (GivesW xs.reverse w) := by
  have HC := Lib.hid (collect F hF n hn g lb eg xs hlen w0 w hseq hw)
  clear hseq hw eg
  go_enter Try.func89, Try.ntmps89
  go_wp2_with fail
  refine HC.out.mono ?_
  rintro e w1 ⟨v, rfl, h1, h2⟩
  have HR := Lib.hid (reverse xs w.heap.size v w1 hlen h1)
  have HB := Lib.hid h2
  obtain ⟨A, c, rfl, _, _, _, _, _⟩ := own_form h1 (by omega)
  clear h1 h2
  go_wp2_with fail
  refine HR.out.mono ?_
  rintro e w2 ⟨rfl, h1, h2⟩
  have H1 := Lib.hid h1
  have H2 := Lib.hid (HB.out.trans h2)
  clear h1 h2
  go_wp2_with fail
  go_ret
  exact gives_own H1.out (by simp) H2.out
set_option maxRecDepth 100000 in
theorem winOf (s d t : Int) (w : World) : Calls Try.prog 74 #[.int .i64 s, .int .i64 d, .int .i64 t] w (GivesW (Win.of s d t) w) := by
  go_enter Try.func74, Try.ntmps74
  go_wp2_with (go_at_call 90; refine (winBackwards _ _ _ _).mono ?_; rintro e w' ⟨rfl, rfl⟩)
  obtain ⟨w1, hw1⟩ : ∃ w1, ((w.alloc (.cells #[.int .i64 s] 2)).alloc (.cells #[.int .i64 d] 2)).alloc (.cells #[.int .i64 t] 2) = w1 := ⟨_, rfl⟩
  have b0 : Boxed w1 w.heap.size 2 (.int .i64 s) := by rw [← hw1]; exact ((Boxed.new w 2 _).alloc _).alloc _
  have b1 : Boxed w1 (w.heap.size + 1) 2 (.int .i64 d) := by rw [← hw1]; have := (Boxed.new (w.alloc (.cells #[.int .i64 s] 2)) 2 (.int .i64 d)).alloc (.cells #[.int .i64 t] 2); rwa [World.size_alloc] at this
  have b2 : Boxed w1 (w.heap.size + 2) 2 (.int .i64 t) := by rw [← hw1]; have := Boxed.new ((w.alloc (.cells #[.int .i64 s] 2)).alloc (.cells #[.int .i64 d] 2)) 2 (.int .i64 t); simpa only [World.size_alloc] using this
  have hb : Hid (Below w.heap.size w w1) := Lib.hid (by rw [← hw1]; exact (((Below.refl _ w).alloc (Nat.le_refl _) _).alloc (by simp) _).alloc (by simp; omega) _)
  have HF := Lib.hid (winForwards Fence.wide Over.wide 10 (by omega) 106 _ (enters_of Try.func106 (by kernel_rfl) rfl) (Win.desc s d t) (by have := Win.len_le s d t; omega) w1 w1
    (back_feeds Fence.wide Over.wide 9 (by omega) s d t w.heap.size w1 b2.lt b0 b1 b2) (Below.refl _ _))
  rw [hw1]
  clear hw1 b0 b1 b2
  refine HF.out.mono ?_
  rintro e w2 ⟨A, c, rfl, h1, h2, h3, h4⟩
  have H3 := Lib.hid h3
  have HB := Lib.hid (below_next hb.out h4)
  clear h3 h4
  go_wp2_with fail
  go_ret
  exact ⟨A, c, by simp only [Win.of, List.length_reverse]; rfl, h1, h2, H3.out, HB.out⟩
end Go.Proofs.Ytipmphkmeiogoaa
