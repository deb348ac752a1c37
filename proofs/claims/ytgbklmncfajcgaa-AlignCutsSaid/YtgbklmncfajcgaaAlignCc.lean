/- What waited, as an iterator (a method value); slices.AppendSeq, slices.Collect over it. -/
import Derived.Test.YtgbklmncfajcgaaAlignS
import Derived.Test.YtgbklmncfajcgaaOverBd
import Derived.OwnWalkIn
import Derived.TacticsInMore
import Derived.LoopNIn
import Derived.LoopIn
import Derived.Maps.OwnIn
namespace Go.Proofs.Ytgbklmncfajcgaa
open Go.ChangeShapes Go.WideShapes Go.ChangeAt Go.RowKit
set_option linter.unusedVariables false
set_option maxRecDepth 8000
attribute [local go_sem] Oper.semAt_some
namespace Aln
open Gen (TellsB row_one flat_len flat_get)
open Itm
theorem cells_newA (W : World) (cs : List Value) (t : TypeId) : ∀ j u, cs[j]? = some u → (W.alloc (.cells cs.toArray t)).cell? ((⟨W.heap.size, 0, none⟩ : Addr).add j) = some u := by
  intro j u hu
  rw [Go.WideShapes.add_plain]
  unfold World.cell?
  rw [show (W.alloc (.cells cs.toArray t)).heap[(⟨W.heap.size, 0 + j, none⟩ : Addr).block]? = _ from World.alloc_heap_new W _]
  simpa using hu
theorem own_mineA {M : Nat → Prop} {W W' : World} {B size n : Nat} {e : TypeId} {v : Value} {xs : List Value} (h : W.ownsRow B e size v n xs) (hm : Over.Mine M W W') (hv : ∀ k, v.ownBlock = some k → ¬ M k) : W'.ownsRow B e size v n xs :=
  Gen.ownsRow_block h fun k hk hl => hm.block k hl (hv k hk)
namespace Wt
variable (w : World) (sv : Value)
def Inv (M' : Nat → Prop) (pre : List Lt) (W : World) : Prop :=
  ∃ v, Boxed W w.heap.size 43 v ∧ W.ownsRow w.heap.size 58 12 v pre.length (ltc pre) ∧ (∀ k, v.ownBlock = some k → ¬ M' k) ∧ Below w.heap.size w W ∧ (∀ k, M' k → w.heap.size < k ∧ k < W.heap.size)
def Inv2 (M' : Nat → Prop) (s : List Lt × Lt × Act) (W : World) : Prop :=
  Inv w M' s.1 W ∧ ∃ bx, Lies bx (ltC s.2.1) 58 W ∧ ¬ M' bx ∧
    s.2.2 = { tmps := #[.slice none 0 0, sv, .pointer (some ⟨w.heap.size, 0, none⟩), undef, .slice none 0 0, .pointer (some ⟨bx, 0, none⟩), sv, .agg (ltC s.2.1), undef, undef, undef, undef, undef], defers := [] }
variable {w sv}
theorem inv_abide : Over.Abide (Inv w) := fun M' M'' s W W' h hm hs => by
  obtain ⟨v, h1, h2, h3, h4, h5⟩ := h
  have hl := h1.lt
  have hsz := hm.size
  exact ⟨v, hm.box h1 fun h => by (have := (h5 _ h).1; omega), own_mineA h2 hm h3, fun k hk h => (hs k h).elim (h3 k hk) fun h => by (have := (h2.lt k hk).2; omega),
    ⟨hm.os.trans h4.os, hm.tape.trans h4.tape, hm.output.trans h4.output, Nat.le_trans h4.size hsz, fun k hk => (hm.block k (by omega) fun h => by (have := (h5 _ h).1; omega)).trans (h4.block k hk)⟩,
    fun k hk => (hs k hk).elim (fun h => ⟨(h5 k h).1, by have := (h5 k h).2; omega⟩) fun h => ⟨by omega, h.2⟩⟩
theorem inv2_abide : Over.Abide (Inv2 w sv) := fun M' M'' s W W' h hm hs => by
  obtain ⟨h1, bx, h2, h3, h4⟩ := h
  have hlt := lt_of_block h2
  exact ⟨inv_abide _ _ _ _ _ h1 hm hs, bx, (hm.block _ hlt h3).trans h2, fun h => (hs bx h).elim h3 fun h => by omega, h4⟩
end Wt
/-- A row of what waited, of the call's own. -/
def GivesLt (xs : List Lt) (w : World) (e : Ending) (w' : World) : Prop := ∃ v, e = .returned v ∧ w'.ownsRow w.heap.size 58 12 v xs.length (ltc xs) ∧ Below w.heap.size w w'
set_option maxRecDepth 100000 in
set_option maxHeartbeats 2000000 in
theorem ckAppendSeq (F : Fence) (hF : Over.Wide F) (n : Nat) (hn : 4 ≤ n) (g : Nat) (bd : Array Value) (eg : ∀ args w, (callFunc g args).run Try.prog w = .ok (.enter g args) w) (xs : List Lt) (hlen : xs.length ≤ 100000) (w0 w : World)
    (hseq : OverBd.Feeds F (n - 1) Try.prog g bd (fun x => #[.agg (ltC x)]) xs w0) (hw : Below w0.heap.size w0 w) :
    CallsIn F n Try.prog 54 #[.slice none 0 0, .func (.func g) bd #[]] w (GivesLt xs w) := by
  obtain ⟨i0, hi0, hz0, hz1, hz2⟩ := info_partsA InfoT
  have hfn := hF.fn 54
  have hro : F.round = none := hF.ro
  have h1n : 1 ≤ n := by omega
  have h2n : 1 ≤ n - 1 := by omega
  have h3n : 1 ≤ n - 1 - 1 := by omega
  have HS := Lib.hid hseq
  have HW := Lib.hid hw
  have EG := Lib.hid eg
  have H0 := Lib.hid hz0; have H1 := Lib.hid hz1; have H2 := Lib.hid hz2; have HI := Lib.hid hi0
  have HLEN := Lib.hid hlen
  clear hseq hw eg hz0 hz1 hz2 hi0 hlen
  refine callsIn_of_wp_marks Try.func54 rfl hfn ?_ hro
  simp only [Try.ntmps54, List.size_toArray, List.length_cons, List.length_nil, Nat.reduceAdd, Nat.reduceSub, Array.replicate_succ, Array.replicate_zero, List.push_toArray, List.append_toArray, List.nil_append, List.cons_append]
  gi_wp2
  refine OverBd.range (α := Lt) hro h1n (gf := g) (bd := bd) rfl (hF.fn g) EG.out HS.out (HW.out.trans (((Below.refl _ w).alloc (Nat.le_refl _) _).mono HW.out.size)) (fun _ => rfl)
    (Wt.Inv w) (Wt.Inv2 w (.func (.func g) bd #[])) (fun _ _ _ _ => False) Wt.inv_abide Wt.inv2_abide (fun _ _ _ _ _ _ h _ _ => h) ?start ?assign ?body ?done ?stop
  case start =>
    exact ⟨.slice none 0 0, Boxed.new _ _ _, own_none, fun k hk => by simp [Value.ownBlock] at hk, (Below.refl _ _).alloc (Nat.le_refl _) _, fun _ h => h.elim⟩
  case assign =>
    intro l' M' pre x rest W' hx hi
    have hi1 := Lib.hid hi
    have hw0 : w0.heap.size ≤ w.heap.size := HW.out.size
    clear hi
    gi_wp2
    obtain ⟨v, j1, j2, j3, j4, j5⟩ := hi1.out
    refine ⟨⟨Wt.inv_abide _ _ _ _ _ hi1.out (Over.Mine.alloc _ _ _) fun k hk => .inl hk, W'.heap.size, Lies.new W' (ltC x) _, fun h => by have := (j5 _ h).2; omega, rfl⟩, Over.Kept.alloc _ _ _ _⟩
  case body =>
    rintro l' M' pre x rest a' W' hx ⟨⟨v, j1, j2, j3, j4, j5⟩, bx, hbx, hnb, ha⟩
    dsimp only at ha
    subst ha
    have hw0 : w0.heap.size ≤ w.heap.size := HW.out.size
    have d0 := hbx.cell (j := 0) rfl; have d1 := hbx.cell (j := 1) rfl; have d2 := hbx.cell (j := 2) rfl; have d3 := hbx.cell (j := 3) rfl; have d4 := hbx.cell (j := 4) rfl; have d5 := hbx.cell (j := 5) rfl; have d6 := hbx.cell (j := 6) rfl; have d7 := hbx.cell (j := 7) rfl; have d8 := hbx.cell (j := 8) rfl; have d9 := hbx.cell (j := 9) rfl; have da := hbx.cell (j := 10) rfl; have db := hbx.cell (j := 11) rfl
    have dd := j1.cell
    have hbl := lt_of_block hbx
    have hvl := j1.lt
    have hB : w.heap.size ≤ W'.heap.size := by omega
    have hpl : pre.length + 1 ≤ 100000 := by have := HLEN.out; rw [hx] at this; simp at this; omega
    have HX := Lib.hid hx
    have H3 := Lib.hid j3
    have H4 := Lib.hid j4
    have H5 := Lib.hid j5
    have HO := Lib.hid j2
    have HN := Lib.hid hnb
    have HB := Lib.hid j1
    have HC := Lib.hid (cells_newA W' (ltL x) 58)
    clear hx j1 j2 j3 j4 j5 hnb
    gi_wp2_with (gi_at_builtin; refine hold_mk ?_)
    refine hold_out ?_
    refine wpListIn_append_own_at _ rfl _ _ 43 rfl w.heap.size 58 i0 _ 12 112 Try.underlying43 HI.out H0.out H1.out H2.out rfl (by decide) _ _ _ rfl (HO.out.alloc _) ⟨W'.heap.size, 0, none⟩ 1 1 (ltL x) rfl rfl HC.out (by intro u hu; exact onesT [x] u (by simpa [ltc] using hu)) (by unfold maxLen; omega) (by omega) (by simp; omega) ?_
    intro v' w1 hown' hgrow _ hat
    obtain ⟨g', cap', rfl⟩ := ownsRow_succ hown'
    have hne : some w.heap.size ≠ v.ownBlock := HB.out.not_row (by decide) HO.out
    have hbx1 : Boxed w1 w.heap.size 43 v := (HB.out.alloc _).kept hgrow hne
    have hz1 := hgrow.size
    have c1 := hbx1.cell; have f1 := hbx1.frozen
    have HG := Lib.hid hgrow
    have HAT := Lib.hid hat
    have HO1 := Lib.hid hown'
    have HB1 := Lib.hid hbx1
    have HNE := Lib.hid hne
    clear hgrow hat hown' hbx1 hne d0 d1 d2 d3 d4 d5 d6 d7 d8 d9 da db dd
    gi_wp2
    have hg : g' ≠ w.heap.size ∧ ¬ M' g' := by
      rcases HAT.out with h | h
      · have h' : some g' = v.ownBlock := h
        exact ⟨fun e => HNE.out (by rw [← h', e]), H3.out g' h'.symm⟩
      · have h' : g' = W'.heap.size + 1 := by simpa [Value.ownBlock] using h
        exact ⟨by omega, fun hm => by have := (H5.out _ hm).2; omega⟩
    have hrow : ∀ k, v.ownBlock = some k → w.heap.size ≤ k ∧ ¬ M' k := fun k hk => ⟨(HO.out.lt k hk).1, H3.out k hk⟩
    have hb1 : Below w.heap.size w w1 := (H4.out.alloc (by omega) _).grown HG.out (by simp; omega) fun k hk => (hrow k hk).1
    refine ⟨⟨_, HB1.out.set _, ?_, fun k hk => by cases hk; exact hg.2, hb1.setCell (p := ⟨w.heap.size, 0, none⟩) (Nat.le_refl _) _, fun k hk => ⟨(H5.out k hk).1, ?_⟩⟩, ?_⟩
    · have h := HO1.out.kept (grownBy_setCell' w1 w.heap.size (.slice (some ⟨g', 0, none⟩) (pre.length + 1) cap')) (.inr fun e => hg.1 (by cases e; rfl))
      rw [appT, List.length_append, List.length_singleton, show ltc [x] = ltL x by simp [ltc]]
      exact h
    · have h1 := (H5.out k hk).2
      have h2 : w1.heap.size ≤ (w1.setCell ⟨w.heap.size, 0, none⟩ (.slice (some ⟨g', 0, none⟩) (pre.length + 1) cap')).heap.size := (grownBy_setCell' w1 w.heap.size _).size
      simp only [World.size_alloc] at hz1
      omega
    · refine ((Over.Kept.alloc _ _ _ _).trans (Over.Kept.grown HG.out fun k hk => ⟨Nat.le_trans hw0 (hrow k hk).1, (hrow k hk).2⟩)).trans (Over.Kept.set _ _ hw0 fun hm => ?_)
      have := (H5.out _ hm).1
      exact Nat.lt_irrefl _ this
  case done =>
    rintro D M' W' hD hDw ⟨v, j1, j2, j3, j4, j5⟩ hK
    have d2 := j1.cell
    gi_wp2
    refine ⟨by simp, .inl ⟨_, _, rfl, run_takeDeferred hK, ?_⟩⟩
    refine ⟨_, results_tmp rfl _ _ _, v, rfl, own_mineA j2 (Over.Mine.put _ _ hD) j3, ?_⟩
    have hm := Over.Mine.put (M := M') W' (.deferred none) hD
    exact ⟨hm.os.trans j4.os, hm.tape.trans j4.tape, hm.output.trans j4.output, Nat.le_trans j4.size hm.size, fun k hk => (hm.block k (by have := j4.size; omega) fun h => by (have := (j5 _ h).1; omega)).trans (j4.block k hk)⟩
  case stop =>
    rintro D c M' pre W' hD hDw hpre hi hK
    exact hi.elim
theorem ckCollect (F : Fence) (hF : Over.Wide F) (n : Nat) (hn : 5 ≤ n) (g : Nat) (bd : Array Value) (eg : ∀ args w, (callFunc g args).run Try.prog w = .ok (.enter g args) w) (xs : List Lt) (hlen : xs.length ≤ 100000) (w0 w : World)
    (hseq : OverBd.Feeds F (n - 1) Try.prog g bd (fun x => #[.agg (ltC x)]) xs w0) (hw : Below w0.heap.size w0 w) :
    Calls Try.prog 52 #[.func (.func g) bd #[]] w (GivesLt xs w) := by
  have HA : Hid (Calls Try.prog 54 #[.slice none 0 0, .func (.func g) bd #[]] w (GivesLt xs w)) :=
    Lib.hid (by have h := ckAppendSeq F hF n (by omega) g bd eg xs hlen w0 w hseq hw; rw [hF.all] at h; exact callsIn_wide.1 h)
  clear hseq hw eg hlen
  go_enter Try.func52, Try.ntmps52
  go_wp2_with (go_at_call 54; refine HA.out.mono ?_; rintro e w' ⟨v, rfl, h1, h2⟩)
  go_ret
  exact ⟨v, rfl, h1, h2⟩
/-- Rows of items that stand ahead of B. -/
theorem lt_split {held : List (List It)} {k j : Nat} {l : List It} {x : It} (hl : held[k]? = some l) (hx : l[j]? = some x) :
    ∃ rest, lateOf 0 held = (lateOf 0 (held.take k) ++ (l.take j).map (fun x => ((k : Int), x))) ++ ((k : Int), x) :: rest := by
  have e : ∀ (l : List (List It)) (n : Nat) (m : List (List It)), lateOf n (l ++ m) = lateOf n l ++ lateOf (n + l.length) m := by
    intro l
    induction l with
    | nil => intro n m; simp [lateOf]
    | cons a r ih => intro n m; rw [List.cons_append, lateOf, lateOf, ih, List.append_assoc, List.length_cons, show n + 1 + r.length = n + (r.length + 1) by omega]
  have hk := (List.getElem?_eq_some_iff.1 hl).1
  have hj := (List.getElem?_eq_some_iff.1 hx).1
  have e1 : held = held.take (k + 1) ++ held.drop (k + 1) := (List.take_append_drop _ _).symm
  have e2 : l = l.take j ++ x :: l.drop (j + 1) := by
    obtain ⟨_, rfl⟩ := List.getElem?_eq_some_iff.1 hx
    rw [← List.drop_eq_getElem_cons hj, List.take_append_drop]
  refine ⟨(l.drop (j + 1)).map (fun x => ((k : Int), x)) ++ lateOf (0 + (held.take (k + 1)).length) (held.drop (k + 1)), ?_⟩
  conv => lhs; rw [e1, e, late_take hl, e2, List.map_append, List.map_cons]
  simp
/-- What the iterator reads. -/
structure WaitAt (b : Nat) (C : Array Value) (H : Option Addr) (nh cH : Nat) (hs : List Hd) (held : List (List It)) (w : World) : Prop where
  al : Lies b C 72 w
  c2 : C[2]? = some (.slice H nh cH)
  hh : HAt w H hs
  map : hs.map (fun x => x.2.2) = held
  ln : nh = held.length
  sm : nh ≤ 100
  each : ∀ x ∈ hs, x.2.2.length ≤ 100
theorem WaitAt.same {b : Nat} {C : Array Value} {H : Option Addr} {nh cH : Nat} {hs : List Hd} {held : List (List It)} {w w' : World} (h : WaitAt b C H nh cH hs held w) (hb : ∀ k, k < w.heap.size → w'.heap[k]? = w.heap[k]?) : WaitAt b C H nh cH hs held w' := by
  have row : ∀ {A : Option Addr} {cs : List Value}, Row w A cs → Row w' A cs := by
    intro A cs hr
    rcases hr with hr | ⟨q, off, rfl, hr⟩
    · exact .inl hr
    · refine .inr ⟨q, off, rfl, fun i u hu => ?_⟩
      have h1 := hr i u hu
      have h2 := hb q (lt_of_cell h1)
      unfold World.cell? at h1 ⊢
      simp only at h2 ⊢
      rw [h2]
      exact h1
  exact ⟨(hb b (lt_of_block h.al)).trans h.al, h.c2, ⟨row h.hh.row, fun x hx => row (h.hh.each x hx)⟩, h.map, h.ln, h.sm, h.each⟩
set_option maxRecDepth 100000 in
set_option maxHeartbeats 2000000 in
theorem wait_feeds (F : Fence) (hF : Over.Wide F) (n : Nat) (hn : 1 ≤ n) (b : Nat) (C : Array Value) (H : Option Addr) (nh cH : Nat) (hs : List Hd) (held : List (List It)) (w : World) (hAt : WaitAt b C H nh cH hs held w) :
    OverBd.Feeds F n Try.prog 53 #[.pointer (some ⟨b, 0, none⟩)] (fun x => #[.agg (ltC x)]) (lateOf 0 held) w := by
  intro l J Jx M W hbw hJ hJx hM hY h0
  have hfn := hF.fn 53
  have hro : F.round = none := hF.ro
  have hAt1 : WaitAt b C H nh cH hs held W := hAt.same fun k hk => hbw.block k hk
  have HAT := Lib.hid hAt1
  have HLT := Lib.hid hbw.size
  have HY := Lib.hid hY
  have HJ := Lib.hid hJ
  have HJx := Lib.hid hJx
  have HM := Lib.hid (fun k hk => (hM k hk).1)
  have H0 := Lib.hid h0
  have c2 : W.cell? ⟨b, 2, none⟩ = some (.slice H nh cH) := hAt1.al.cell (j := 2) hAt1.c2
  have HAT0 := Lib.hid hAt
  have HBW := Lib.hid hbw
  clear hY hJ hJx hM hAt hAt1 hbw h0
  refine callsIn_of_wp Try.func53 rfl hfn ?_ hF.ro
  simp only [Try.ntmps53, List.size_toArray, List.length_cons, List.length_nil, Nat.reduceAdd, Nat.reduceSub, Array.replicate_succ, Array.replicate_zero, List.push_toArray, List.append_toArray, List.nil_append, List.cons_append]
  gi_wp2_with fail
  gi_loopw [14] (fun s14 wr => ∃ (k : Nat) (M' : Nat → Prop), s14 = .int .i64 k ∧ k ≤ nh ∧ J M' (lateOf 0 (held.take k)) wr ∧ Over.Kept w.heap.size M W wr ∧ (∀ x, M x → M' x) ∧ (∀ x, M' x → w.heap.size ≤ x))
    (fun s14 _ => nh - (intOf s14).toNat)
  case atStart => exact ⟨0, M, rfl, Nat.zero_le _, H0.out, Over.Kept.refl _ _ _, fun _ h => h, HM.out⟩
  case round =>
    obtain ⟨k, M', rfl, hk, hj, hkp, hs1, hs2⟩ := hrel
    have HJ1 := Lib.hid hj
    have HKP := Lib.hid hkp
    have HS1 := Lib.hid hs1
    have HS2 := Lib.hid hs2
    clear hj hkp hs1 hs2 c2
    by_cases hlt : k < nh
    · obtain ⟨x, hx⟩ : ∃ x, hs[k]? = some x := ⟨_, List.getElem?_eq_getElem (by have h1 := congrArg List.length HAT.out.map; rw [List.length_map, ← HAT.out.ln] at h1; omega)⟩
      have hAk : WaitAt b C H nh cH hs held wr := HAT0.out.same fun q hq => (HKP.out.block q (by have := HLT.out; omega) (.inl hq)).trans (HBW.out.block q hq)
      obtain ⟨A, c, ls⟩ := x
      obtain ⟨q, off, hH, c0⟩ := head_row hAk.hh.row hx
      subst hH
      have HIT := Lib.hid (hAk.hh.each _ (List.mem_of_getElem? hx))
      have HITF : Hid (∀ W', Over.Kept w.heap.size M W W' → Row W' A (itc ls)) := Lib.hid fun W' hk' => (HAT0.out.same fun q hq => (hk'.block q (by have := HLT.out; omega) (.inl hq)).trans (HBW.out.block q hq)).hh.each _ (List.mem_of_getElem? hx)
      have HLS : Hid (held[k]? = some ls) := Lib.hid (by rw [← hAk.map, List.getElem?_map, hx]; rfl)
      have HLL : Hid (ls.length ≤ 100) := Lib.hid (hAk.each _ (List.mem_of_getElem? hx))
      have hki : (k : Int) < (nh : Int) := by omega
      have hw := wrapKA (k := k) (by have := hAk.sm; omega)
      have HK := Lib.hid hlt
      obtain ⟨m, hm⟩ : ∃ m, m = ls.length := ⟨_, rfl⟩
      simp only at c0
      rw [← hm] at c0 HLL
      have HML := Lib.hid hm
      clear hx hlt hk hAk hm
      gi_wp2_with fail
      gi_loopw [21] (fun s21 wq => ∃ (j : Nat) (M2 : Nat → Prop), s21 = .int .i64 j ∧ j ≤ m ∧ J M2 (lateOf 0 (held.take k) ++ (ls.take j).map (fun x => ((k : Int), x))) wq ∧ Over.Kept w.heap.size M W wq ∧ (∀ x, M x → M2 x) ∧ (∀ x, M2 x → w.heap.size ≤ x))
        (fun s21 _ => m - (intOf s21).toNat)
      case atStart => exact ⟨0, M', rfl, Nat.zero_le _, by rw [List.take_zero, List.map_nil, List.append_nil]; exact HJ1.out, HKP.out, HS1.out, HS2.out⟩
      case round =>
        clear HJ1 HKP HS1 HS2 c0
        obtain ⟨j, M2, rfl, hjm, hj, hkp, hs1, hs2⟩ := hrel
        have HJ1 := Lib.hid hj
        have HKP := Lib.hid hkp
        have HS1 := Lib.hid hs1
        have HS2 := Lib.hid hs2
        clear hj hkp hs1 hs2
        by_cases hlt : j < m
        · obtain ⟨x, hx⟩ : ∃ x, ls[j]? = some x := ⟨_, List.getElem?_eq_getElem (by rw [← HML.out]; exact hlt)⟩
          have hIr : Row wr A (itc ls) := HITF.out wr HKP.out
          obtain ⟨b1, off1, hA1, c0⟩ := item_row hIr hx
          subst hA1
          have d0 := c0 0 _ rfl; have d1 := c0 1 _ rfl; have d2 := c0 2 _ rfl; have d3 := c0 3 _ rfl; have d4 := c0 4 _ rfl; have d5 := c0 5 _ rfl; have d6 := c0 6 _ rfl; have d7 := c0 7 _ rfl; have d8 := c0 8 _ rfl; have d9 := c0 9 _ rfl; have da := c0 10 _ rfl
          rw [Nat.add_zero] at d0
          have hji : (j : Int) < (m : Int) := by omega
          have hwj := wrapKA (k := j) (by have := HLL.out; omega)
          have HJM := Lib.hid hlt
          obtain ⟨rest, hrest⟩ := lt_split HLS.out hx
          have hj6 : J (fun z => M2 z ∨ z = wr.heap.size) (lateOf 0 (held.take k) ++ (ls.take j).map (fun x => ((k : Int), x))) (wr.alloc (.cells (itC x) 42)) :=
            HJ.out _ _ _ _ _ HJ1.out (Over.Mine.alloc _ _ _) fun z hz => hz.elim .inl fun e => .inr (by rw [e]; simp)
          obtain ⟨fn, tmps, assign, body, hyy, hR⟩ := HY.out _ _ ((k : Int), x) rest _ hrest hj6
          have HR := Lib.hid hR
          have HNX : Hid ((lateOf 0 (held.take k) ++ (ls.take j).map (fun x => ((k : Int), x))) ++ [((k : Int), x)] = lateOf 0 (held.take k) ++ (ls.take (j + 1)).map (fun x => ((k : Int), x))) := Lib.hid (by rw [List.take_add_one, hx]; simp)
          have HPR : Hid ((lateOf 0 (held.take k) ++ (ls.take j).map (fun x => ((k : Int), x))) ++ [((k : Int), x)] <+: lateOf 0 held) := Lib.hid ⟨rest, by rw [hrest]; simp⟩
          have HSZ : Hid (w.heap.size ≤ wr.heap.size) := Lib.hid (Nat.le_trans HLT.out HKP.out.size)
          have HKN : Hid (∀ W3, Over.Kept w.heap.size (fun z => M2 z ∨ z = wr.heap.size) (wr.alloc (.cells (itC x) 42)) W3 → Over.Kept w.heap.size M W W3) :=
            Lib.hid fun W3 h3 => HKP.out.trans ((Over.Kept.alloc _ _ _ _).trans (h3.sub (Nat.le_refl _) fun z hz => .inr (.inl (HS1.out z hz))))
          clear hx hlt hjm c0 hR hj6 hrest hIr
          gi_wp2_with fail
          refine HR.out.mono ?_
          rintro e W3 ⟨h3 | h3, hk3⟩
          · obtain ⟨rfl, hj3⟩ := h3
            have HJ3 := Lib.hid hj3
            have HK3 := Lib.hid (HKN.out W3 hk3)
            clear hj3 hk3 hyy d0 d1 d2 d3 d4 d5 d6 d7 d8 d9 da
            gi_wp2_with fail
            go_roundw
            case rel =>
              refine ⟨j + 1, (fun z => M2 z ∨ z = wr.heap.size), rfl, HJM.out, by rw [← HNX.out]; exact HJ3.out, HK3.out, fun z hz => .inl (HS1.out z hz), fun z hz => ?_⟩
              rcases hz with hz | hz
              · exact HS2.out z hz
              · rw [hz]; exact HSZ.out
            case measure => simp [intOf]; have := HJM.out; omega
          · obtain ⟨rfl, hj3⟩ := h3
            have HJ3 := Lib.hid hj3
            clear hj3 hk3 hyy d0 d1 d2 d3 d4 d5 d6 d7 d8 d9 da
            gi_wp2_with fail
            refine bodyPost_ret (results_none rfl _ _ _) rfl ?_
            exact ⟨⟨_, rfl⟩, .inr ⟨_, HPR.out, HJx.out _ _ _ _ _ HJ3.out (Over.Mine.refl _ _) (fun z hz => Or.inl (Or.inl (HS1.out z hz)))⟩⟩
        · have hge : ¬ (j : Int) < (m : Int) := by omega
          have HD : Hid (lateOf 0 (held.take k) ++ (ls.take j).map (fun x => ((k : Int), x)) = lateOf 0 (held.take (k + 1))) := Lib.hid (by rw [late_take HLS.out, List.take_of_length_le (l := ls) (i := j) (by have := HML.out; omega)])
          clear hlt hjm
          gi_wp2_with fail
          go_roundw
          case rel => exact ⟨k + 1, M2, rfl, HK.out, by rw [← HD.out]; exact HJ1.out, HKP.out, HS1.out, HS2.out⟩
          case measure => simp [intOf]; have := HK.out; omega
    · have hki : ¬ (k : Int) < (nh : Int) := by omega
      have HD : Hid (lateOf 0 (held.take k) = lateOf 0 held) := Lib.hid (by rw [List.take_of_length_le (by rw [← HAT.out.ln]; omega)])
      clear hk hlt
      gi_wp2_with fail
      go_end0
      refine ⟨⟨_, rfl⟩, .inl ?_⟩
      rw [← HD.out]
      exact HJ.out _ _ _ _ _ HJ1.out (Over.Mine.refl _ _) fun z hz => .inl (HS1.out z hz)
end Aln
end Go.Proofs.Ytgbklmncfajcgaa
