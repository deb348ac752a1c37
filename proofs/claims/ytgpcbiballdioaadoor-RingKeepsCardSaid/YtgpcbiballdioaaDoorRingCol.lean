/- slices.AppendSeq, Collect over an iterator of points whose order nobody knows ahead. -/
import Derived.Test.YtgpcbiballdioaaDoorRingKeys
import Derived.Test.YtgpcbiballdioaaDoorRingAsgR
import Derived.Test.YtgpcbiballdioaaDoorHold
import Derived.Maps.OwnIn
namespace Go.Proofs.YtgpcbiballdioaaDoor
open Go.RowKit Go.Shelf
set_option linter.unusedVariables false
set_option maxRecDepth 8000
attribute [local go_sem] Oper.semAt_some
namespace Rg
def uc (xs : List Nat) : List Value := xs.map u32
theorem uc_len (xs : List Nat) : (uc xs).length = xs.length := List.length_map ..
theorem uc_app (xs ys : List Nat) : uc (xs ++ ys) = uc xs ++ uc ys := List.map_append ..
theorem uc_ones (xs : List Nat) : ∀ u ∈ uc xs, u.oneCell' = true := by
  intro u hu
  obtain ⟨p, _, rfl⟩ := List.mem_map.1 hu
  rfl
theorem cells_newU (W : World) (cs : List Value) (t : TypeId) : ∀ j u, cs[j]? = some u → (W.alloc (.cells cs.toArray t)).cell? ((⟨W.heap.size, 0, none⟩ : Addr).add j) = some u := by
  intro j u hu
  rw [Go.WideShapes.add_plain]
  unfold World.cell?
  rw [show (W.alloc (.cells cs.toArray t)).heap[(⟨W.heap.size, 0 + j, none⟩ : Addr).block]? = _ from World.alloc_heap_new W _]
  simpa using hu
theorem own_mineU {M : Nat → Prop} {W W' : World} {B size n : Nat} {e : TypeId} {v : Value} {xs : List Value} (h : W.ownsRow B e size v n xs) (hm : Over.Mine M W W') (hv : ∀ k, v.ownBlock = some k → ¬ M k) : W'.ownsRow B e size v n xs := by
  obtain ⟨hl, h0 | ⟨g, cap, cur, rfl, hg, hh, rest⟩⟩ := h
  · exact ⟨hl, .inl h0⟩
  · exact ⟨hl, .inr ⟨g, cap, cur, rfl, hg, (hm.block g (Array.getElem?_eq_some_iff.1 hh).1 (hv g rfl)).trans hh, rest⟩⟩
namespace CollU
variable (w : World) (sv : Value)
def Inv (M' : Nat → Prop) (pre : List Nat) (W : World) : Prop :=
  ∃ v, Boxed W w.heap.size 52 v ∧ W.ownsRow w.heap.size 45 1 v pre.length (uc pre) ∧ (∀ k, v.ownBlock = some k → ¬ M' k) ∧ Below w.heap.size w W ∧ (∀ k, M' k → w.heap.size < k ∧ k < W.heap.size)
def Inv2 (M' : Nat → Prop) (s : List Nat × Nat × Act) (W : World) : Prop :=
  Inv w M' s.1 W ∧ s.2.2 = { tmps := #[.slice none 0 0, sv, .pointer (some ⟨w.heap.size, 0, none⟩), undef, .slice none 0 0, u32 s.2.1, sv, u32 s.2.1, undef, undef, undef, undef, undef], defers := [] }
variable {w sv}
theorem inv_abide : Over.Abide (Inv w) := fun M' M'' s W W' h hm hs => by
  obtain ⟨v, h1, h2, h3, h4, h5⟩ := h
  have hl := h1.lt
  have hsz := hm.size
  exact ⟨v, hm.box h1 fun h => by (have := (h5 _ h).1; omega), own_mineU h2 hm h3, fun k hk h => (hs k h).elim (h3 k hk) fun h => by (have := (h2.lt k hk).2; omega),
    ⟨hm.os.trans h4.os, hm.tape.trans h4.tape, hm.output.trans h4.output, Nat.le_trans h4.size hsz, fun k hk => (hm.block k (by omega) fun h => by (have := (h5 _ h).1; omega)).trans (h4.block k hk)⟩,
    fun k hk => (hs k hk).elim (fun h => ⟨(h5 k h).1, by have := (h5 k h).2; omega⟩) fun h => ⟨by omega, h.2⟩⟩
theorem inv2_abide : Over.Abide (Inv2 w sv) := fun M' M'' s W W' h hm hs => ⟨inv_abide _ _ _ _ _ h.1 hm hs, h.2⟩
end CollU
theorem u32Info : (Tryd.prog.info? 45).map (fun i => (i.zero, i.size, i.bytes)) = some (some (.int .u32 0), 1, 4) := by kernel_rfl
def GivesK (Last : List Nat → Prop) (w : World) (e : Ending) (w' : World) : Prop :=
  ∃ v xs, e = .returned v ∧ Last xs ∧ w'.ownsRow w.heap.size 45 1 v xs.length (uc xs) ∧ Below w.heap.size w w'
set_option maxRecDepth 100000 in
set_option maxHeartbeats 2000000 in
theorem appendSeqU (F : Fence) (hF : Over.Wide F) (n : Nat) (hn : 4 ≤ n) (g : Nat) (lb : Array Value) (eg : ∀ args w, (callFunc g args).run Tryd.prog w = .ok (.enter g args) w) (Ok Last : List Nat → Prop) (hlen : ∀ xs, Ok xs → xs.length ≤ 100000) (w0 w : World)
    (hseq : OverP.Feeds F (n - 1) Tryd.prog g lb (fun x => #[u32 x]) Ok Last w0) (hw : Below w0.heap.size w0 w) :
    CallsIn F n Tryd.prog 32 #[.slice none 0 0, .func (.func g) #[] lb] w (GivesK Last w) := by
  obtain ⟨i0, hi0, hz0, hz1, hz2⟩ := info_parts u32Info
  have hfn := hF.fn 32
  have hro : F.round = none := hF.ro
  have h1n : 1 ≤ n := by omega
  have h2n : 1 ≤ n - 1 := by omega
  have h3n : 1 ≤ n - 1 - 1 := by omega
  have HS := Lib.hid hseq
  have HW := Lib.hid hw
  have EG := Lib.hid eg
  have H0 := Lib.hid hz0; have H1 := Lib.hid hz1; have H2 := Lib.hid hz2; have HI := Lib.hid hi0
  have HLEN := Lib.hid hlen
  clear hseq hw eg hz0 hz1 hz2 hi0 hlen
  refine callsIn_of_wp_marks Tryd.func32 rfl hfn ?_ hro
  simp only [Tryd.ntmps32, List.size_toArray, List.length_cons, List.length_nil, Nat.reduceAdd, Nat.reduceSub, Array.replicate_succ, Array.replicate_zero, List.push_toArray, List.append_toArray, List.nil_append, List.cons_append]
  gi_wp2
  refine OverP.range (α := Nat) hro h1n (gf := g) (lb := lb) rfl (hF.fn g) EG.out HS.out (HW.out.trans (((Below.refl _ w).alloc (Nat.le_refl _) _).mono HW.out.size)) (fun _ => rfl)
    (CollU.Inv w) (CollU.Inv2 w (.func (.func g) #[] lb)) (fun _ _ _ _ => False) CollU.inv_abide CollU.inv2_abide (fun _ _ _ _ _ _ h _ _ => h) ?start ?assign ?body ?done ?stop
  case start =>
    exact ⟨.slice none 0 0, Boxed.new _ _ _, own_none, fun k hk => by simp [Value.ownBlock] at hk, (Below.refl _ _).alloc (Nat.le_refl _) _, fun _ h => h.elim⟩
  case assign =>
    intro l' M' pre x W' hx hi
    have hi1 := Lib.hid hi
    clear hi
    unfold u32
    gi_wp2
    exact ⟨⟨hi1.out, rfl⟩, Over.Kept.refl _ _ _⟩
  case body =>
    rintro l' M' pre x a' W' hx ⟨⟨v, j1, j2, j3, j4, j5⟩, ha⟩
    dsimp only [u32] at ha
    subst ha
    have hw0 : w0.heap.size ≤ w.heap.size := HW.out.size
    have d2 := j1.cell
    have hvl := j1.lt
    have hB : w.heap.size ≤ W'.heap.size := by omega
    have hpl : pre.length + 1 ≤ 100000 := by have := HLEN.out _ hx; simpa using this
    have H3 := Lib.hid j3
    have H4 := Lib.hid j4
    have H5 := Lib.hid j5
    have HO := Lib.hid j2
    have HB := Lib.hid j1
    have HC := Lib.hid (cells_newU W' [.int .u32 x] 45)
    clear hx j1 j2 j3 j4 j5
    gi_wp2_with (gi_at_builtin; refine hold_mk ?_)
    refine hold_out ?_
    refine wpListIn_append_own_at _ rfl _ _ 52 rfl w.heap.size 45 i0 (.int .u32 0) 1 4 Tryd.underlying52 HI.out H0.out H1.out H2.out rfl (by decide) _ _ _ rfl (HO.out.alloc _) ⟨W'.heap.size, 0, none⟩ 1 1 [.int .u32 x] rfl rfl HC.out (by simp [Value.oneCell']) (by unfold maxLen; omega) (by omega) (by simp; omega) ?_
    intro v' w1 hown' hgrow _ hat
    obtain ⟨g', cap', rfl⟩ := ownsRow_succ hown'
    have hne : some w.heap.size ≠ v.ownBlock := HB.out.not_row (by decide) HO.out
    have hbx1 : Boxed w1 w.heap.size 52 v := (HB.out.alloc _).kept hgrow hne
    have hz1 := hgrow.size
    have c1 := hbx1.cell; have f1 := hbx1.frozen
    have HG := Lib.hid hgrow
    have HAT := Lib.hid hat
    have HO1 := Lib.hid hown'
    have HB1 := Lib.hid hbx1
    have HNE := Lib.hid hne
    clear hgrow hat hown' hbx1 hne d2
    gi_wp2
    have hg : g' ≠ w.heap.size ∧ ¬ M' g' := by
      rcases HAT.out with h | h
      · have h' : some g' = v.ownBlock := h
        exact ⟨fun e => HNE.out (by rw [← h', e]), H3.out g' h'.symm⟩
      · have h' : g' = W'.heap.size + 1 := by simpa [Value.ownBlock] using h
        exact ⟨by omega, fun hm => by have := (H5.out _ hm).2; omega⟩
    have hrow : ∀ k, v.ownBlock = some k → w.heap.size ≤ k ∧ ¬ M' k := fun k hk => ⟨(HO.out.lt k hk).1, H3.out k hk⟩
    have hb1 : Below w.heap.size w w1 := (H4.out.alloc (by omega) _).grown HG.out (by simp; omega) fun k hk => (hrow k hk).1
    refine ⟨⟨_, HB1.out.set _, ?_, fun k hk => by cases hk; exact hg.2, hb1.setCell (p := ⟨w.heap.size, 0, none⟩) (Nat.le_refl _) _, fun k hk => ⟨(H5.out k hk).1, ?_⟩⟩, ?_⟩
    · have h := HO1.out.kept (grownBy_setCell' w1 w.heap.size (.slice (some ⟨g', 0, none⟩) (pre.length + 1) cap')) (.inr fun e => hg.1 (by cases e; rfl))
      rw [uc_app, List.length_append, List.length_singleton]
      exact h
    · have h1 := (H5.out k hk).2
      have h2 : w1.heap.size ≤ (w1.setCell ⟨w.heap.size, 0, none⟩ (.slice (some ⟨g', 0, none⟩) (pre.length + 1) cap')).heap.size := (grownBy_setCell' w1 w.heap.size _).size
      simp only [World.size_alloc] at hz1
      omega
    · refine ((Over.Kept.alloc _ _ _ _).trans (Over.Kept.grown HG.out fun k hk => ⟨Nat.le_trans hw0 (hrow k hk).1, (hrow k hk).2⟩)).trans (Over.Kept.set _ _ hw0 fun hm => ?_)
      have := (H5.out _ hm).1
      exact Nat.lt_irrefl _ this
  case done =>
    rintro D M' xs W' hlast hD hDw ⟨v, j1, j2, j3, j4, j5⟩ hK
    have d2 := j1.cell
    gi_wp2
    refine ⟨by simp, .inl ⟨_, _, rfl, run_takeDeferred hK, ?_⟩⟩
    refine ⟨_, results_tmp rfl _ _ _, v, xs, rfl, hlast, own_mineU j2 (Over.Mine.put _ _ hD) j3, ?_⟩
    have hm := Over.Mine.put (M := M') W' (.deferred none) hD
    exact ⟨hm.os.trans j4.os, hm.tape.trans j4.tape, hm.output.trans j4.output, Nat.le_trans j4.size hm.size, fun k hk => (hm.block k (by have := j4.size; omega) fun h => by (have := (j5 _ h).1; omega)).trans (j4.block k hk)⟩
  case stop =>
    rintro D c M' pre W' hD hDw hpre hi hK
    exact hi.elim
theorem collectU (F : Fence) (hF : Over.Wide F) (n : Nat) (hn : 5 ≤ n) (g : Nat) (lb : Array Value) (eg : ∀ args w, (callFunc g args).run Tryd.prog w = .ok (.enter g args) w) (Ok Last : List Nat → Prop) (hlen : ∀ xs, Ok xs → xs.length ≤ 100000) (w0 w : World)
    (hseq : OverP.Feeds F (n - 1) Tryd.prog g lb (fun x => #[u32 x]) Ok Last w0) (hw : Below w0.heap.size w0 w) :
    Calls Tryd.prog 28 #[.func (.func g) #[] lb] w (GivesK Last w) := by
  have HA : Hid (Calls Tryd.prog 32 #[.slice none 0 0, .func (.func g) #[] lb] w (GivesK Last w)) :=
    Lib.hid (by have h := appendSeqU F hF n (by omega) g lb eg Ok Last hlen w0 w hseq hw; rw [hF.all] at h; exact callsIn_wide.1 h)
  clear hseq hw eg hlen
  go_enter Tryd.func28, Tryd.ntmps28
  go_wp2_with (go_at_call 32; refine HA.out.mono ?_; rintro e w' ⟨v, xs, rfl, h1, h2, h3⟩)
  go_ret
  exact ⟨v, xs, rfl, h1, h2, h3⟩
end Rg
end Go.Proofs.YtgpcbiballdioaaDoor
