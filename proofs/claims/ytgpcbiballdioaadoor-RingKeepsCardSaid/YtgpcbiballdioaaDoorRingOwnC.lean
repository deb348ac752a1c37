/- owner of the code: a range over the rising points. -/
import Derived.Test.YtgpcbiballdioaaDoorRingUp
import Derived.Laws.ResultCell
namespace Go.Proofs.YtgpcbiballdioaaDoor
open Go.RowKit Go.Shelf
set_option linter.unusedVariables false
set_option maxRecDepth 8000
attribute [local go_sem] Oper.semAt_some
namespace Rg
def firstOf : List (Nat × Int) → Int
  | [] => 0
  | x :: _ => x.2
/-- The first one at or above t, or the first one of all. -/
def ownUp (t : Nat) (xs : List (Nat × Int)) : Int :=
  match xs.find? (fun x => decide (t ≤ x.1)) with
  | some x => x.2
  | none => firstOf xs
theorem ownUp_hit {t : Nat} {pre rest : List (Nat × Int)} {x : Nat × Int} (h : ∀ y ∈ pre, y.1 < t) (hx : t ≤ x.1) : ownUp t (pre ++ x :: rest) = x.2 := by
  unfold ownUp
  have e : (pre ++ x :: rest).find? (fun x => decide (t ≤ x.1)) = some x := by
    rw [List.find?_append, List.find?_eq_none.2 (fun y hy => by have := h y hy; simp; omega)]
    simp [hx]
  rw [e]
theorem ownUp_none {t : Nat} {xs : List (Nat × Int)} (h : ∀ y ∈ xs, y.1 < t) : ownUp t xs = firstOf xs := by
  unfold ownUp
  rw [List.find?_eq_none.2 (fun y hy => by have := h y hy; simp; omega)]
namespace Own
variable (w : World) (t : Nat) (fv : Value)
def Inv (M' : Nat → Prop) (pre : List (Nat × Int)) (W : World) : Prop :=
  Boxed W w.heap.size 45 (.int .u32 t) ∧ Boxed W (w.heap.size + 1) 3 (.int .i64 0) ∧ Boxed W (w.heap.size + 2) 3 (.int .i64 (firstOf pre)) ∧ (∀ x ∈ pre, x.1 < t) ∧ Below w.heap.size w W ∧ (∀ k, M' k → w.heap.size + 2 < k ∧ k < W.heap.size)
def Inv2 (M' : Nat → Prop) (s : List (Nat × Int) × (Nat × Int) × Act) (W : World) : Prop :=
  Inv w t M' s.1 W ∧ s.2.2 = { tmps := #[fv, .int .u32 t, undef, .pointer (some ⟨w.heap.size, 0, none⟩), .pointer (some ⟨w.heap.size + 1, 0, none⟩), .pointer (some ⟨w.heap.size + 2, 0, none⟩), .int .u32 (s.2.1.1 : Int), .int .i64 s.2.1.2, fv, .int .u32 (s.2.1.1 : Int), .int .i64 s.2.1.2, undef, undef, undef, undef, undef, undef, undef, undef], defers := [] }
def Out (c : Code) (M' : Nat → Prop) (pre : List (Nat × Int)) (W : World) : Prop :=
  c = .ret ∧ (∃ p x, pre = p ++ [x] ∧ (∀ y ∈ p, y.1 < t) ∧ t ≤ x.1 ∧ Boxed W (w.heap.size + 1) 3 (.int .i64 x.2)) ∧ Below w.heap.size w W ∧ (∀ k, M' k → w.heap.size + 2 < k ∧ k < W.heap.size) ∧ w.heap.size + 2 < W.heap.size
variable {w t fv}
theorem below_mine {M' : Nat → Prop} {W W' : World} (hb : Below w.heap.size w W) (hm : Over.Mine M' W W') (hk : ∀ k, M' k → w.heap.size + 2 < k ∧ k < W.heap.size) : Below w.heap.size w W' :=
  ⟨hm.os.trans hb.os, hm.tape.trans hb.tape, hm.output.trans hb.output, Nat.le_trans hb.size hm.size, fun k h => (hm.block k (by have := hb.size; omega) fun h2 => by have := (hk _ h2).1; omega).trans (hb.block k h)⟩
theorem grow {M' M'' : Nat → Prop} {W W' : World} (hz : w.heap.size + 2 < W.heap.size) (hm : Over.Mine M' W W') (hk : ∀ k, M' k → w.heap.size + 2 < k ∧ k < W.heap.size) (hs : ∀ k, M'' k → M' k ∨ (W.heap.size ≤ k ∧ k < W'.heap.size)) : ∀ k, M'' k → w.heap.size + 2 < k ∧ k < W'.heap.size :=
  fun k h => (hs k h).elim (fun h => ⟨(hk k h).1, by have := (hk k h).2; have := hm.size; omega⟩) fun h => ⟨by omega, h.2⟩
theorem inv_abide : Over.Abide (Inv w t) := fun M' M'' s W W' h hm hs => by
  obtain ⟨h1, h2, h3, h4, h5, h6⟩ := h
  exact ⟨hm.box h1 fun h => by (have := (h6 _ h).1; omega), hm.box h2 fun h => by (have := (h6 _ h).1; omega), hm.box h3 fun h => by (have := (h6 _ h).1; omega), h4, below_mine h5 hm h6, grow h3.lt hm h6 hs⟩
theorem inv2_abide : Over.Abide (Inv2 w t fv) := fun M' M'' s W W' h hm hs => ⟨inv_abide _ _ _ _ _ h.1 hm hs, h.2⟩
theorem out_abide (c : Code) : Over.Abide (Out w t c) := fun M' M'' s W W' h hm hs => by
  obtain ⟨h1, ⟨p, x, h2, h3, h4, h5⟩, h6, h7, h8⟩ := h
  exact ⟨h1, ⟨p, x, h2, h3, h4, hm.box h5 fun h => by (have := (h7 _ h).1; omega)⟩, below_mine h6 hm h7, grow h8 hm h7 hs, by have := hm.size; omega⟩
end Own
theorem owner_res {W : World} {tmps : Array Value} {R : Nat} {v : Value} (ht : tmps.getD 4 undef = .pointer (some ⟨R, 0, none⟩)) (hb : Boxed W R 3 v) : (results Tryd.f17 tmps).run Tryd.prog W = .ok v W := by
  have c := hb.cell
  have ht2 : tmps[4]?.getD undef = .pointer (some ⟨R, 0, none⟩) := by simpa using ht
  simp [results, Tryd.results17, go_sem, ht2, c]
set_option maxRecDepth 100000 in
set_option maxHeartbeats 2000000 in
theorem ckOwner (F : Fence) (hF : Over.Wide F) (n : Nat) (hn : 4 ≤ n) (g : Nat) (lb : Array Value) (eg : ∀ args w, (callFunc g args).run Tryd.prog w = .ok (.enter g args) w) (t : Nat) (xs : List (Nat × Int)) (h0 : ∀ x ∈ xs, x.2 ≠ 0) (w0 w : World)
    (hseq : Over.Feeds F (n - 1) Tryd.prog g lb upE xs w0) (hw : Below w0.heap.size w0 w) :
    CallsIn F n Tryd.prog 17 #[.func (.func g) #[] lb, .int .u32 t] w fun e w' => e = .returned (.int .i64 (ownUp t xs)) ∧ Below w.heap.size w w' := by
  have hfn := hF.fn 17
  have hro : F.round = none := hF.ro
  have h1n : 1 ≤ n := by omega
  have h2n : 1 ≤ n - 1 := by omega
  have h3n : 1 ≤ n - 1 - 1 := by omega
  have HS := Lib.hid hseq
  have HW := Lib.hid hw
  have EG := Lib.hid eg
  have HN0 := Lib.hid h0
  clear hseq hw eg h0
  refine callsIn_of_wp_marks Tryd.func17 rfl hfn ?_ hro
  simp only [Tryd.ntmps17, List.size_toArray, List.length_cons, List.length_nil, Nat.reduceAdd, Nat.reduceSub, Array.replicate_succ, Array.replicate_zero, List.push_toArray, List.append_toArray, List.nil_append, List.cons_append]
  gi_wp2
  refine Over.range (α := Nat × Int) hro h1n (gf := g) (lb := lb) rfl (hF.fn g) EG.out HS.out (HW.out.trans (((((Below.refl _ w).alloc (Nat.le_refl _) _).alloc (by simp) _).alloc (by simp; omega) _).mono HW.out.size)) (fun _ => rfl)
    (Own.Inv w t) (Own.Inv2 w t (.func (.func g) #[] lb)) (Own.Out w t) Own.inv_abide Own.inv2_abide Own.out_abide ?start ?assign ?body ?done ?stop
  case start =>
    refine ⟨((Boxed.new w _ _).alloc _).alloc _, ?_, ?_, fun x hx => by simp at hx, (((Below.refl _ w).alloc (Nat.le_refl _) _).alloc (by simp) _).alloc (by simp; omega) _, fun _ h => h.elim⟩
    · have := (Boxed.new (w.alloc (.cells #[.int .u32 t] 45)) 3 (.int .i64 0)).alloc (.cells #[.int .i64 0] 3)
      rwa [World.size_alloc] at this
    · have := Boxed.new ((w.alloc (.cells #[.int .u32 t] 45)).alloc (.cells #[.int .i64 0] 3)) 3 (.int .i64 0)
      rwa [World.size_alloc, World.size_alloc] at this
  case assign =>
    intro l' M' pre x rest W' hx hi
    have hi1 := Lib.hid hi
    obtain ⟨x0, x1⟩ := x
    clear hi hx
    unfold upE
    gi_wp2
    exact ⟨⟨hi1.out, rfl⟩, Over.Kept.refl _ _ _⟩
  case body =>
    rintro l' M' pre ⟨x0, x1⟩ rest a' W' hx ⟨⟨j1, j2, j3, j4, j5, j6⟩, ha⟩
    dsimp only at ha
    subst ha
    have c1 := j1.cell
    have c2 := j2.cell
    have c3 := j3.cell
    have f2 := j2.frozen
    have f3 := j3.frozen
    have z1 := j1.lt
    have z2 := j2.lt
    have z3 := j3.lt
    have hw0 : w0.heap.size ≤ w.heap.size := HW.out.size
    have J1 := Lib.hid j1; have J2 := Lib.hid j2; have J3 := Lib.hid j3; have J4 := Lib.hid j4; have J5 := Lib.hid j5; have J6 := Lib.hid j6
    have HX := Lib.hid hx
    clear hx j1 j2 j3 j4 j5 j6
    by_cases htx : t ≤ x0
    · have b1 : (t : Int) ≤ (x0 : Int) := by omega
      gi_wp2
      refine ⟨⟨rfl, ⟨pre, (x0, x1), rfl, J4.out, htx, J2.out.set _⟩, J5.out.setCell (p := ⟨w.heap.size + 1, 0, none⟩) (by show w.heap.size ≤ w.heap.size + 1; omega) _, fun k hk => ⟨(J6.out k hk).1, ?_⟩, ?_⟩, ?_⟩
      · have := (J6.out k hk).2
        show k < (W'.setCell _ _).heap.size
        simp [World.setCell]; exact this
      · show w.heap.size + 2 < (W'.setCell _ _).heap.size
        simp [World.setCell]; omega
      · exact Over.Kept.set _ _ (by show w0.heap.size ≤ w.heap.size + 1; omega) fun hm => by have := (J6.out _ hm).1; simp at this
    · have b1 : ¬ (t : Int) ≤ (x0 : Int) := by omega
      cases pre with
      | nil =>
        have e0 := eq_b (rfl : (0 : Int) = 0)
        simp only [firstOf] at c3
        gi_wp2
        refine ⟨⟨?_, ?_, J3.out.set _, fun y hy => ?_, J5.out.setCell (p := ⟨w.heap.size + 2, 0, none⟩) (by show w.heap.size ≤ w.heap.size + 2; omega) _, fun k hk => ⟨(J6.out k hk).1, ?_⟩⟩, ?_⟩
        · exact (Below.heap_setCell W' ⟨w.heap.size + 2, 0, none⟩ _ _ (by show w.heap.size ≠ w.heap.size + 2; omega)).trans J1.out
        · exact (Below.heap_setCell W' ⟨w.heap.size + 2, 0, none⟩ _ _ (by show w.heap.size + 1 ≠ w.heap.size + 2; omega)).trans J2.out
        · simp at hy; subst hy; show x0 < t; omega
        · have := (J6.out k hk).2
          show k < (W'.setCell _ _).heap.size
          simp [World.setCell]; exact this
        · exact Over.Kept.set _ _ (by show w0.heap.size ≤ w.heap.size + 2; omega) fun hm => by have := (J6.out _ hm).1; simp at this
      | cons y pre =>
        have hy0 : y.2 ≠ 0 := HN0.out y (by rw [HX.out]; simp)
        have e0 := ne_b hy0
        simp only [firstOf] at c3
        gi_wp2
        refine ⟨⟨J1.out, J2.out, J3.out, fun z hz => ?_, J5.out, J6.out⟩, Over.Kept.refl _ _ _⟩
        rcases List.mem_append.1 (show z ∈ (y :: pre) ++ [(x0, x1)] from hz) with h | h
        · exact J4.out z h
        · rw [List.mem_singleton.1 h]; show x0 < t; omega
  case done =>
    rintro D M' W' hD hDw ⟨j1, j2, j3, j4, j5, j6⟩ hK
    have c2 := j2.cell
    have c3 := j3.cell
    have f2 := j2.frozen
    have z2 := j2.lt
    have z3 := j3.lt
    have HE := Lib.hid (ownUp_none (t := t) (xs := xs) j4)
    have J2 := Lib.hid j2; have J5 := Lib.hid j5; have J6 := Lib.hid j6
    have HD := Lib.hid hD
    have HK := Lib.hid hK
    clear j1 j2 j3 j4 j5 j6 hD hK
    have hD3 : w.heap.size + 2 < D := by simp at hDw; omega
    gi_wp2
    obtain ⟨wZ, hwZ⟩ : ∃ wZ, wZ = W'.setCell ⟨w.heap.size + 1, 0, none⟩ (.int .i64 (firstOf xs)) := ⟨_, rfl⟩
    have hbz : Boxed wZ (w.heap.size + 1) 3 (.int .i64 (firstOf xs)) := by rw [hwZ]; exact J2.out.set _
    have hKz : wZ.heap[D]? = some (.deferred (some [])) := by rw [hwZ]; exact (Below.heap_setCell W' ⟨w.heap.size + 1, 0, none⟩ _ _ (by show D ≠ w.heap.size + 1; omega)).trans HK.out
    have hbl : Below w.heap.size w wZ := by rw [hwZ]; exact J5.out.setCell (p := ⟨w.heap.size + 1, 0, none⟩) (by show w.heap.size ≤ w.heap.size + 1; omega) _
    rw [← hwZ]
    refine ⟨by simp, .inl ⟨_, _, rfl, run_takeDeferred hKz, ?_⟩⟩
    have hbz2 : Boxed (wZ.putObj D (.deferred none)) (w.heap.size + 1) 3 (.int .i64 (firstOf xs)) := (World.putObj_heap_other (by omega)).trans hbz
    refine ⟨_, owner_res rfl hbz2, by rw [HE.out], ?_⟩
    exact ⟨hbl.os, hbl.tape, hbl.output, by have := hbl.size; simpa using this, fun k hk => (World.putObj_heap_other (by omega)).trans (hbl.block k hk)⟩
  case stop =>
    rintro D c M' pre W' hD hDw hpre ⟨rfl, ⟨p, x, rfl, h3, h4, h5⟩, h6, h7, h8⟩ hK
    have HE : Hid (ownUp t xs = x.2) := Lib.hid (by
      obtain ⟨r, hr⟩ := hpre
      rw [← hr, List.append_assoc]
      exact ownUp_hit h3 h4)
    have hD3 : w.heap.size + 2 < D := by simp at hDw; omega
    have H5 := Lib.hid h5; have H6 := Lib.hid h6
    clear h5 h6 h7 h3 hpre
    gi_wp2
    refine ⟨by simp, .inl ⟨_, _, rfl, run_takeDeferred hK, ?_⟩⟩
    have hbz2 : Boxed (W'.putObj D (.deferred none)) (w.heap.size + 1) 3 (.int .i64 x.2) := (World.putObj_heap_other (by omega)).trans H5.out
    refine ⟨_, owner_res rfl hbz2, by rw [HE.out], ?_⟩
    exact ⟨H6.out.os, H6.out.tape, H6.out.output, by have := H6.out.size; simpa using this, fun k hk => (World.putObj_heap_other (by omega)).trans (H6.out.block k hk)⟩
end Rg
end Go.Proofs.YtgpcbiballdioaaDoor
