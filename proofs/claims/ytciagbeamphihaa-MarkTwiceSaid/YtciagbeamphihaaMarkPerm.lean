/- What the code permits is what marks allow. -/
import Derived.Test.YtciagbeamphihaaMarkLim
namespace Go.Proofs.Ytciagbeamphihaa
open Go.RowKit
set_option linter.unusedVariables false
set_option maxRecDepth 8000
namespace Wm
def Same (l : Lim) (a : Int) : Prop := (l.is = false ∧ a < 0) ∨ (l.is = true ∧ l.t = a ∧ 0 ≤ a)
theorem same_lower {l : Lim} {a x : Int} (h : Same l a) (hx : 0 ≤ x) : Same (lower l x) (if a < 0 ∨ x < a then x else a) := by
  obtain ⟨t, is⟩ := l
  rcases h with ⟨h1, h2⟩ | ⟨h1, h2, h3⟩
  · simp only at h1
    subst h1
    right
    rw [if_pos (.inl h2)]
    exact ⟨rfl, rfl, hx⟩
  · simp only at h1 h2
    subst h1 h2
    right
    show true = true ∧ min t x = _ ∧ _
    split
    · refine ⟨rfl, ?_, hx⟩; omega
    · refine ⟨rfl, ?_, h3⟩; omega
theorem same_ins : ∀ {l : Lim} {a : Int} {xs : List In}, Same l a → (∀ x ∈ xs, 0 ≤ x.mark) → Same (xs.foldl inL l) (xs.foldl loI a)
  | _, _, [], h, _ => h
  | l, a, x :: r, h, hx => by
    refine same_ins (xs := r) ?_ fun y hy => hx y (List.mem_cons_of_mem _ hy)
    have h0 := hx x List.mem_cons_self
    obtain ⟨mark, idle⟩ := x
    cases idle
    · have e : loI a ⟨mark, false⟩ = if a < 0 ∨ mark < a then mark else a := by
        unfold loI
        by_cases hc : a < 0 ∨ mark < a
        · rw [if_pos hc, if_pos ⟨rfl, hc⟩]
        · rw [if_neg hc, if_neg fun hh => hc hh.2]
      rw [e]
      exact same_lower h h0
    · have e : loI a ⟨mark, true⟩ = a := if_neg fun hh => by cases hh.1
      rw [e]
      exact h
theorem same_hos : ∀ {l : Lim} {a : Int} {xs : List Ho}, Same l a → (∀ x ∈ xs, 0 ≤ x.at_) → Same (xs.foldl hoL l) (xs.foldl loH a)
  | _, _, [], h, _ => h
  | l, a, x :: r, h, hx => same_hos (xs := r) (same_lower h (hx x List.mem_cons_self)) fun y hy => hx y (List.mem_cons_of_mem _ hy)
def lim (m : Mk) : Lim := m.holds.foldl hoL (m.ins.foldl inL ⟨0, false⟩)
def perm (m : Mk) : Int := if (lim m).is then (lim m).t else m.out
theorem perm_right {m : Mk} (h : right m = true) : perm m = allows m := by
  obtain ⟨h1, h2, h3, h4⟩ := (right_iff m).1 h
  have hs : Same (lim m) (least m) := same_hos (same_ins (.inl ⟨rfl, by omega⟩) fun x hx => ((tOk_iff _).1 (h3 x hx)).1) fun x hx => ((tOk_iff _).1 (chain_mem h4 x hx).2).1
  unfold perm allows
  rcases hs with ⟨a1, a2⟩ | ⟨a1, a2, a3⟩
  · rw [a1, if_neg (by simp), if_pos a2]
  · rw [a1, if_pos rfl, if_neg (by omega), a2]
/-- The call's block: the marks. -/
structure PeAt (w0 : World) (m : Mk) (A : Option Addr) (c : Nat) (B : Option Addr) (d : Nat) (w : World) : Prop where
  ma : MkAt w0.heap.size m A c B d w
  below : Below w0.heap.size w0 w
theorem PeAt.next {w0 : World} {m : Mk} {A : Option Addr} {c : Nat} {B : Option Addr} {d : Nat} {w w' : World} (h : PeAt w0 m A c B d w) (hb : Below w.heap.size w w') : PeAt w0 m A c B d w' := ⟨h.ma.next hb, below_next h.below hb⟩
theorem PeAt.nextA {w0 : World} {m : Mk} {A : Option Addr} {c : Nat} {B : Option Addr} {d : Nat} {w w' : World} {o : Obj} (h : PeAt w0 m A c B d w) (hb : Below (w.alloc o).heap.size (w.alloc o) w') : PeAt w0 m A c B d w' := (h.next (al_below w o)).next hb
theorem lies_upA {w w' : World} {C : Array Value} {T : TypeId} {R : Nat} (e : R = w.heap.size) (hb : Below (w.alloc (.cells C T)).heap.size (w.alloc (.cells C T)) w') : Lies R C T w' := e ▸ lies_up (Lies.new w C T) hb
set_option maxRecDepth 100000 in
set_option maxHeartbeats 4000000 in
theorem ckPerm (m : Mk) (A : Option Addr) (c : Nat) (B : Option Addr) (d : Nat) (w : World) (h : Has m A c B d w) : Calls Try.prog 31 #[mv m A c B d] w (TellsI (perm m) w) := by
  have hl := h.len
  have HI := Lib.hid (fun w' (hb : Below w.heap.size w w') => ckFoldI ⟨0, false⟩ m.ins A c w' (h.ri.below hb) hl.1)
  obtain ⟨y, hy⟩ : ∃ y, y = m.ins.foldl inL ⟨0, false⟩ := ⟨_, rfl⟩
  rw [← hy] at HI
  have HH := Lib.hid (fun w' (hb : Below w.heap.size w w') => ckFoldH y m.holds B d w' (h.rh.below hb) hl.2)
  have hz : lim m = m.holds.foldl hoL y := by unfold lim; rw [hy]
  obtain ⟨z, ez⟩ : ∃ z, z = m.holds.foldl hoL y := ⟨_, rfl⟩
  rw [← ez] at HH hz
  have hp : perm m = if z.is then z.t else m.out := by unfold perm; rw [hz]
  obtain ⟨p, ep⟩ : ∃ p, p = perm m := ⟨_, rfl⟩
  rw [← ep] at hp ⊢
  have T := Lib.hid ((show PeAt w m A c B d (w.alloc (.cells (mkC (.slice A m.ins.length c) (.slice B m.holds.length d) m.out) 25)) from ⟨Lies.new w _ _, al_below _ _⟩).next (below_drewOf (Below.refl _ _)))
  clear h hl hy ez hz ep
  obtain ⟨zt, zi⟩ := z
  have HP := Lib.hid hp
  clear hp
  go_enter Try.func31, Try.ntmps31
  go_wp2_with fail
  go_region_with (first
    | (go_at_call 44; first
      | (refine (HI.out _ T.out.below).mono ?_; rintro e w5 ⟨rfl, hb5⟩; (try have L3 := Lib.hid (lies_up L3.out hb5)); have T := Lib.hid (T.out.next hb5); obtain ⟨z0, z1, z2⟩ := T.out.ma.cells; have q0 := lt_of_block T.out.ma; (try have g0 := L3.out.cell (j := 0) rfl; have g1 := L3.out.cell (j := 1) rfl; have f0 := L3.out.free 0; have f1 := L3.out.free 1); clear hb5)
      | (refine (HI.out _ (below_al T.out.below)).mono ?_; rintro e w5 ⟨rfl, hb5⟩; have L3 := Lib.hid (lies_upA (R := w.heap.size + 1) (by simp) hb5); have T := Lib.hid (T.out.nextA hb5); obtain ⟨z0, z1, z2⟩ := T.out.ma.cells; have q0 := lt_of_block T.out.ma; (have g0 := L3.out.cell (j := 0) rfl; have g1 := L3.out.cell (j := 1) rfl; have f0 := L3.out.free 0; have f1 := L3.out.free 1); clear hb5))
    | (go_at_call 43; first
      | (refine (HH.out _ T.out.below).mono ?_; rintro e w5 ⟨rfl, hb5⟩; (try have L3 := Lib.hid (lies_up L3.out hb5)); have T := Lib.hid (T.out.next hb5); obtain ⟨z0, z1, z2⟩ := T.out.ma.cells; have q0 := lt_of_block T.out.ma; (try have g0 := L3.out.cell (j := 0) rfl; have g1 := L3.out.cell (j := 1) rfl; have f0 := L3.out.free 0; have f1 := L3.out.free 1); clear hb5)
      | (have Q9 := Lib.hid (Nat.le_of_lt (lt_of_block T.out.ma)); refine (HH.out _ (below_al T.out.below)).mono ?_; rintro e w5 ⟨rfl, hb5⟩; have L3 := Lib.hid (lies_upA rfl hb5); have T := Lib.hid (T.out.nextA hb5); obtain ⟨z0, z1, z2⟩ := T.out.ma.cells; have q0 := lt_of_block T.out.ma; (have g0 := L3.out.cell (j := 0) rfl; have g1 := L3.out.cell (j := 1) rfl; have f0 := L3.out.free 0; have f1 := L3.out.free 1); clear hb5)))

  all_goals (
    cases zi
    all_goals (
      go_wp2_with fail
      go_ret
      refine ⟨by rw [HP.out]; rfl, ?_⟩
      first
      | exact below_al T.out.below
      | exact below_setL2 T.out.below (by omega) ⟨zt, _⟩
      | exact below_setL2 T.out.below Q9.out ⟨zt, _⟩))
end Wm
end Go.Proofs.Ytciagbeamphihaa
