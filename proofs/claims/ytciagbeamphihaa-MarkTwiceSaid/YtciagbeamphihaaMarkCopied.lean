/- slices.Clone of inputs and of holds; copied: marks with rows of their own. -/
import Derived.Test.YtciagbeamphihaaMarkOwn
import Derived.Test.YtciagbeamphihaaMarkSetR
import Derived.Test.YtciagbeamphihaaHold
import Derived.Lib.SliceRun
import Derived.Deep.RegionWith
namespace Go.Proofs.Ytciagbeamphihaa
open Go.RowKit
set_option linter.unusedVariables false
set_option maxRecDepth 8000
namespace Wm
theorem hoInfoC : (Try.prog.info? 44).map (fun i => (i.zero, i.size, i.bytes)) = some (some (.agg #[.int .i64 0, .int .i64 0]), 2, 16) := by kernel_rfl
theorem own_base {w : World} {B B' size n : Nat} {e : TypeId} {v : Value} {xs : List Value} (h : w.ownsRow B e size v n xs) (hb : B' ≤ B) : w.ownsRow B' e size v n xs := by
  obtain ⟨hl, h | ⟨g, cap, cur, rfl, hg, rest⟩⟩ := h
  · exact ⟨hl, .inl h⟩
  · exact ⟨hl, .inr ⟨g, cap, cur, rfl, Nat.le_trans hb hg, rest⟩⟩
/-- Hands back a row of its own. -/
def GivesO (T : TypeId) (n : Nat) (cs : List Value) (w : World) (e : Ending) (w' : World) : Prop := ∃ A c, e = .returned (.slice A n c) ∧ w'.ownsRow w.heap.size T 2 (.slice A n c) n cs ∧ Below w.heap.size w w'
set_option maxHeartbeats 1000000 in
theorem clIn (xs : List In) (A : Option Addr) (c : Nat) (w : World) (hA : Row w A (ic xs)) (hl : xs.length ≤ 100000) : Calls Try.prog 41 #[.slice A xs.length c] w (GivesO 42 xs.length (ic xs) w) := by
  rcases A with _ | ⟨b, off, sp⟩
  · have e : xs = [] := by
      rcases hA with h | ⟨_, _, h, _⟩
      · have := ic_len xs; rw [h] at this; exact List.eq_nil_of_length_eq_zero (by simp at this; omega)
      · cases h
    subst e
    clear hA
    have q : ∀ (w : World) (n c n' c' : Nat), (binOp .eql 22 (.slice none n c) (.slice none n' c')).run Try.prog w = .ok (.bool true) w := fun w n c n' c' => Lib.run_eql_slice_nil w _ _ none n c n' c' Try.underlying22
    go_enter Try.func41, Try.ntmps41
    go_wp2_with fail
    go_ret
    exact ⟨none, 0, rfl, own_none, Below.refl _ _⟩
  · obtain ⟨i0, hi0, hz0, hz1, hz2⟩ := info_parts inInfo
    have HI0 := Lib.hid hi0; have HZ0 := Lib.hid hz0; have HZ1 := Lib.hid hz1; have HZ2 := Lib.hid hz2
    have HA := Lib.hid hA
    have q : ∀ (w : World) (n c n' c' : Nat), (binOp .eql 22 (.slice (some ⟨b, off, sp⟩) n c) (.slice none n' c')).run Try.prog w = .ok (.bool false) w := fun w n c n' c' => Lib.run_eql_slice_nil w _ _ (some _) n c n' c' Try.underlying22
    clear hA hi0 hz0 hz1 hz2
    go_enter Try.func41, Try.ntmps41
    go_wp2_with (at_builtin; refine hold_mk ?_)
    refine hold_out ?_
    refine wpApp rfl _ _ 22 rfl w.heap.size 42 i0 _ 2 16 Try.underlying22 HI0.out HZ0.out HZ1.out HZ2.out rfl (by omega) _ 0 [] rfl
      (own_new (Nat.le_refl _)) _ xs.length c (ic xs) rfl (HA.out.below (below_al (Below.refl _ _))) (ic_len xs) (ic_ones xs) (by unfold maxLen; omega) (by omega) (by simp) ?_
    intro v2 w2 hown hb
    have HOW := Lib.hid hown
    have HB := Lib.hid ((below_al (o := .cells #[] 42) (Below.refl w.heap.size w)).trans hb)
    clear hown hb
    go_wp2_with fail
    go_ret
    have ho := HOW.out
    rw [Nat.zero_add, List.nil_append] at ho
    obtain ⟨A', c', e', _⟩ := own_form ho (by omega)
    subst e'
    exact ⟨A', c', rfl, ho, HB.out⟩
set_option maxHeartbeats 1000000 in
theorem clHo (xs : List Ho) (A : Option Addr) (c : Nat) (w : World) (hA : Row w A (hc xs)) (hl : xs.length ≤ 100000) : Calls Try.prog 42 #[.slice A xs.length c] w (GivesO 44 xs.length (hc xs) w) := by
  rcases A with _ | ⟨b, off, sp⟩
  · have e : xs = [] := by
      rcases hA with h | ⟨_, _, h, _⟩
      · have := hc_len xs; rw [h] at this; exact List.eq_nil_of_length_eq_zero (by simp at this; omega)
      · cases h
    subst e
    clear hA
    have q : ∀ (w : World) (n c n' c' : Nat), (binOp .eql 23 (.slice none n c) (.slice none n' c')).run Try.prog w = .ok (.bool true) w := fun w n c n' c' => Lib.run_eql_slice_nil w _ _ none n c n' c' Try.underlying23
    go_enter Try.func42, Try.ntmps42
    go_wp2_with fail
    go_ret
    exact ⟨none, 0, rfl, own_none, Below.refl _ _⟩
  · obtain ⟨i0, hi0, hz0, hz1, hz2⟩ := info_parts hoInfoC
    have HI0 := Lib.hid hi0; have HZ0 := Lib.hid hz0; have HZ1 := Lib.hid hz1; have HZ2 := Lib.hid hz2
    have HA := Lib.hid hA
    have q : ∀ (w : World) (n c n' c' : Nat), (binOp .eql 23 (.slice (some ⟨b, off, sp⟩) n c) (.slice none n' c')).run Try.prog w = .ok (.bool false) w := fun w n c n' c' => Lib.run_eql_slice_nil w _ _ (some _) n c n' c' Try.underlying23
    clear hA hi0 hz0 hz1 hz2
    go_enter Try.func42, Try.ntmps42
    go_wp2_with (at_builtin; refine hold_mk ?_)
    refine hold_out ?_
    refine wpApp rfl _ _ 23 rfl w.heap.size 44 i0 _ 2 16 Try.underlying23 HI0.out HZ0.out HZ1.out HZ2.out rfl (by omega) _ 0 [] rfl
      (own_new (Nat.le_refl _)) _ xs.length c (hc xs) rfl (HA.out.below (below_al (Below.refl _ _))) (hc_len xs) (hc_ones xs) (by unfold maxLen; omega) (by omega) (by simp) ?_
    intro v2 w2 hown hb
    have HOW := Lib.hid hown
    have HB := Lib.hid ((below_al (o := .cells #[] 44) (Below.refl w.heap.size w)).trans hb)
    clear hown hb
    go_wp2_with fail
    go_ret
    have ho := HOW.out
    rw [Nat.zero_add, List.nil_append] at ho
    obtain ⟨A', c', e', _⟩ := own_form ho (by omega)
    subst e'
    exact ⟨A', c', rfl, ho, HB.out⟩
/-- Marks with rows of the call's own. -/
structure Fresh (B : Nat) (m : Mk) (vi vh : Value) (w : World) : Prop where
  i : w.ownsRow B 42 2 vi m.ins.length (ic m.ins)
  h : w.ownsRow B 44 2 vh m.holds.length (hc m.holds)
  apart : ∀ g, vi.ownBlock = some g → vh.ownBlock ≠ some g
def GivesC (m : Mk) (w : World) (e : Ending) (w' : World) : Prop := ∃ A c B d, e = .returned (mv m A c B d) ∧ Fresh w.heap.size m (.slice A m.ins.length c) (.slice B m.holds.length d) w' ∧ Below w.heap.size w w'
theorem cop_ret {w wF : World} {R : Nat} {m : Mk} {A : Option Addr} {c : Nat} {B : Option Addr} {d : Nat} {act : Act} (ht : act.tmps.getD 2 undef = .pointer (some ⟨R, 0, none⟩)) (hd : act.defers = [])
    (hL : Lies R (mkC (.slice A m.ins.length c) (.slice B m.holds.length d) m.out) 25 wF) (hF : Fresh w.heap.size m (.slice A m.ins.length c) (.slice B m.holds.length d) wF) (hB : Below w.heap.size w wF) : bodyPost Try.prog Try.f30 (GivesC m w) .ret act wF := by
  have c0 := hL.cell (j := 0) rfl
  have c1 := hL.cell (j := 1) rfl
  have c2 := hL.cell (j := 2) rfl
  refine bodyPost_ret (v := mv m A c B d) ?_ hd ⟨A, c, B, d, rfl, hF, hB⟩
  have ht2 : act.tmps[2]?.getD undef = .pointer (some ⟨R, 0, none⟩) := by simpa using ht
  simp [results, Try.results30, go_sem, ht2, c0, c1, c2]
theorem own_setM3 {w : World} {B n : Nat} {e : TypeId} {v : Value} {xs : List Value} (h : w.ownsRow B e 2 v n xs) {R : Nat} (hR : R < B) (a b : Value) (o : Int) : (setM3 w R a b o).ownsRow B e 2 v n xs := by
  have hp : v.ownBlock ≠ some R := fun e => by have := (h.lt _ e).1; omega
  exact own_set (own_set (own_set h ⟨R, 0, none⟩ hp _) ⟨R, 1, none⟩ hp _) ⟨R, 2, none⟩ hp _
set_option maxRecDepth 100000 in
set_option maxHeartbeats 4000000 in
theorem ckCopied (m : Mk) (A : Option Addr) (c : Nat) (B : Option Addr) (d : Nat) (w : World) (h : Has m A c B d w) (hl1 : m.ins.length ≤ 100000) (hl2 : m.holds.length ≤ 100000) : Calls Try.prog 30 #[mv m A c B d] w (GivesC m w) := by
  have HI := Lib.hid (fun w' (hb : Below w.heap.size w w') => clIn m.ins A c w' (h.ri.below hb) hl1)
  have HH := Lib.hid (fun w' (hb : Below w.heap.size w w') => clHo m.holds B d w' (h.rh.below hb) hl2)
  have T := Lib.hid ((SeAt.start w m A c B d).next (below_drewOf (Below.refl _ _)))
  clear h
  go_enter Try.func30, Try.ntmps30
  go_wp2_with fail
  go_region_with (first
    | (go_at_call 41; refine (HI.out _ T.out.below).mono ?_; rintro e w5 ⟨Ai, ci, rfl, oi, hb5⟩; (try have OH := Lib.hid (own_up OH.out hb5)); have OI := Lib.hid (own_base oi (lt_of_block T.out.res)); have T := Lib.hid (T.out.next hb5); have LI := Lib.hid oi.lt; obtain ⟨z0, z1, z2⟩ := T.out.ma.cells; obtain ⟨⟨r0, r1, r2⟩, f0, f1, f2⟩ := T.out.frees; clear oi hb5)
    | (go_at_call 42; refine (HH.out _ T.out.below).mono ?_; rintro e w5 ⟨Ah, ch, rfl, oh, hb5⟩; (try have OI := Lib.hid (own_up OI.out hb5)); have OH := Lib.hid (own_base oh (lt_of_block T.out.res)); have T := Lib.hid (T.out.next hb5); have LH := Lib.hid oh.lt; obtain ⟨z0, z1, z2⟩ := T.out.ma.cells; obtain ⟨⟨r0, r1, r2⟩, f0, f1, f2⟩ := T.out.frees; clear oh hb5))
  all_goals (
    go_wp2_with fail
    exact cop_ret rfl rfl (lies_setM3 T.out.res (.slice Ai m.ins.length ci) (.slice Ah m.holds.length ch) m.out)
      ⟨own_base (own_setM3 OI.out (by omega) _ _ _) (by omega), own_base (own_setM3 OH.out (by omega) _ _ _) (by omega), fun g h1 h2 => by have a := LI.out g h1; have b := LH.out g h2; omega⟩
      (below_setM3 T.out.below (by omega) _ _ _))
end Wm
end Go.Proofs.Ytciagbeamphihaa
