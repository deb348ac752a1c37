/- The map of points; put. -/
import Derived.Test.YtgpcbiballdioaaDoorRingOwnR
import Derived.Maps.OwnSet
import Derived.Maps.Keyed
namespace Go.Proofs.YtgpcbiballdioaaDoor
open Go.RowKit Go.ChangeShapes Go.WideShapes Go.MapKept Go.ChangeMaps Go.WideElems Go.Maps
set_option linter.unusedVariables false
set_option maxRecDepth 8000
namespace Rg
theorem ptKey : Keyed Tryd.prog 45 := int_keyed (q := .u32) Tryd.underlying45
theorem wf32 {h : Nat} (hh : h < 4294967296) : (Lit.int .u32 h).wf = true := by
  simp only [Lit.wf, IntKind.min, IntKind.max, IntKind.bits, IntKind.signed, Bool.and_eq_true]
  simp
  omega
theorem wf64 {x : Int} (h0 : 0 ≤ x) (h1 : x ≤ 9223372036854775807) : (Lit.int .i64 x).wf = true := by
  simp only [Lit.wf, IntKind.min, IntKind.max, IntKind.bits, IntKind.signed, Bool.and_eq_true]
  simp
  omega
theorem ptMk {h : Nat} (hh : h < 4294967296) : keyOf Tryd.prog 45 (.int .u32 h) = some (.int .u32 h) := keyOf_int_mk (q := .u32) Tryd.underlying45 (wf32 hh)
/-- Block b is a map of at most nn points that reads as D. -/
def PMap (w : World) (b nn : Nat) (D : DataW Unit) : Prop := w.ownsMap Tryd.prog 45 (plainElem Tryd.prog 3) b nn D
/-- D has the worker m h at the point h; none where that is 0. -/
structure Ptm (D : DataW Unit) (m : Nat → Int) : Prop where
  no : ∀ h, h < 4294967296 → m h = 0 → has D (.int .u32 h) = false
  yes : ∀ h, h < 4294967296 → m h ≠ 0 → ∀ zd, D.atKey (.int .u32 h) zd = .lit (.int .i64 (m h))
def HasP (w : World) (b nn : Nat) (m : Nat → Int) : Prop := ∃ D, PMap w b nn D ∧ Ptm D m
theorem zero3 (w : World) : (zeroValue 3).run Tryd.prog w = .ok (.int .i64 0) w := by kernel_rfl
def upd (m : Nat → Int) (h : Nat) (x : Int) : Nat → Int := fun k => if k = h ∧ (m h = 0 ∨ x < m h) then x else m k
section
variable {w : World} {b nn h : Nat} {m : Nat → Int}
theorem HasP.keep {w' : World} (H : HasP w b nn m) (hb : Below w.heap.size w w') : HasP w' b nn m := by
  obtain ⟨D, h1, h2⟩ := H
  obtain ⟨es, clock, g1, g2⟩ := h1
  exact ⟨D, ⟨es, clock, (hb.block b (Array.getElem?_eq_some_iff.1 g1).1).trans g1, g2⟩, h2⟩
theorem HasP.lt (H : HasP w b nn m) : b < w.heap.size := by
  obtain ⟨D, h1, _⟩ := H
  exact World.ownsMap.lt h1
theorem HasP.mk (w : World) : HasP (w.alloc (.map #[] 0)) w.heap.size 0 (fun _ => 0) :=
  ⟨.map [], World.ownsMap_made w _ _ _, ⟨fun _ _ _ => rfl, fun _ _ h => absurd rfl h⟩⟩
theorem HasP.look_no (H : HasP w b nn m) (hh : h < 4294967296) (h0 : m h = 0) : (Instr.lookup 41 (.map (some b)) (.int .u32 h) true).run Tryd.prog w = .ok (.tuple #[.int .i64 0, .bool false]) w := by
  obtain ⟨D, h1, h2⟩ := H
  obtain ⟨v, ps, hrun, hv⟩ := World.ownsMap.look_ok h1 ptKey (t := 41) (e := 3) Tryd.underlying41 (zero3 w) (zd := .lit (.int .i64 0)) (zp := []) (plainElem_int Tryd.underlying3 (by decide)) (ptMk hh)
  have hn := h2.no h hh h0
  rw [atKey_of_not_has hn] at hv
  obtain ⟨c, rfl, hc, _⟩ := plainElem_int_inv Tryd.underlying3 hv
  have hc2 : (0 : Int) = c := by
    have := congrArg Prod.fst hc
    injection this with this
    injection this
  subst hc2
  rw [hrun, hn]
theorem HasP.look_yes (H : HasP w b nn m) (hh : h < 4294967296) (h0 : m h ≠ 0) : (Instr.lookup 41 (.map (some b)) (.int .u32 h) true).run Tryd.prog w = .ok (.tuple #[.int .i64 (m h), .bool true]) w := by
  obtain ⟨D, h1, h2⟩ := H
  obtain ⟨v, ps, hrun, hv⟩ := World.ownsMap.look_ok h1 ptKey (t := 41) (e := 3) Tryd.underlying41 (zero3 w) (zd := .lit (.int .i64 0)) (zp := []) (plainElem_int Tryd.underlying3 (by decide)) (ptMk hh)
  have hn := h2.yes h hh h0
  rw [hn] at hv
  obtain ⟨c, rfl, hc, _⟩ := plainElem_int_inv Tryd.underlying3 hv
  have hc2 : m h = c := by
    have := congrArg Prod.fst hc
    injection this with this
    injection this
  subst hc2
  rw [hrun, has_true_of_atKey hn]
theorem HasP.look_one (H : HasP w b nn m) (hh : h < 4294967296) (h0 : m h ≠ 0) : (Instr.lookup 41 (.map (some b)) (.int .u32 h) false).run Tryd.prog w = .ok (.int .i64 (m h)) w := by
  obtain ⟨D, h1, h2⟩ := H
  obtain ⟨c, hrun, hat, _⟩ := World.ownsMap.lookup_int h1 ptKey (t := 41) (e := 3) Tryd.underlying41 Tryd.underlying3 (zero3 w) (ptMk hh)
  rw [h2.yes h hh h0] at hat
  have hc2 : m h = c := by
    injection hat with hat
    injection hat
  subst hc2
  exact hrun
theorem HasP.update (H : HasP w b nn m) (hn : nn < 1000) (hh : h < 4294967296) {x : Int} (h0 : 0 < x) (h1 : x ≤ 99) (hc : m h = 0 ∨ x < m h) :
    ∃ w', (Instr.mapUpdate 41 (.map (some b)) (.int .u32 h) (.int .i64 x)).run Tryd.prog w = .ok () w' ∧ HasP w' b (nn + 1) (upd m h x) ∧ w.grownBy w' (some b) := by
  obtain ⟨D, g1, g2⟩ := H
  obtain ⟨w', r1, r2, r3⟩ := World.ownsMap.update g1 ptKey (t := 41) (e := 3) Tryd.underlying41 (by unfold maxLen; omega) (ptMk hh) (val := .int .i64 x) (plainElem_int Tryd.underlying3 (wf64 (by omega) (by omega)))
  have hD := World.ownsMap.isMap g1
  refine ⟨w', r1, ⟨_, r2, ⟨fun k hk k0 => ?_, fun k hk k0 zd => ?_⟩⟩, r3⟩
  · unfold upd at k0
    by_cases e : k = h
    · rw [if_pos ⟨e, hc⟩] at k0; omega
    · rw [if_neg (fun q => e q.1)] at k0
      rw [has_put_other (by intro q; injection q with _ q; omega)]
      exact g2.no k hk k0
  · unfold upd at k0 ⊢
    by_cases e : k = h
    · subst e
      rw [if_pos ⟨rfl, hc⟩]
      exact atKey_put_same hD (ptKey.key (ptMk hh)) _ _
    · rw [if_neg (fun q => e q.1)] at k0 ⊢
      rw [atKey_put_other (by intro q; injection q with _ q; omega)]
      exact g2.yes k hk k0 zd
end
theorem upd_not {m : Nat → Int} {h : Nat} {x : Int} (hc : ¬ (m h = 0 ∨ x < m h)) : upd m h x = m := by
  funext k
  unfold upd
  rw [if_neg (fun q => hc q.2)]
/-- One map turned, and no more. -/
def GivesM (b nn : Nat) (m : Nat → Int) (w : World) (e : Ending) (w' : World) : Prop := e = .returned (.tuple #[]) ∧ HasP w' b nn m ∧ w.grownBy w' (some b)
theorem HasP.more {w : World} {b nn : Nat} {m : Nat → Int} (H : HasP w b nn m) : HasP w b (nn + 1) m := by
  obtain ⟨D, h1, h2⟩ := H
  exact ⟨D, World.ownsMap.mono h1 (by omega), h2⟩
set_option maxRecDepth 100000 in
set_option maxHeartbeats 1000000 in
theorem ckPut (b nn h : Nat) (m : Nat → Int) (x : Int) (w : World) (H : HasP w b nn m) (hn : nn < 1000) (hh : h < 4294967296) (h0 : 0 < x) (h1 : x ≤ 99) :
    Calls Tryd.prog 21 #[.map (some b), .int .u32 h, .int .i64 x] w (GivesM b (nn + 1) (upd m h x) w) := by
  obtain ⟨y, hy⟩ : ∃ y, m h = y := ⟨_, rfl⟩
  by_cases hy0 : y = 0
  · have L := H.look_no hh (hy.trans hy0)
    obtain ⟨w', r1, r2, r3⟩ := H.update hn hh h0 h1 (.inl (hy.trans hy0))
    have HR := Lib.hid (show GivesM b (nn + 1) (upd m h x) w (.returned (.tuple #[])) w' from ⟨rfl, r2, r3⟩)
    clear hy hy0 H r2 r3
    go_enter Tryd.func21, Tryd.ntmps21
    go_wp2_with fail
    go_end0
    exact HR.out
  · have L := H.look_yes hh (show m h ≠ 0 by rw [hy]; exact hy0)
    by_cases hxy : x < y
    · obtain ⟨w', r1, r2, r3⟩ := H.update hn hh h0 h1 (.inr (show x < m h by rw [hy]; exact hxy))
      have HR := Lib.hid (show GivesM b (nn + 1) (upd m h x) w (.returned (.tuple #[])) w' from ⟨rfl, r2, r3⟩)
      rw [hy] at L
      clear hy H r2 r3
      go_enter Tryd.func21, Tryd.ntmps21
      go_wp2_with fail
      go_end0
      exact HR.out
    · have hne : ¬ (m h = 0 ∨ x < m h) := by rw [hy]; omega
      have HR := Lib.hid (show GivesM b (nn + 1) (upd m h x) w (.returned (.tuple #[])) w from ⟨rfl, by rw [upd_not hne]; exact H.more, World.grownBy.refl _ _⟩)
      rw [hy] at L
      clear hy H hne
      go_enter Tryd.func21, Tryd.ntmps21
      go_wp2_with fail
      go_end0
      exact HR.out
end Rg
end Go.Proofs.YtgpcbiballdioaaDoor
