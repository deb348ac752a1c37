/- The reference of marks: a time, a time made one, what marks allow. -/
import Derived.Test.YtciagbeamphihaaMarkRow
import Derived.Test.YtciagbeamphihaaWide
namespace Go.Proofs.Ytciagbeamphihaa
open Go.RowKit
set_option linter.unusedVariables false
set_option maxRecDepth 8000
namespace Wm
theorem rfTime (t : Int) (w : World) : Calls Try.prog 25 #[.int .i64 t] w fun e w' => e = .returned (.bool (tOk t)) ∧ w' = w := by
  have hT := Lib.hid (tOk_iff t)
  obtain ⟨b, hb⟩ : ∃ b, b = tOk t := ⟨_, rfl⟩
  rw [← hb] at hT ⊢
  clear hb
  have hway : (t < 0 ∧ b = false) ∨ (¬ t < 0 ∧ 1099511627776 < t ∧ b = false) ∨ (¬ t < 0 ∧ ¬ 1099511627776 < t ∧ b = true) := by
    have h := hT.out
    cases b
    · simp at h ⊢; omega
    · simp at h ⊢; omega
  rcases hway with ⟨a1, rfl⟩ | ⟨a1, a2, rfl⟩ | ⟨a1, a2, rfl⟩
  all_goals (
    go_enter Try.func25, Try.ntmps25
    go_wp2_with fail
    go_ret
    refine ⟨?_, rfl⟩
    first | rfl | (simp; omega))
theorem rfClampM (t : Int) (w : World) : Calls Try.prog 38 #[.int .i64 t] w fun e w' => e = .returned (.int .i64 (clamp t)) ∧ w' = w := by
  have hway : (t < 0 ∧ clamp t = 0) ∨ (¬ t < 0 ∧ 1099511627776 < t ∧ clamp t = 1099511627776) ∨ (¬ t < 0 ∧ ¬ 1099511627776 < t ∧ clamp t = t) := by
    unfold clamp
    by_cases h : t < 0
    · left; exact ⟨h, if_pos h⟩
    · by_cases h2 : 1099511627776 < t
      · right; left; refine ⟨h, h2, ?_⟩; rw [if_neg h, if_pos h2]
      · right; right; refine ⟨h, h2, ?_⟩; rw [if_neg h, if_neg h2]
  rcases hway with ⟨a1, e⟩ | ⟨a1, a2, e⟩ | ⟨a1, a2, e⟩
  all_goals (
    rw [e]
    clear e
    go_enter Try.func38, Try.ntmps38
    go_wp2_with fail
    go_ret
    exact ⟨rfl, rfl⟩)
theorem fold_next {α : Type} (f : Int → α → Int) (a : Int) {xs : List α} {k : Nat} {x : α} (h : xs[k]? = some x) : (xs.take (k + 1)).foldl f a = f ((xs.take k).foldl f a) x := by
  rw [List.take_add_one, h, List.foldl_append]; rfl
/-- The block of a call: marks. -/
def MkAt (b : Nat) (m : Mk) (A : Option Addr) (c : Nat) (B : Option Addr) (d : Nat) (w : World) : Prop := Lies b (mkC (.slice A m.ins.length c) (.slice B m.holds.length d) m.out) 25 w
theorem MkAt.next {b : Nat} {m : Mk} {A : Option Addr} {c : Nat} {B : Option Addr} {d : Nat} {w w' : World} (h : MkAt b m A c B d w) (hb : Below w.heap.size w w') : MkAt b m A c B d w' := (hb.block _ (lt_of_block h)).trans h
theorem MkAt.cells {b : Nat} {m : Mk} {A : Option Addr} {c : Nat} {B : Option Addr} {d : Nat} {w : World} (h : MkAt b m A c B d w) :
    w.cell? ⟨b, 0, none⟩ = some (.slice A m.ins.length c) ∧ w.cell? ⟨b, 1, none⟩ = some (.slice B m.holds.length d) ∧ w.cell? ⟨b, 2, none⟩ = some (.int .i64 m.out) :=
  ⟨Lies.cell h (j := 0) rfl, Lies.cell h (j := 1) rfl, Lies.cell h (j := 2) rfl⟩
set_option maxRecDepth 100000 in
set_option maxHeartbeats 2000000 in
theorem rfAllows (m : Mk) (A : Option Addr) (c : Nat) (B : Option Addr) (d : Nat) (w : World) (h : Has m A c B d w) : Calls Try.prog 32 #[mv m A c B d] w (TellsI (allows m) w) := by
  have hl := h.len
  obtain ⟨ins, hs, out⟩ := m
  simp only at hl ⊢
  have H := Lib.hid h
  obtain ⟨al, hal⟩ : ∃ a, a = allows ⟨ins, hs, out⟩ := ⟨_, rfl⟩
  have HA := Lib.hid (show al = if hs.foldl loH (ins.foldl loI (-1)) < 0 then out else hs.foldl loH (ins.foldl loI (-1)) from hal)
  rw [← hal]
  have M0 := Lib.hid (show MkAt w.heap.size ⟨ins, hs, out⟩ A c B d (w.alloc (.cells (mkC (.slice A ins.length c) (.slice B hs.length d) out) 25)) from Lies.new w _ _)
  have HL := Lib.hid hl
  clear h hal hl
  go_enter Try.func32, Try.ntmps32
  go_wp2_with fail
  go_loopw [3, 11] (fun a i wr => ∃ k : Nat, i = .int .i64 k ∧ a = .int .i64 ((ins.take k).foldl loI (-1)) ∧ k ≤ ins.length ∧ Below w.heap.size w wr ∧ MkAt w.heap.size ⟨ins, hs, out⟩ A c B d wr) (fun _ i _ => ins.length - (intOf i).toNat)
  case atStart => exact ⟨0, rfl, rfl, Nat.zero_le _, al_below _ _, M0.out⟩
  case round =>
    obtain ⟨k, rfl, rfl, hk, hb, hM⟩ := hrel
    have HB := Lib.hid hb
    have HM := Lib.hid hM
    have hlen := HL.out.1
    obtain ⟨y, hy⟩ : ∃ y, y = (ins.take k).foldl loI (-1) := ⟨_, rfl⟩
    rw [← hy]
    have HY := Lib.hid hy
    clear hb hM hy
    by_cases hlt : k < ins.length
    · obtain ⟨x, hx⟩ : ∃ x, ins[k]? = some x := ⟨_, List.getElem?_eq_getElem hlt⟩
      obtain ⟨b, off, rfl, c0, c1⟩ := row_in (H.out.ri.below HB.out) hx
      have HN := Lib.hid (show (ins.take (k + 1)).foldl loI (-1) = loI y x from by rw [fold_next loI (-1) hx, HY.out])
      obtain ⟨mark, idle⟩ := x
      simp only at c0 c1 HN
      clear hx
      have hway : (idle = true ∧ loI y ⟨mark, idle⟩ = y) ∨ (idle = false ∧ y < 0 ∧ loI y ⟨mark, idle⟩ = mark) ∨ (idle = false ∧ ¬ y < 0 ∧ mark < y ∧ loI y ⟨mark, idle⟩ = mark) ∨ (idle = false ∧ ¬ y < 0 ∧ ¬ mark < y ∧ loI y ⟨mark, idle⟩ = y) := by
        unfold loI
        simp only
        cases idle
        · by_cases h1 : y < 0
          · right; left; exact ⟨rfl, h1, if_pos ⟨rfl, .inl h1⟩⟩
          · by_cases h2 : mark < y
            · right; right; left; exact ⟨rfl, h1, h2, if_pos ⟨rfl, .inr h2⟩⟩
            · right; right; right; exact ⟨rfl, h1, h2, if_neg (fun h => by omega)⟩
        · left; exact ⟨rfl, if_neg (fun h => by cases h.1)⟩
      rcases hway with ⟨rfl, e⟩ | ⟨rfl, a1, e⟩ | ⟨rfl, a1, a2, e⟩ | ⟨rfl, a1, a2, e⟩
      all_goals (
        have HE := Lib.hid (HN.out.trans e)
        clear e
        go_wp2_with fail
        go_roundw
        case rel => exact ⟨k + 1, by go_num, by rw [HE.out], by omega, below_next HB.out (al_below _ _), HM.out.next (al_below _ _)⟩
        case measure => simp [intOf]; omega)
    · have hke : ins.take k = ins := List.take_of_length_le (by omega)
      rw [hke] at HY
      obtain ⟨z0, z1, z2⟩ := HM.out.cells
      simp only at z0 z1 z2
      have hlen2 := HL.out.2
      obtain ⟨we, hwe⟩ : ∃ we, we = wr := ⟨_, rfl⟩
      subst hwe
      clear hke
      go_wp2_with fail
      go_loopw [3, 34] (fun a i wr => ∃ k : Nat, i = .int .i64 k ∧ a = .int .i64 ((hs.take k).foldl loH y) ∧ k ≤ hs.length ∧ Below we.heap.size we wr) (fun _ i _ => hs.length - (intOf i).toNat)
      case atStart => exact ⟨0, rfl, rfl, Nat.zero_le _, Below.refl _ _⟩
      case round =>
        obtain ⟨j, rfl, rfl, hj, hb2⟩ := hrel
        have HB2 := Lib.hid (below_next HB.out hb2)
        have HM2 := Lib.hid (HM.out.next hb2)
        have HB3 := Lib.hid hb2
        obtain ⟨u, hu⟩ : ∃ u, u = (hs.take j).foldl loH y := ⟨_, rfl⟩
        rw [← hu]
        have HU := Lib.hid hu
        clear hb2 hu z0 z1 z2
        obtain ⟨z0, z1, z2⟩ := HM2.out.cells
        simp only at z0 z1 z2
        by_cases hlt2 : j < hs.length
        · obtain ⟨x, hx⟩ : ∃ x, hs[j]? = some x := ⟨_, List.getElem?_eq_getElem hlt2⟩
          obtain ⟨b, off, rfl, c0, c1⟩ := row_ho (H.out.rh.below HB2.out) hx
          have HN := Lib.hid (show (hs.take (j + 1)).foldl loH y = loH u x from by rw [fold_next loH y hx, HU.out])
          obtain ⟨no, t⟩ := x
          simp only at c0 c1 HN
          clear hx
          have hway : (u < 0 ∧ loH u ⟨no, t⟩ = t) ∨ (¬ u < 0 ∧ t < u ∧ loH u ⟨no, t⟩ = t) ∨ (¬ u < 0 ∧ ¬ t < u ∧ loH u ⟨no, t⟩ = u) := by
            unfold loH
            simp only
            by_cases h1 : u < 0
            · left; exact ⟨h1, if_pos (.inl h1)⟩
            · by_cases h2 : t < u
              · right; left; exact ⟨h1, h2, if_pos (.inr h2)⟩
              · right; right; exact ⟨h1, h2, if_neg (fun h => by omega)⟩
          rcases hway with ⟨a1, e⟩ | ⟨a1, a2, e⟩ | ⟨a1, a2, e⟩
          all_goals (
            have HE := Lib.hid (HN.out.trans e)
            clear e
            go_wp2_with fail
            go_roundw
            case rel => exact ⟨j + 1, by go_num, by rw [HE.out], by omega, below_next HB3.out (al_below _ _)⟩
            case measure => simp [intOf]; omega)
        · have hke : hs.take j = hs := List.take_of_length_le (by omega)
          have ha := HA.out
          rw [hke] at HU
          rw [← HY.out, ← HU.out] at ha
          have hway : (u < 0 ∧ al = out) ∨ (¬ u < 0 ∧ al = u) := by
            by_cases h1 : u < 0
            · left; exact ⟨h1, by rw [ha, if_pos h1]⟩
            · right; exact ⟨h1, by rw [ha, if_neg h1]⟩
          clear ha hke
          rcases hway with ⟨a1, e⟩ | ⟨a1, e⟩
          all_goals (
            have HE := Lib.hid e
            clear e
            go_wp2_with fail
            go_ret
            exact ⟨by rw [HE.out]; rfl, HB2.out⟩)
end Wm
end Go.Proofs.Ytciagbeamphihaa
