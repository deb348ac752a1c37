/- Like of the reference, where both marks are the same. -/
import Derived.Test.YtciagbeamphihaaMarkRefA
import Derived.Laws.StructEq
namespace Go.Proofs.Ytciagbeamphihaa
open Go.RowKit
set_option linter.unusedVariables false
set_option maxRecDepth 8000
namespace Wm
theorem fields_in : Try.prog.underlying 42 = some (.struct (Try.prog.fieldsOf 42)) := by kernel_rfl
theorem stood_in : Try.prog.stoodInHeld 42 = false := by kernel_rfl
theorem fields_ho : Try.prog.underlying 44 = some (.struct (Try.prog.fieldsOf 44)) := by kernel_rfl
theorem stood_ho : Try.prog.stoodInHeld 44 = false := by kernel_rfl
theorem run_sameIn (x : In) (w : World) : (binOp .neq 42 (inV x) (inV x)).run Try.prog w = .ok (.bool false) w := by
  have h1 := Try.underlying4
  have h2 := Try.underlying2
  rw [run_neq_struct, show (10000 : Nat) = 9999 + 1 from rfl, run_equalIn_agg w _ _ _ _ fields_in stood_in]
  simp [Program.fieldsOf, Try.underlying42, Op.eqFields, part, isAgg, run_underlying h1, run_underlying h2, run_equalIn_bool w 9998 _ _ _ h1, run_equalIn_int w 9998 _ .i64 .i64 _ _ h2]
theorem run_sameHo (x : Ho) (w : World) : (binOp .neq 44 (hoV x) (hoV x)).run Try.prog w = .ok (.bool false) w := by
  have h1 := Try.underlying3
  have h2 := Try.underlying2
  rw [run_neq_struct, show (10000 : Nat) = 9999 + 1 from rfl, run_equalIn_agg w _ _ _ _ fields_ho stood_ho]
  simp [Program.fieldsOf, Try.underlying44, Op.eqFields, part, isAgg, run_underlying h1, run_underlying h2, run_equalIn_int w 9998 _ .i64 .i64 _ _ h1, run_equalIn_int w 9998 _ .i64 .i64 _ _ h2]
/-- Two marks' blocks. -/
structure TwoM (w0 : World) (m : Mk) (A : Option Addr) (c : Nat) (B : Option Addr) (d : Nat) (A' : Option Addr) (c' : Nat) (B' : Option Addr) (d' : Nat) (w : World) : Prop where
  a : MkAt w0.heap.size m A c B d w
  b : MkAt (w0.heap.size + 1) m A' c' B' d' w
  below : Below w0.heap.size w0 w
theorem TwoM.next {w0 : World} {m : Mk} {A : Option Addr} {c : Nat} {B : Option Addr} {d : Nat} {A' : Option Addr} {c' : Nat} {B' : Option Addr} {d' : Nat} {w w' : World} (h : TwoM w0 m A c B d A' c' B' d' w) (hb : Below w.heap.size w w') :
    TwoM w0 m A c B d A' c' B' d' w' := ⟨h.a.next hb, h.b.next hb, below_next h.below hb⟩
set_option maxRecDepth 100000 in
set_option maxHeartbeats 2000000 in
theorem rfLikeM (m : Mk) (A : Option Addr) (c : Nat) (B : Option Addr) (d : Nat) (A' : Option Addr) (c' : Nat) (B' : Option Addr) (d' : Nat) (w : World) (h : Has m A c B d w) (h' : Has m A' c' B' d' w) :
    Calls Try.prog 12 #[mv m A c B d, mv m A' c' B' d'] w (TellsB true w) := by
  have hl := h.len
  obtain ⟨ins, hs, out⟩ := m
  simp only at hl ⊢
  have H := Lib.hid h
  have H' := Lib.hid h'
  have M0 := Lib.hid (show TwoM w ⟨ins, hs, out⟩ A c B d A' c' B' d' ((w.alloc (.cells (mkC (.slice A ins.length c) (.slice B hs.length d) out) 25)).alloc (.cells (mkC (.slice A' ins.length c') (.slice B' hs.length d') out) 25)) from
    ⟨(Lies.new w _ _).al, by have h := Lies.new (w.alloc (.cells (mkC (.slice A ins.length c) (.slice B hs.length d) out) 25)) (mkC (.slice A' ins.length c') (.slice B' hs.length d') out) 25; rw [World.size_alloc] at h; exact h, below_al (al_below _ _)⟩)
  have HL := Lib.hid hl
  clear h h' hl
  go_enter Try.func12, Try.ntmps12
  go_wp2_with fail
  go_loopw [33] (fun i wr => ∃ k : Nat, i = .int .i64 k ∧ k ≤ ins.length ∧ TwoM w ⟨ins, hs, out⟩ A c B d A' c' B' d' wr) (fun i _ => ins.length - (intOf i).toNat)
  case atStart => exact ⟨0, rfl, Nat.zero_le _, M0.out⟩
  case round =>
    obtain ⟨k, rfl, hk, hM⟩ := hrel
    have HM := Lib.hid hM
    obtain ⟨x0, x1, x2⟩ := hM.a.cells
    obtain ⟨y0, y1, y2⟩ := hM.b.cells
    simp only at x0 x1 x2 y0 y1 y2
    have hlen := HL.out.1
    clear hM
    by_cases hlt : k < ins.length
    · obtain ⟨x, hx⟩ : ∃ x, ins[k]? = some x := ⟨_, List.getElem?_eq_getElem hlt⟩
      obtain ⟨b, off, rfl, c0, c1⟩ := row_in (H.out.ri.below HM.out.below) hx
      obtain ⟨b', off', rfl, d0, d1⟩ := row_in (H'.out.ri.below HM.out.below) hx
      have he : ∀ w : World, (binOp .neq 42 (inV x) (inV x)).run Try.prog w = .ok (.bool false) w := fun w => run_sameIn x w
      clear hx
      go_wp2_with fail
      go_quiet (fail)
      go_wp2_with fail
      go_roundw
      case rel => exact ⟨k + 1, by go_num, by omega, HM.out.next (below_drewN (Below.refl _ _))⟩
      case measure => simp [intOf]; omega
    · have hge : ins.length ≤ k := by omega
      have hlen2 := HL.out.2
      obtain ⟨we, hwe⟩ : ∃ we, we = wr := ⟨_, rfl⟩
      subst hwe
      go_wp2_with fail
      go_loopw [51] (fun i wr => ∃ j : Nat, i = .int .i64 j ∧ j ≤ hs.length ∧ TwoM w ⟨ins, hs, out⟩ A c B d A' c' B' d' wr) (fun i _ => hs.length - (intOf i).toNat)
      case atStart => exact ⟨0, rfl, Nat.zero_le _, HM.out⟩
      case round =>
        obtain ⟨j, rfl, hj, hN⟩ := hrel
        have HN := Lib.hid hN
        clear x0 x1 x2 y0 y1 y2
        obtain ⟨x0, x1, x2⟩ := hN.a.cells
        obtain ⟨y0, y1, y2⟩ := hN.b.cells
        simp only at x0 x1 x2 y0 y1 y2
        clear hN
        by_cases hlt2 : j < hs.length
        · obtain ⟨x, hx⟩ : ∃ x, hs[j]? = some x := ⟨_, List.getElem?_eq_getElem hlt2⟩
          obtain ⟨b, off, rfl, c0, c1⟩ := row_ho (H.out.rh.below HN.out.below) hx
          obtain ⟨b', off', rfl, d0, d1⟩ := row_ho (H'.out.rh.below HN.out.below) hx
          have he : ∀ w : World, (binOp .neq 44 (hoV x) (hoV x)).run Try.prog w = .ok (.bool false) w := fun w => run_sameHo x w
          clear hx
          go_wp2_with fail
          go_quiet (fail)
          go_wp2_with fail
          go_roundw
          case rel => exact ⟨j + 1, by go_num, by omega, HN.out.next (below_drewN (Below.refl _ _))⟩
          case measure => simp [intOf]; omega
        · have hge2 : hs.length ≤ j := by omega
          go_wp2_with fail
          go_ret
          exact ⟨rfl, HN.out.below⟩
end Wm
end Go.Proofs.Ytciagbeamphihaa
