/- Contract of All. -/
import Derived.Test.YtgmmgmhogacocaaFoldJoin
import Derived.Deep.RegionWith
namespace Go.Proofs.Ytgmmgmhogacocaa
open Go.RowKit
open Acm
set_option linter.unusedVariables false
abbrev AT : TypeId := 25
/-- Behind j values. -/
structure AllAt (w : World) (k : Int) (zs : List Int) (i : Value) (wr : World) : Prop where
  at_ : ∃ j : Nat, i = .int .i64 j ∧ j ≤ zs.length ∧ Lies (w.heap.size + 1) (acC (all k (zs.take j))) 25 wr
  out : Lies w.heap.size (acC zero) 25 wr
  below : Below w.heap.size w wr
theorem fa_ret {w wF : World} {R : Nat} {x : Ac} {act : Act} (ht : act.tmps.getD 4 undef = .pointer (some ⟨R, 0, none⟩)) (hd : act.defers = []) (hL : Lies R (acC x) 25 wF) (hB : Below w.heap.size w wF) :
    bodyPost Try.prog Try.f10 (GivesAc x w) .ret act wF := by
  have c0 := hL.cell (j := 0) rfl
  have c1 := hL.cell (j := 1) rfl
  have c2 := hL.cell (j := 2) rfl
  refine bodyPost_ret (v := acV x) ?_ hd ⟨rfl, hB⟩
  have ht2 : act.tmps[4]?.getD undef = .pointer (some ⟨R, 0, none⟩) := by simpa using ht
  simp [results, Try.results10, go_sem, ht2, c0, c1, c2]
theorem foldAll (k : Int) (A : Option Addr) (c : Nat) (zs : List Int) (w : World) (hr : Row w A (zs.map (Value.int .i64))) (hn : zs.length ≤ 9223372036854775807) :
    Calls Try.prog 10 #[.int .i64 k, .slice A zs.length c] w (GivesAc (all k zs) w) := by
  have S0 := Lib.hid (show AllAt w k zs (.int .i64 (0 : Nat)) ((w.alloc (.cells (acC zero) 25)).alloc (.cells (acC zero) 25)) from
    ⟨⟨0, rfl, Nat.zero_le _, by rw [show all k (zs.take 0) = zero from rfl]; simpa only [World.size_alloc] using Lies.new (w.alloc (.cells (acC zero) 25)) (acC zero) 25⟩, (Lies.new _ _ _).al, below_al (below_al (Below.refl _ _))⟩)
  go_enter Try.func10, Try.ntmps10
  go_wp2_with fail
  go_loopw [10] (fun i wr => AllAt w k zs i wr) (fun i _ => zs.length - (intOf i).toNat)
  case atStart => exact S0.out
  case round =>
    obtain ⟨⟨j, rfl, hj, hL⟩, hO, hB⟩ := hrel
    have HL := Lib.hid hL; have HO := Lib.hid hO; have HB := Lib.hid hB
    clear hL hO hB S0
    by_cases hlt : j < zs.length
    · obtain ⟨x, b, off, rfl, hx, hc⟩ := (hr.below HB.out).ints hlt
      have HS := Lib.hid (all_snoc (k := k) hx)
      clear hx
      obtain ⟨s, hs⟩ : ∃ s, s = all k (zs.take j) := ⟨_, rfl⟩
      rw [← hs] at HS HL
      have HE := Lib.hid hs
      clear hs
      have c0 := HL.out.cell (j := 0) rfl; have c1 := HL.out.cell (j := 1) rfl; have c2 := HL.out.cell (j := 2) rfl
      have f0 := HL.out.free 0; have f1 := HL.out.free 1; have f2 := HL.out.free 2
      go_wp2_with fail
      have LD : Hid (Lies (w.heap.size + 1) (acC s) 25 wr.drew) := Lib.hid HL.out.drew
      have OD : Hid (Lies w.heap.size (acC zero) 25 wr.drew) := Lib.hid HO.out.drew
      have BD : Hid (Below w.heap.size w wr.drew) := Lib.hid (below_drewOf HB.out)
      go_region_with (first | (go_at_call 13; refine (foldOne _ _ _).mono ?_; rintro e w5 ⟨rfl, hb5⟩; have L5 := Lib.hid (LD.out.below hb5); have O5 := Lib.hid (OD.out.below hb5); have B5 := Lib.hid (BD.out.trans (hb5.mono BD.out.size)); have d0 := L5.out.cell (j := 0) rfl; have d1 := L5.out.cell (j := 1) rfl; have d2 := L5.out.cell (j := 2) rfl; clear hb5) | (go_at_call 16; refine (foldJoin _ _ _ _).mono ?_; rintro e w6 ⟨rfl, hb6⟩; have L6 := Lib.hid (L5.out.below hb6); have O6 := Lib.hid (O5.out.below hb6); have B6 := Lib.hid (B5.out.trans (hb6.mono B5.out.size)); have e0 := L6.out.cell (j := 0) rfl; have e1 := L6.out.cell (j := 1) rfl; have e2 := L6.out.cell (j := 2) rfl; have g0 := L6.out.free 0; have g1 := L6.out.free 1; have g2 := L6.out.free 2; clear hb6))
      all_goals
        go_wp2_with fail
        trace_state
        go_roundw
        case rel => exact ⟨⟨j + 1, by go_num, by omega, by rw [HS.out]; exact L6.out.set3 _ _ _⟩, (O6.out.other (by omega) _ _).other (by omega) _ _ |>.other (by omega) _ _, below_set3 B6.out (by omega) _ _ _⟩
        case measure => simp [intOf]; omega
    · obtain rfl : zs.length = j := by omega
      rw [List.take_length] at HL
      have c0 := HL.out.cell (j := 0) rfl; have c1 := HL.out.cell (j := 1) rfl; have c2 := HL.out.cell (j := 2) rfl
      have f0 := HO.out.free 0; have f1 := HO.out.free 1; have f2 := HO.out.free 2
      have d0 := HO.out.cell (j := 0) rfl; have d1 := HO.out.cell (j := 1) rfl; have d2 := HO.out.cell (j := 2) rfl
      go_wp2_with fail
      exact fa_ret (R := w.heap.size) rfl rfl (HO.out.set3 _ _ _) (below_set3 HB.out (Nat.le_refl _) _ _ _)
end Go.Proofs.Ytgmmgmhogacocaa
