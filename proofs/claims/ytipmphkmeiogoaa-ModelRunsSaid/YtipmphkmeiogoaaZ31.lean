/- FoldAllR, put together. -/
import Derived.Test.YtipmphkmeiogoaaZ30
/- Contract of the reference's All. -/
namespace Go.Proofs.Ytipmphkmeiogoaa
open Go.RowKit
open Acm
set_option linter.unusedVariables false
set_option maxRecDepth 8000
theorem Lies.s0 {b : Nat} {T : TypeId} {w : World} {u0 u1 u2 : Value} (h : Lies b #[u0, u1, u2] T w) (v : Value) : Lies b #[v, u1, u2] T (w.setCell ⟨b, 0, none⟩ v) := by simpa using h.set 0 v
theorem Lies.s1 {b : Nat} {T : TypeId} {w : World} {u0 u1 u2 : Value} (h : Lies b #[u0, u1, u2] T w) (v : Value) : Lies b #[u0, v, u2] T (w.setCell ⟨b, 1, none⟩ v) := by simpa using h.set 1 v
theorem Lies.s2 {b : Nat} {T : TypeId} {w : World} {u0 u1 u2 : Value} (h : Lies b #[u0, u1, u2] T w) (v : Value) : Lies b #[u0, u1, v] T (w.setCell ⟨b, 2, none⟩ v) := by simpa using h.set 2 v
theorem ra_ret {w wF : World} {R : Nat} {x : Ac} {act : Act} (ht : act.tmps.getD 4 undef = .pointer (some ⟨R, 0, none⟩)) (hd : act.defers = []) (hL : Lies R (acC x) 77 wF) (hB : Below w.heap.size w wF) :
    bodyPost Try.prog Try.f34 (GivesAc x w) .ret act wF := by
  have c0 := hL.cell (j := 0) rfl
  have c1 := hL.cell (j := 1) rfl
  have c2 := hL.cell (j := 2) rfl
  refine bodyPost_ret (v := acV x) ?_ hd ⟨rfl, hB⟩
  have ht2 : act.tmps[4]?.getD undef = .pointer (some ⟨R, 0, none⟩) := by simpa using ht
  simp [results, Try.results34, go_sem, ht2, c0, c1, c2]
theorem rfAll_bad {k : Int} (h : ¬ (1 ≤ k ∧ k ≤ 5)) (v : Value) (w : World) : Calls Try.prog 34 #[.int .i64 k, v] w (GivesAc zero w) := by
  by_cases h1 : k < 1
  · clear h
    go_enter Try.func34, Try.ntmps34
    go_wp2_with fail
    exact bodyPost_ret (v := acV zero) (by simp [results, Try.results34, go_sem]) rfl ⟨rfl, below_al (below_al (Below.refl _ _))⟩
  · have h5 : 5 < k := by omega
    have h1' : decide (k < 1) = false := decide_eq_false h1
    clear h h1
    go_enter Try.func34, Try.ntmps34
    go_wp2_with fail
    exact bodyPost_ret (v := acV zero) (by simp [results, Try.results34, go_sem]) rfl ⟨rfl, below_al (below_al (Below.refl _ _))⟩
theorem rfAll_1 (A : Option Addr) (c : Nat) (zs : List Int) (w : World) (hr : Row w A (zs.map (Value.int .i64))) (hn : zs.length ≤ 9223372036854775807) (hw : ∀ n ∈ zs, -9223372036854775808 ≤ n ∧ n ≤ 9223372036854775807) :
    Calls Try.prog 34 #[.int .i64 1, .slice A zs.length c] w (GivesAc (all 1 zs) w) := by
  have S0 := Lib.hid (show AllAt w 1 zs (.int .i64 (0 : Nat)) ((w.alloc (.cells (acC zero) 77)).alloc (.cells (acC zero) 77)) from
    ⟨⟨0, rfl, Nat.zero_le _, by rw [show all 1 (zs.take 0) = zero from rfl]; simpa only [World.size_alloc] using Lies.new (w.alloc (.cells (acC zero) 77)) (acC zero) 77⟩, (Lies.new _ _ _).al, below_al (below_al (Below.refl _ _))⟩)
  have HW := Lib.hid hw
  clear hw
  go_enter Try.func34, Try.ntmps34
  go_wp2_with fail
  go_loopw [18] (fun i wr => AllAt w 1 zs i wr) (fun i _ => zs.length - (intOf i).toNat)
  case atStart => exact S0.out
  case round =>
    obtain ⟨⟨j, rfl, hj, hL⟩, hO, hB⟩ := hrel
    have HL := Lib.hid hL; have HO := Lib.hid hO; have HB := Lib.hid hB
    clear hL hO hB S0
    by_cases hlt : j < zs.length
    · obtain ⟨x, b, off, rfl, hx, hc⟩ := (hr.below HB.out).ints hlt
      have hx2 : Hid (zs.take (j + 1) = zs.take j ++ [x]) := Lib.hid (by rw [List.take_add_one, hx]; rfl)
      have hxw := HW.out x (List.mem_of_getElem? hx)
      have hl : Hid ((zs.take j).length ≤ 9223372036854775806) := Lib.hid (by rw [List.length_take]; omega)
      have hlj : Hid ((zs.take j).length = j) := Lib.hid (by rw [List.length_take]; omega)
      clear hx
      have HS := Lib.hid (hx2.out ▸ step_1 hl.out x)
      clear hx2 hl hlj
      obtain ⟨s, hs⟩ : ∃ s, s = all 1 (zs.take j) := ⟨_, rfl⟩
      rw [← hs] at HS HL 
      have HE := Lib.hid hs
      clear hs
      have c0 := HL.out.cell (j := 0) rfl; have c1 := HL.out.cell (j := 1) rfl; have c2 := HL.out.cell (j := 2) rfl
      have f0 := HL.out.free 0; have f1 := HL.out.free 1; have f2 := HL.out.free 2
      go_wp2_with fail
      go_roundw
      case rel => exact ⟨⟨j + 1, by go_num, by omega, by rw [HS.out]; exact HL.out.s0 _⟩, HO.out.other (by omega) _ _, HB.out.setCell (p := ⟨w.heap.size + 1, 0, none⟩) (Nat.le_succ _) _⟩
      case measure => simp [intOf]; omega
    · obtain rfl : zs.length = j := by omega
      rw [List.take_length] at HL
      have c0 := HL.out.cell (j := 0) rfl; have c1 := HL.out.cell (j := 1) rfl; have c2 := HL.out.cell (j := 2) rfl
      have f0 := HO.out.free 0; have f1 := HO.out.free 1; have f2 := HO.out.free 2
      have d0 := HO.out.cell (j := 0) rfl; have d1 := HO.out.cell (j := 1) rfl; have d2 := HO.out.cell (j := 2) rfl
      go_wp2_with fail
      exact ra_ret (R := w.heap.size) rfl rfl (HO.out.set3 _ _ _) (below_set3 HB.out (Nat.le_refl _) _ _ _)
theorem rfAll_2 (A : Option Addr) (c : Nat) (zs : List Int) (w : World) (hr : Row w A (zs.map (Value.int .i64))) (hn : zs.length ≤ 9223372036854775807) (hw : ∀ n ∈ zs, -9223372036854775808 ≤ n ∧ n ≤ 9223372036854775807) :
    Calls Try.prog 34 #[.int .i64 2, .slice A zs.length c] w (GivesAc (all 2 zs) w) := by
  have S0 := Lib.hid (show AllAt w 2 zs (.int .i64 (0 : Nat)) ((w.alloc (.cells (acC zero) 77)).alloc (.cells (acC zero) 77)) from
    ⟨⟨0, rfl, Nat.zero_le _, by rw [show all 2 (zs.take 0) = zero from rfl]; simpa only [World.size_alloc] using Lies.new (w.alloc (.cells (acC zero) 77)) (acC zero) 77⟩, (Lies.new _ _ _).al, below_al (below_al (Below.refl _ _))⟩)
  have HW := Lib.hid hw
  clear hw
  go_enter Try.func34, Try.ntmps34
  go_wp2_with fail
  go_loopw [18] (fun i wr => AllAt w 2 zs i wr) (fun i _ => zs.length - (intOf i).toNat)
  case atStart => exact S0.out
  case round =>
    obtain ⟨⟨j, rfl, hj, hL⟩, hO, hB⟩ := hrel
    have HL := Lib.hid hL; have HO := Lib.hid hO; have HB := Lib.hid hB
    clear hL hO hB S0
    by_cases hlt : j < zs.length
    · obtain ⟨x, b, off, rfl, hx, hc⟩ := (hr.below HB.out).ints hlt
      have hx2 : Hid (zs.take (j + 1) = zs.take j ++ [x]) := Lib.hid (by rw [List.take_add_one, hx]; rfl)
      have hxw := HW.out x (List.mem_of_getElem? hx)
      have hl : Hid ((zs.take j).length ≤ 9223372036854775806) := Lib.hid (by rw [List.length_take]; omega)
      have hlj : Hid ((zs.take j).length = j) := Lib.hid (by rw [List.length_take]; omega)
      clear hx
      have HS := Lib.hid (hx2.out ▸ step_2 hl.out x hxw.1 hxw.2)
      clear hx2 hl hlj
      obtain ⟨s, hs⟩ : ∃ s, s = all 2 (zs.take j) := ⟨_, rfl⟩
      rw [← hs] at HS HL 
      have HE := Lib.hid hs
      clear hs
      have c0 := HL.out.cell (j := 0) rfl; have c1 := HL.out.cell (j := 1) rfl; have c2 := HL.out.cell (j := 2) rfl
      have f0 := HL.out.free 0; have f1 := HL.out.free 1; have f2 := HL.out.free 2
      go_wp2_with fail
      go_roundw
      case rel => exact ⟨⟨j + 1, by go_num, by omega, by rw [HS.out]; exact (HL.out.s0 _).s1 _⟩, (HO.out.other (by omega) _ _).other (by omega) _ _, (HB.out.setCell (p := ⟨w.heap.size + 1, 0, none⟩) (Nat.le_succ _) _).setCell (p := ⟨w.heap.size + 1, 1, none⟩) (Nat.le_succ _) _⟩
      case measure => simp [intOf]; omega
    · obtain rfl : zs.length = j := by omega
      rw [List.take_length] at HL
      have c0 := HL.out.cell (j := 0) rfl; have c1 := HL.out.cell (j := 1) rfl; have c2 := HL.out.cell (j := 2) rfl
      have f0 := HO.out.free 0; have f1 := HO.out.free 1; have f2 := HO.out.free 2
      have d0 := HO.out.cell (j := 0) rfl; have d1 := HO.out.cell (j := 1) rfl; have d2 := HO.out.cell (j := 2) rfl
      go_wp2_with fail
      exact ra_ret (R := w.heap.size) rfl rfl (HO.out.set3 _ _ _) (below_set3 HB.out (Nat.le_refl _) _ _ _)
theorem rfAll_3 (A : Option Addr) (c : Nat) (zs : List Int) (w : World) (hr : Row w A (zs.map (Value.int .i64))) (hn : zs.length ≤ 9223372036854775807) (hw : ∀ n ∈ zs, -9223372036854775808 ≤ n ∧ n ≤ 9223372036854775807) :
    Calls Try.prog 34 #[.int .i64 3, .slice A zs.length c] w (GivesAc (all 3 zs) w) := by
  have S0 := Lib.hid (show AllAt w 3 zs (.int .i64 (0 : Nat)) ((w.alloc (.cells (acC zero) 77)).alloc (.cells (acC zero) 77)) from
    ⟨⟨0, rfl, Nat.zero_le _, by rw [show all 3 (zs.take 0) = zero from rfl]; simpa only [World.size_alloc] using Lies.new (w.alloc (.cells (acC zero) 77)) (acC zero) 77⟩, (Lies.new _ _ _).al, below_al (below_al (Below.refl _ _))⟩)
  have HW := Lib.hid hw
  clear hw
  go_enter Try.func34, Try.ntmps34
  go_wp2_with fail
  go_loopw [18] (fun i wr => AllAt w 3 zs i wr) (fun i _ => zs.length - (intOf i).toNat)
  case atStart => exact S0.out
  case round =>
    obtain ⟨⟨j, rfl, hj, hL⟩, hO, hB⟩ := hrel
    have HL := Lib.hid hL; have HO := Lib.hid hO; have HB := Lib.hid hB
    clear hL hO hB S0
    by_cases hlt : j < zs.length
    · obtain ⟨x, b, off, rfl, hx, hc⟩ := (hr.below HB.out).ints hlt
      have hx2 : Hid (zs.take (j + 1) = zs.take j ++ [x]) := Lib.hid (by rw [List.take_add_one, hx]; rfl)
      have hxw := HW.out x (List.mem_of_getElem? hx)
      have hl : Hid ((zs.take j).length ≤ 9223372036854775806) := Lib.hid (by rw [List.length_take]; omega)
      have hlj : Hid ((zs.take j).length = j) := Lib.hid (by rw [List.length_take]; omega)
      clear hx
      by_cases h0 : j = 0
      · have hi0 : ((j : Int) == 0) = true := eq_b (by omega)
        have H0 := Lib.hid h0
        clear h0
        have HS := Lib.hid (hx2.out ▸ step_3 hl.out x (.inl (by rw [hlj.out]; exact H0.out)))
        clear hx2 hl hlj
        obtain ⟨s, hs⟩ : ∃ s, s = all 3 (zs.take j) := ⟨_, rfl⟩
        rw [← hs] at HS HL 
        have HE := Lib.hid hs
        clear hs
        have c0 := HL.out.cell (j := 0) rfl; have c1 := HL.out.cell (j := 1) rfl; have c2 := HL.out.cell (j := 2) rfl
        have f0 := HL.out.free 0; have f1 := HL.out.free 1; have f2 := HL.out.free 2
        go_wp2_with fail
        go_roundw
        case rel => exact ⟨⟨j + 1, by go_num, by omega, by rw [HS.out]; exact (HL.out.s0 _).s1 _⟩, (HO.out.other (by omega) _ _).other (by omega) _ _, (HB.out.setCell (p := ⟨w.heap.size + 1, 0, none⟩) (Nat.le_succ _) _).setCell (p := ⟨w.heap.size + 1, 1, none⟩) (Nat.le_succ _) _⟩
        case measure => simp [intOf]; omega
      · have hi0 : ((j : Int) == 0) = false := ne_b (by omega)
        have H0 := Lib.hid h0
        clear h0
        by_cases hv : x < (all 3 (zs.take j)).a
        · have HS := Lib.hid (hx2.out ▸ step_3 hl.out x (.inr hv))
          clear hx2 hl hlj
          obtain ⟨s, hs⟩ : ∃ s, s = all 3 (zs.take j) := ⟨_, rfl⟩
          rw [← hs] at HS HL hv
          have HE := Lib.hid hs
          clear hs
          have c0 := HL.out.cell (j := 0) rfl; have c1 := HL.out.cell (j := 1) rfl; have c2 := HL.out.cell (j := 2) rfl
          have f0 := HL.out.free 0; have f1 := HL.out.free 1; have f2 := HL.out.free 2
          go_wp2_with fail
          go_roundw
          case rel => exact ⟨⟨j + 1, by go_num, by omega, by rw [HS.out]; exact (HL.out.s0 _).s1 _⟩, (HO.out.other (by omega) _ _).other (by omega) _ _, (HB.out.setCell (p := ⟨w.heap.size + 1, 0, none⟩) (Nat.le_succ _) _).setCell (p := ⟨w.heap.size + 1, 1, none⟩) (Nat.le_succ _) _⟩
          case measure => simp [intOf]; omega
        · have HS := Lib.hid (hx2.out ▸ step_3k hl.out x (by rw [hlj.out]; exact H0.out) hv)
          clear hx2 hl hlj
          obtain ⟨s, hs⟩ : ∃ s, s = all 3 (zs.take j) := ⟨_, rfl⟩
          rw [← hs] at HS HL hv
          have HE := Lib.hid hs
          clear hs
          have c0 := HL.out.cell (j := 0) rfl; have c1 := HL.out.cell (j := 1) rfl; have c2 := HL.out.cell (j := 2) rfl
          have f0 := HL.out.free 0; have f1 := HL.out.free 1; have f2 := HL.out.free 2
          have hv2 : decide (x < s.a) = false := decide_eq_false hv
          go_wp2_with fail
          go_roundw
          case rel => exact ⟨⟨j + 1, by go_num, by omega, by rw [HS.out]; exact HL.out.s0 _⟩, HO.out.other (by omega) _ _, HB.out.setCell (p := ⟨w.heap.size + 1, 0, none⟩) (Nat.le_succ _) _⟩
          case measure => simp [intOf]; omega
    · obtain rfl : zs.length = j := by omega
      rw [List.take_length] at HL
      have c0 := HL.out.cell (j := 0) rfl; have c1 := HL.out.cell (j := 1) rfl; have c2 := HL.out.cell (j := 2) rfl
      have f0 := HO.out.free 0; have f1 := HO.out.free 1; have f2 := HO.out.free 2
      have d0 := HO.out.cell (j := 0) rfl; have d1 := HO.out.cell (j := 1) rfl; have d2 := HO.out.cell (j := 2) rfl
      go_wp2_with fail
      exact ra_ret (R := w.heap.size) rfl rfl (HO.out.set3 _ _ _) (below_set3 HB.out (Nat.le_refl _) _ _ _)
theorem rfAll_4 (A : Option Addr) (c : Nat) (zs : List Int) (w : World) (hr : Row w A (zs.map (Value.int .i64))) (hn : zs.length ≤ 9223372036854775807) (hw : ∀ n ∈ zs, -9223372036854775808 ≤ n ∧ n ≤ 9223372036854775807) :
    Calls Try.prog 34 #[.int .i64 4, .slice A zs.length c] w (GivesAc (all 4 zs) w) := by
  have S0 := Lib.hid (show AllAt w 4 zs (.int .i64 (0 : Nat)) ((w.alloc (.cells (acC zero) 77)).alloc (.cells (acC zero) 77)) from
    ⟨⟨0, rfl, Nat.zero_le _, by rw [show all 4 (zs.take 0) = zero from rfl]; simpa only [World.size_alloc] using Lies.new (w.alloc (.cells (acC zero) 77)) (acC zero) 77⟩, (Lies.new _ _ _).al, below_al (below_al (Below.refl _ _))⟩)
  have HW := Lib.hid hw
  clear hw
  go_enter Try.func34, Try.ntmps34
  go_wp2_with fail
  go_loopw [18] (fun i wr => AllAt w 4 zs i wr) (fun i _ => zs.length - (intOf i).toNat)
  case atStart => exact S0.out
  case round =>
    obtain ⟨⟨j, rfl, hj, hL⟩, hO, hB⟩ := hrel
    have HL := Lib.hid hL; have HO := Lib.hid hO; have HB := Lib.hid hB
    clear hL hO hB S0
    by_cases hlt : j < zs.length
    · obtain ⟨x, b, off, rfl, hx, hc⟩ := (hr.below HB.out).ints hlt
      have hx2 : Hid (zs.take (j + 1) = zs.take j ++ [x]) := Lib.hid (by rw [List.take_add_one, hx]; rfl)
      have hxw := HW.out x (List.mem_of_getElem? hx)
      have hl : Hid ((zs.take j).length ≤ 9223372036854775806) := Lib.hid (by rw [List.length_take]; omega)
      have hlj : Hid ((zs.take j).length = j) := Lib.hid (by rw [List.length_take]; omega)
      clear hx
      by_cases h0 : j = 0
      · have hi0 : ((j : Int) == 0) = true := eq_b (by omega)
        have H0 := Lib.hid h0
        clear h0
        have HS := Lib.hid (hx2.out ▸ step_4 hl.out x (.inl (by rw [hlj.out]; exact H0.out)))
        clear hx2 hl hlj
        obtain ⟨s, hs⟩ : ∃ s, s = all 4 (zs.take j) := ⟨_, rfl⟩
        rw [← hs] at HS HL 
        have HE := Lib.hid hs
        clear hs
        have c0 := HL.out.cell (j := 0) rfl; have c1 := HL.out.cell (j := 1) rfl; have c2 := HL.out.cell (j := 2) rfl
        have f0 := HL.out.free 0; have f1 := HL.out.free 1; have f2 := HL.out.free 2
        go_wp2_with fail
        go_roundw
        case rel => exact ⟨⟨j + 1, by go_num, by omega, by rw [HS.out]; exact (HL.out.s0 _).s1 _⟩, (HO.out.other (by omega) _ _).other (by omega) _ _, (HB.out.setCell (p := ⟨w.heap.size + 1, 0, none⟩) (Nat.le_succ _) _).setCell (p := ⟨w.heap.size + 1, 1, none⟩) (Nat.le_succ _) _⟩
        case measure => simp [intOf]; omega
      · have hi0 : ((j : Int) == 0) = false := ne_b (by omega)
        have H0 := Lib.hid h0
        clear h0
        by_cases hv : (all 4 (zs.take j)).a < x
        · have HS := Lib.hid (hx2.out ▸ step_4 hl.out x (.inr hv))
          clear hx2 hl hlj
          obtain ⟨s, hs⟩ : ∃ s, s = all 4 (zs.take j) := ⟨_, rfl⟩
          rw [← hs] at HS HL hv
          have HE := Lib.hid hs
          clear hs
          have c0 := HL.out.cell (j := 0) rfl; have c1 := HL.out.cell (j := 1) rfl; have c2 := HL.out.cell (j := 2) rfl
          have f0 := HL.out.free 0; have f1 := HL.out.free 1; have f2 := HL.out.free 2
          go_wp2_with fail
          go_roundw
          case rel => exact ⟨⟨j + 1, by go_num, by omega, by rw [HS.out]; exact (HL.out.s0 _).s1 _⟩, (HO.out.other (by omega) _ _).other (by omega) _ _, (HB.out.setCell (p := ⟨w.heap.size + 1, 0, none⟩) (Nat.le_succ _) _).setCell (p := ⟨w.heap.size + 1, 1, none⟩) (Nat.le_succ _) _⟩
          case measure => simp [intOf]; omega
        · have HS := Lib.hid (hx2.out ▸ step_4k hl.out x (by rw [hlj.out]; exact H0.out) hv)
          clear hx2 hl hlj
          obtain ⟨s, hs⟩ : ∃ s, s = all 4 (zs.take j) := ⟨_, rfl⟩
          rw [← hs] at HS HL hv
          have HE := Lib.hid hs
          clear hs
          have c0 := HL.out.cell (j := 0) rfl; have c1 := HL.out.cell (j := 1) rfl; have c2 := HL.out.cell (j := 2) rfl
          have f0 := HL.out.free 0; have f1 := HL.out.free 1; have f2 := HL.out.free 2
          have hv2 : decide (s.a < x) = false := decide_eq_false hv
          go_wp2_with fail
          go_roundw
          case rel => exact ⟨⟨j + 1, by go_num, by omega, by rw [HS.out]; exact HL.out.s0 _⟩, HO.out.other (by omega) _ _, HB.out.setCell (p := ⟨w.heap.size + 1, 0, none⟩) (Nat.le_succ _) _⟩
          case measure => simp [intOf]; omega
    · obtain rfl : zs.length = j := by omega
      rw [List.take_length] at HL
      have c0 := HL.out.cell (j := 0) rfl; have c1 := HL.out.cell (j := 1) rfl; have c2 := HL.out.cell (j := 2) rfl
      have f0 := HO.out.free 0; have f1 := HO.out.free 1; have f2 := HO.out.free 2
      have d0 := HO.out.cell (j := 0) rfl; have d1 := HO.out.cell (j := 1) rfl; have d2 := HO.out.cell (j := 2) rfl
      go_wp2_with fail
      exact ra_ret (R := w.heap.size) rfl rfl (HO.out.set3 _ _ _) (below_set3 HB.out (Nat.le_refl _) _ _ _)
theorem rfAll_5 (A : Option Addr) (c : Nat) (zs : List Int) (w : World) (hr : Row w A (zs.map (Value.int .i64))) (hn : zs.length ≤ 9223372036854775807) (hw : ∀ n ∈ zs, -9223372036854775808 ≤ n ∧ n ≤ 9223372036854775807) :
    Calls Try.prog 34 #[.int .i64 5, .slice A zs.length c] w (GivesAc (all 5 zs) w) := by
  have S0 := Lib.hid (show AllAt w 5 zs (.int .i64 (0 : Nat)) ((w.alloc (.cells (acC zero) 77)).alloc (.cells (acC zero) 77)) from
    ⟨⟨0, rfl, Nat.zero_le _, by rw [show all 5 (zs.take 0) = zero from rfl]; simpa only [World.size_alloc] using Lies.new (w.alloc (.cells (acC zero) 77)) (acC zero) 77⟩, (Lies.new _ _ _).al, below_al (below_al (Below.refl _ _))⟩)
  have HW := Lib.hid hw
  clear hw
  go_enter Try.func34, Try.ntmps34
  go_wp2_with fail
  go_loopw [18] (fun i wr => AllAt w 5 zs i wr) (fun i _ => zs.length - (intOf i).toNat)
  case atStart => exact S0.out
  case round =>
    obtain ⟨⟨j, rfl, hj, hL⟩, hO, hB⟩ := hrel
    have HL := Lib.hid hL; have HO := Lib.hid hO; have HB := Lib.hid hB
    clear hL hO hB S0
    by_cases hlt : j < zs.length
    · obtain ⟨x, b, off, rfl, hx, hc⟩ := (hr.below HB.out).ints hlt
      have hx2 : Hid (zs.take (j + 1) = zs.take j ++ [x]) := Lib.hid (by rw [List.take_add_one, hx]; rfl)
      have hxw := HW.out x (List.mem_of_getElem? hx)
      have hl : Hid ((zs.take j).length ≤ 9223372036854775806) := Lib.hid (by rw [List.length_take]; omega)
      have hlj : Hid ((zs.take j).length = j) := Lib.hid (by rw [List.length_take]; omega)
      clear hx
      by_cases h0 : j = 0
      · have hi0 : ((j : Int) == 0) = true := eq_b (by omega)
        have H0 := Lib.hid h0
        clear h0
        have HS := Lib.hid (hx2.out ▸ step_5 hl.out x (by rw [hlj.out]; exact H0.out))
        clear hx2 hl hlj
        obtain ⟨s, hs⟩ : ∃ s, s = all 5 (zs.take j) := ⟨_, rfl⟩
        rw [← hs] at HS HL 
        have HE := Lib.hid hs
        clear hs
        have c0 := HL.out.cell (j := 0) rfl; have c1 := HL.out.cell (j := 1) rfl; have c2 := HL.out.cell (j := 2) rfl
        have f0 := HL.out.free 0; have f1 := HL.out.free 1; have f2 := HL.out.free 2
        go_wp2_with fail
        go_roundw
        case rel => exact ⟨⟨j + 1, by go_num, by omega, by rw [HS.out]; exact ((HL.out.s0 _).s1 _).s2 _⟩, ((HO.out.other (by omega) _ _).other (by omega) _ _).other (by omega) _ _, ((HB.out.setCell (p := ⟨w.heap.size + 1, 0, none⟩) (Nat.le_succ _) _).setCell (p := ⟨w.heap.size + 1, 1, none⟩) (Nat.le_succ _) _).setCell (p := ⟨w.heap.size + 1, 2, none⟩) (Nat.le_succ _) _⟩
        case measure => simp [intOf]; omega
      · have hi0 : ((j : Int) == 0) = false := ne_b (by omega)
        have H0 := Lib.hid h0
        clear h0
        by_cases hv : x < (all 5 (zs.take j)).a
        · by_cases hu : (all 5 (zs.take j)).b < x
          · have HS := Lib.hid (hx2.out ▸ step_5pp hl.out x (by rw [hlj.out]; exact H0.out) hv hu)
            clear hx2 hl hlj
            obtain ⟨s, hs⟩ : ∃ s, s = all 5 (zs.take j) := ⟨_, rfl⟩
            rw [← hs] at HS HL hv hu
            have HE := Lib.hid hs
            clear hs
            have c0 := HL.out.cell (j := 0) rfl; have c1 := HL.out.cell (j := 1) rfl; have c2 := HL.out.cell (j := 2) rfl
            have f0 := HL.out.free 0; have f1 := HL.out.free 1; have f2 := HL.out.free 2
            go_wp2_with fail
            go_roundw
            case rel => exact ⟨⟨j + 1, by go_num, by omega, by rw [HS.out]; exact ((HL.out.s0 _).s1 _).s2 _⟩, ((HO.out.other (by omega) _ _).other (by omega) _ _).other (by omega) _ _, ((HB.out.setCell (p := ⟨w.heap.size + 1, 0, none⟩) (Nat.le_succ _) _).setCell (p := ⟨w.heap.size + 1, 1, none⟩) (Nat.le_succ _) _).setCell (p := ⟨w.heap.size + 1, 2, none⟩) (Nat.le_succ _) _⟩
            case measure => simp [intOf]; omega
          · have HS := Lib.hid (hx2.out ▸ step_5pn hl.out x (by rw [hlj.out]; exact H0.out) hv hu)
            clear hx2 hl hlj
            obtain ⟨s, hs⟩ : ∃ s, s = all 5 (zs.take j) := ⟨_, rfl⟩
            rw [← hs] at HS HL hv hu
            have HE := Lib.hid hs
            clear hs
            have c0 := HL.out.cell (j := 0) rfl; have c1 := HL.out.cell (j := 1) rfl; have c2 := HL.out.cell (j := 2) rfl
            have f0 := HL.out.free 0; have f1 := HL.out.free 1; have f2 := HL.out.free 2
            have hu2 : decide (s.b < x) = false := decide_eq_false hu
            go_wp2_with fail
            go_roundw
            case rel => exact ⟨⟨j + 1, by go_num, by omega, by rw [HS.out]; exact (HL.out.s0 _).s1 _⟩, (HO.out.other (by omega) _ _).other (by omega) _ _, (HB.out.setCell (p := ⟨w.heap.size + 1, 0, none⟩) (Nat.le_succ _) _).setCell (p := ⟨w.heap.size + 1, 1, none⟩) (Nat.le_succ _) _⟩
            case measure => simp [intOf]; omega
        · by_cases hu : (all 5 (zs.take j)).b < x
          · have HS := Lib.hid (hx2.out ▸ step_5np hl.out x (by rw [hlj.out]; exact H0.out) hv hu)
            clear hx2 hl hlj
            obtain ⟨s, hs⟩ : ∃ s, s = all 5 (zs.take j) := ⟨_, rfl⟩
            rw [← hs] at HS HL hv hu
            have HE := Lib.hid hs
            clear hs
            have c0 := HL.out.cell (j := 0) rfl; have c1 := HL.out.cell (j := 1) rfl; have c2 := HL.out.cell (j := 2) rfl
            have f0 := HL.out.free 0; have f1 := HL.out.free 1; have f2 := HL.out.free 2
            have hv2 : decide (x < s.a) = false := decide_eq_false hv
            go_wp2_with fail
            go_roundw
            case rel => exact ⟨⟨j + 1, by go_num, by omega, by rw [HS.out]; exact (HL.out.s0 _).s2 _⟩, (HO.out.other (by omega) _ _).other (by omega) _ _, (HB.out.setCell (p := ⟨w.heap.size + 1, 0, none⟩) (Nat.le_succ _) _).setCell (p := ⟨w.heap.size + 1, 2, none⟩) (Nat.le_succ _) _⟩
            case measure => simp [intOf]; omega
          · have HS := Lib.hid (hx2.out ▸ step_5nn hl.out x (by rw [hlj.out]; exact H0.out) hv hu)
            clear hx2 hl hlj
            obtain ⟨s, hs⟩ : ∃ s, s = all 5 (zs.take j) := ⟨_, rfl⟩
            rw [← hs] at HS HL hv hu
            have HE := Lib.hid hs
            clear hs
            have c0 := HL.out.cell (j := 0) rfl; have c1 := HL.out.cell (j := 1) rfl; have c2 := HL.out.cell (j := 2) rfl
            have f0 := HL.out.free 0; have f1 := HL.out.free 1; have f2 := HL.out.free 2
            have hv2 : decide (x < s.a) = false := decide_eq_false hv
            have hu2 : decide (s.b < x) = false := decide_eq_false hu
            go_wp2_with fail
            go_roundw
            case rel => exact ⟨⟨j + 1, by go_num, by omega, by rw [HS.out]; exact HL.out.s0 _⟩, HO.out.other (by omega) _ _, HB.out.setCell (p := ⟨w.heap.size + 1, 0, none⟩) (Nat.le_succ _) _⟩
            case measure => simp [intOf]; omega
    · obtain rfl : zs.length = j := by omega
      rw [List.take_length] at HL
      have c0 := HL.out.cell (j := 0) rfl; have c1 := HL.out.cell (j := 1) rfl; have c2 := HL.out.cell (j := 2) rfl
      have f0 := HO.out.free 0; have f1 := HO.out.free 1; have f2 := HO.out.free 2
      have d0 := HO.out.cell (j := 0) rfl; have d1 := HO.out.cell (j := 1) rfl; have d2 := HO.out.cell (j := 2) rfl
      go_wp2_with fail
      exact ra_ret (R := w.heap.size) rfl rfl (HO.out.set3 _ _ _) (below_set3 HB.out (Nat.le_refl _) _ _ _)
theorem rfAll (k : Int) (A : Option Addr) (c : Nat) (zs : List Int) (w : World) (hr : Row w A (zs.map (Value.int .i64))) (hn : zs.length ≤ 9223372036854775807) (hw : ∀ n ∈ zs, -9223372036854775808 ≤ n ∧ n ≤ 9223372036854775807) :
    Calls Try.prog 34 #[.int .i64 k, .slice A zs.length c] w (GivesAc (all k zs) w) := by
  by_cases h : 1 ≤ k ∧ k ≤ 5
  · rcases kinds h with rfl | rfl | rfl | rfl | rfl
    · exact rfAll_1 A c zs w hr hn hw
    · exact rfAll_2 A c zs w hr hn hw
    · exact rfAll_3 A c zs w hr hn hw
    · exact rfAll_4 A c zs w hr hn hw
    · exact rfAll_5 A c zs w hr hn hw
  · rw [all_bad h]; exact rfAll_bad h _ w
end Go.Proofs.Ytipmphkmeiogoaa
