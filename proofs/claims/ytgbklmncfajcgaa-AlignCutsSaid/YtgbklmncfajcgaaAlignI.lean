/- Rows of rows of items, the call's own; the law's row, cuts. -/
import Derived.Test.YtgbklmncfajcgaaAlignA
import Derived.Test.YtgbklmncfajcgaaAlignE
import Derived.Test.YtgbklmncfajcgaaAlignNs
import Derived.Deep.RegionLaw
import Derived.Lib.MinMax
namespace Go.Proofs.Ytgbklmncfajcgaa
open Go.ChangeShapes Go.WideShapes Go.ChangeAt Go.RowKit
set_option linter.unusedVariables false
set_option maxRecDepth 8000
namespace Aln
open Gen (TellsB TellsI row_one flat_len flat_get Mine)
open Itm
/-- A row as the law makes it. -/
def GivesRw (B : Nat) (w : World) (e : Ending) (w' : World) : Prop :=
  ∃ (A : Option Addr) (m c : Nat) (out : List It), e = .returned (.slice A m c) ∧ w'.ownsRow w.heap.size 42 11 (.slice A m c) m (itc out) ∧ m = out.length ∧ RowOk B out ∧ m ≤ 14 ∧ Below w.heap.size w w'
abbrev markIt (n : Int) : It := ⟨2, ⟨#[]⟩, 0, 0, n, 0, 0, 0, ⟨#[]⟩, 0, 0⟩
set_option maxRecDepth 100000 in
set_option maxHeartbeats 4000000 in
theorem lawRow (l : List It) (n : Nat) (hn : n = l.length) (A : Option Addr) (c : Nat) (B : Nat) (hB : B ≤ 2) (w : World) (hA : Row w A (itc l)) :
    Calls Try.prog 20 #[.slice A n c, .int .i64 B] w (GivesRw B w) := by
  have HR := Lib.hid hA
  have HN := Lib.hid hn
  have HB2 := Lib.hid hB
  clear hA hn hB
  go_enter Try.func20, Try.ntmps20
  go_wp2_with fail
  go_loopw [5, 6, 11] (fun s5 s6 s11 wr => ∃ (k m b : Nat) (v : Value) (out : List It), s5 = v ∧ s6 = .int .i64 b ∧ s11 = .int .i64 k ∧ k ≤ n ∧ k ≤ 12 ∧ wr.ownsRow w.heap.size 42 11 v m (itc out) ∧ m = out.length ∧ RowOk b out ∧ b ≤ B ∧ m ≤ k ∧ Below w.heap.size w wr) (fun _ _ s11 _ => n - (intOf s11).toNat)
  case atStart => exact ⟨0, 0, 0, _, [], rfl, rfl, rfl, Nat.zero_le _, Nat.zero_le _, own_none, rfl, RowOk.nil, Nat.zero_le _, Nat.le_refl _, Below.refl _ _⟩
  case round =>
    obtain ⟨k, m, b, v, out, hv, rfl, rfl, hk, hk12, how, hm, hok, hbB, hmk, hb⟩ := hrel
    have hv2 := hv.symm
    clear hv
    subst hv2
    have OW := Lib.hid how
    have HM := Lib.hid hm
    have HOK := Lib.hid hok
    have HBB := Lib.hid hbB
    have HMK := Lib.hid hmk
    have HB := Lib.hid hb
    have HK12 := Lib.hid hk12
    clear how hm hok hbB hmk hb hk12
    by_cases hlt : k < n
    · obtain ⟨x, hx⟩ : ∃ x, l[k]? = some x := ⟨_, List.getElem?_eq_getElem (by rw [← HN.out]; exact hlt)⟩
      obtain ⟨q, off, hA1, e0⟩ := item_row (HR.out.below HB.out) hx
      subst hA1
      have hki : (k : Int) < (n : Int) := by omega
      have hw := wrapKA (k := k) (by have := HK12.out; omega)
      have HKM := Lib.hid hlt
      have e00 := e0 0 _ rfl; have e01 := e0 1 _ rfl; have e02 := e0 2 _ rfl; have e03 := e0 3 _ rfl; have e04 := e0 4 _ rfl; have e05 := e0 5 _ rfl; have e06 := e0 6 _ rfl; have e07 := e0 7 _ rfl; have e08 := e0 8 _ rfl; have e09 := e0 9 _ rfl; have e10 := e0 10 _ rfl
      rw [Nat.add_zero] at e00
      clear hx e0 hlt hk
      go_upto_region 6 with fail
      clear e00 e01 e02 e03 e04 e05 e06 e07 e08 e09 e10
      have hb6 := below_al (o := .cells (itC x) 42) (Below.refl wr.heap.size wr)
      have O6 := Lib.hid (own_upA OW.out hb6)
      have B6 := Lib.hid (below_next HB.out hb6)
      have LY := Lib.hid (Lies.new wr (itC x) 42)
      obtain ⟨b6, hb6e⟩ : ∃ b, b = wr.heap.size := ⟨_, rfl⟩
      obtain ⟨W6, hW6⟩ : ∃ W, W = wr.alloc (.cells (itC x) 42) := ⟨_, rfl⟩
      rw [← hW6] at O6 B6 LY ⊢
      rw [← hb6e] at LY ⊢
      clear hW6 hb6e hb6 OW HB
      by_cases h12 : 12 ≤ k
      · have g1 : decide ((12 : Int) ≤ (k : Int)) = true := decide_eq_true (by omega)
        clear h12 hki hw
        have HM12 : Hid (m ≤ 12 + b) := Lib.hid (by have := HMK.out; have := HK12.out; omega)
        clear HMK HK12
        go_wp2_with fail
        go_loopw [5, 6] (fun s5 s6 wr => ∃ (m b : Nat) (v : Value) (out : List It), s5 = v ∧ s6 = .int .i64 b ∧ wr.ownsRow w.heap.size 42 11 v m (itc out) ∧ m = out.length ∧ RowOk b out ∧ b ≤ B ∧ m ≤ 12 + b ∧ Below w.heap.size w wr) (fun _ s6 _ => B - (intOf s6).toNat)
        case atStart => exact ⟨m, b, v, out, rfl, rfl, O6.out, HM.out, HOK.out, HBB.out, HM12.out, B6.out⟩
        case round =>
          clear O6 HM HOK HBB HM12 B6
          obtain ⟨m, b, v, out, hv, rfl, how, hm, hok, hbB, hmk, hb⟩ := hrel
          have hv2 := hv.symm
          clear hv
          subst hv2
          have OW := Lib.hid how
          have HM := Lib.hid hm
          have HOK := Lib.hid hok
          have HBB := Lib.hid hbB
          have HMK := Lib.hid hmk
          have HB := Lib.hid hb
          clear how hm hok hmk hb
          by_cases hlt : b < B
          · have hbi : (b : Int) < (B : Int) := by omega
            have hwb := wrapKA (k := b) (by have := HB2.out; omega)
            have HBL := Lib.hid hlt
            have HRI : Hid (RowOk (b + 1) (out ++ [barIt ((b + 1 : Nat) : Int)])) := Lib.hid (HOK.out.bar rfl rfl (right_barIt (by omega) (by have := HB2.out; omega)))
            clear hlt hbB
            go_wp2_with (at_builtin; refine hold_mk ?_)
            refine hold_out ?_
            have hb7 := below_al (o := .cells (itC (barIt ((b + 1 : Nat) : Int))) 42) (Below.refl wr.heap.size wr)
            have hro := one_rowI wr (barIt ((b + 1 : Nat) : Int))
            refine wpPushI rfl _ _ rfl v out rfl HM.out (own_upA OW.out hb7) (Nat.le_trans HB.out.size hb7.size) _ 1 (barIt ((b + 1 : Nat) : Int)) rfl hro (by have := HMK.out; have := HBB.out; have := HB2.out; omega) ?_
            intro v9 w9 bt9 hg9
            have O9 := Lib.hid bt9
            have B9 := Lib.hid ((HB.out.trans (hb7.mono HB.out.size)).grown hg9 (Nat.le_trans HB.out.size hb7.size) fun q hq => (OW.out.lt q hq).1)
            clear bt9 hg9 hro hb7 OW HB
            go_wp2_with fail
            go_roundw
            case rel => exact ⟨m + 1, b + 1, _, _, rfl, rfl, O9.out, by rw [List.length_append, ← HM.out]; rfl, HRI.out, HBL.out, by have := HMK.out; omega, B9.out⟩
            case measure => simp [intOf]; have := HBL.out; omega
          · have hbi : ¬ (b : Int) < (B : Int) := by omega
            have hbe : b = B := by omega
            subst hbe
            obtain ⟨AF, cF, rfl, _⟩ := own_form OW.out (by omega)
            clear hlt hbB
            go_wp2_with fail
            go_ret
            exact ⟨AF, m, cF, out, rfl, OW.out, HM.out, HOK.out, by have := HMK.out; have := HB2.out; omega, HB.out⟩
      · have g1 : decide ((12 : Int) ≤ (k : Int)) = false := decide_eq_false (by omega)
        have HK11 : Hid (k + 1 ≤ 12) := Lib.hid (by omega)
        clear h12
        have y0 := LY.out.cell (j := 0) rfl
        by_cases hbar : x.k = 4 ∧ b < B
        · have g2 : (x.k == 4) = true := eq_b hbar.1
          have g3 : decide ((b : Int) < (B : Int)) = true := decide_eq_true (by have := hbar.2; omega)
          have g3n : decide (b < B) = true := decide_eq_true hbar.2
          have hwb := wrapKA (k := b) (by have := HB2.out; have := hbar.2; omega)
          have HBL := Lib.hid hbar.2
          have HRI : Hid (RowOk (b + 1) (out ++ [barIt ((b + 1 : Nat) : Int)])) := Lib.hid (HOK.out.bar rfl rfl (right_barIt (by omega) (by have := HB2.out; have := hbar.2; omega)))
          clear hbar
          go_wp2_with (at_builtin; refine hold_mk ?_)
          refine hold_out ?_
          have hb7 := below_al (o := .cells (itC (barIt ((b + 1 : Nat) : Int))) 42) (Below.refl W6.heap.size W6)
          have hro := one_rowI W6 (barIt ((b + 1 : Nat) : Int))
          refine wpPushI rfl _ _ rfl v out rfl HM.out (own_upA O6.out hb7) (Nat.le_trans B6.out.size hb7.size) _ 1 (barIt ((b + 1 : Nat) : Int)) rfl hro (by have := HMK.out; have := HK12.out; omega) ?_
          intro v9 w9 bt9 hg9
          have O9 := Lib.hid bt9
          have B9 := Lib.hid ((B6.out.trans (hb7.mono B6.out.size)).grown hg9 (Nat.le_trans B6.out.size hb7.size) fun q hq => (O6.out.lt q hq).1)
          clear bt9 hg9 hro hb7 O6 B6 LY y0
          go_wp2_with fail
          go_roundw
          case rel => exact ⟨k + 1, m + 1, b + 1, _, _, rfl, rfl, rfl, HKM.out, HK11.out, O9.out, by rw [List.length_append, ← HM.out]; rfl, HRI.out, HBL.out, by have := HMK.out; omega, B9.out⟩
          case measure => simp [intOf]; have := HKM.out; omega
        · have HNBAR := Lib.hid hbar
          have hway : ((x.k == 4) = true ∧ decide ((b : Int) < (B : Int)) = false ∧ decide (b < B) = false) ∨ (x.k == 4) = false := by
            by_cases h4 : x.k = 4
            · left
              have : ¬ b < B := fun h => hbar ⟨h4, h⟩
              exact ⟨eq_b h4, decide_eq_false (by omega), decide_eq_false this⟩
            · right; exact ne_b h4
          clear hbar
          by_cases hk2 : x.k = 2
          · have g2 : (x.k == 2) = true := eq_b hk2
            have g4 : (x.k == 4) = false := ne_b (by omega)
            have y4 := LY.out.cell (j := 4) rfl
            clear hway hk2
            obtain ⟨mk, hmk⟩ : ∃ mk : Int, mk = min (max x.m 0) 1099511627776 := ⟨_, rfl⟩
            have HMB : Hid (0 ≤ mk ∧ mk ≤ 1099511627776) := Lib.hid (by rw [hmk]; simp only [Int.min_def, Int.max_def]; split <;> split <;> omega)
            have hmk2 := hmk.symm
            clear hmk
            have HRI : Hid (RowOk b (out ++ [markIt mk])) := Lib.hid (HOK.out.mark (by show (2 : Int) ≠ 4; omega) (right_markIt HMB.out.1 HMB.out.2))
            go_wp2_with (with_reducible refine Gen.hold_at 43 rfl ?_)
            refine hold_out ?_
            have hb7 := below_al (o := .cells (itC (markIt mk)) 42) (Below.refl W6.heap.size W6)
            have hro := one_rowI W6 (markIt mk)
            refine wpPushI rfl _ _ rfl v out rfl HM.out (own_upA O6.out hb7) (Nat.le_trans B6.out.size hb7.size) _ 1 (markIt mk) rfl hro (by have := HMK.out; have := HK12.out; omega) ?_
            intro v9 w9 bt9 hg9
            have O9 := Lib.hid bt9
            have B9 := Lib.hid ((B6.out.trans (hb7.mono B6.out.size)).grown hg9 (Nat.le_trans B6.out.size hb7.size) fun q hq => (O6.out.lt q hq).1)
            clear bt9 hg9 hro hb7 O6 B6 LY y0 y4
            go_wp2_with fail
            go_roundw
            case rel => exact ⟨k + 1, m + 1, b, _, _, rfl, rfl, rfl, HKM.out, HK11.out, O9.out, by rw [List.length_append, ← HM.out]; rfl, HRI.out, HBB.out, by have := HMK.out; omega, B9.out⟩
            case measure => simp [intOf]; have := HKM.out; omega
          · have g2 : (x.k == 2) = false := ne_b hk2
            have O7 := Lib.hid O6.out
            clear hk2
            rcases hway with ⟨g4, g5, g6⟩ | g4
            all_goals (
              go_wp2_with fail
              go_roundw
              case rel => exact ⟨k + 1, m, b, v, out, rfl, rfl, rfl, HKM.out, HK11.out, O7.out, HM.out, HOK.out, HBB.out, by have := HMK.out; omega, B6.out⟩
              case measure => simp [intOf]; have := HKM.out; omega)
    · have hki : ¬ (k : Int) < (n : Int) := by omega
      have O6 := Lib.hid OW.out
      have B6 := Lib.hid HB.out
      clear hlt hk OW HB
      have HM12 : Hid (m ≤ 12 + b) := Lib.hid (by have := HMK.out; have := HK12.out; omega)
      clear HMK HK12
      obtain ⟨wo, hwo⟩ : ∃ wo, wo = wr := ⟨_, rfl⟩
      subst hwo
      go_wp2_with fail
      go_loopw [5, 6] (fun s5 s6 wr => ∃ (m b : Nat) (v : Value) (out : List It), s5 = v ∧ s6 = .int .i64 b ∧ wr.ownsRow w.heap.size 42 11 v m (itc out) ∧ m = out.length ∧ RowOk b out ∧ b ≤ B ∧ m ≤ 12 + b ∧ Below w.heap.size w wr) (fun _ s6 _ => B - (intOf s6).toNat)
      case atStart => exact ⟨m, b, v, out, rfl, rfl, O6.out, HM.out, HOK.out, HBB.out, HM12.out, B6.out⟩
      case round =>
        clear O6 HM HOK HBB HM12 B6
        obtain ⟨m, b, v, out, hv, rfl, how, hm, hok, hbB, hmk, hb⟩ := hrel
        have hv2 := hv.symm
        clear hv
        subst hv2
        have OW := Lib.hid how
        have HM := Lib.hid hm
        have HOK := Lib.hid hok
        have HBB := Lib.hid hbB
        have HMK := Lib.hid hmk
        have HB := Lib.hid hb
        clear how hm hok hmk hb
        by_cases hlt : b < B
        · have hbi : (b : Int) < (B : Int) := by omega
          have hwb := wrapKA (k := b) (by have := HB2.out; omega)
          have HBL := Lib.hid hlt
          have HRI : Hid (RowOk (b + 1) (out ++ [barIt ((b + 1 : Nat) : Int)])) := Lib.hid (HOK.out.bar rfl rfl (right_barIt (by omega) (by have := HB2.out; omega)))
          clear hlt hbB
          go_wp2_with (at_builtin; refine hold_mk ?_)
          refine hold_out ?_
          have hb7 := below_al (o := .cells (itC (barIt ((b + 1 : Nat) : Int))) 42) (Below.refl wr.heap.size wr)
          have hro := one_rowI wr (barIt ((b + 1 : Nat) : Int))
          refine wpPushI rfl _ _ rfl v out rfl HM.out (own_upA OW.out hb7) (Nat.le_trans HB.out.size hb7.size) _ 1 (barIt ((b + 1 : Nat) : Int)) rfl hro (by have := HMK.out; have := HBB.out; have := HB2.out; omega) ?_
          intro v9 w9 bt9 hg9
          have O9 := Lib.hid bt9
          have B9 := Lib.hid ((HB.out.trans (hb7.mono HB.out.size)).grown hg9 (Nat.le_trans HB.out.size hb7.size) fun q hq => (OW.out.lt q hq).1)
          clear bt9 hg9 hro hb7 OW HB
          go_wp2_with fail
          go_roundw
          case rel => exact ⟨m + 1, b + 1, _, _, rfl, rfl, O9.out, by rw [List.length_append, ← HM.out]; rfl, HRI.out, HBL.out, by have := HMK.out; omega, B9.out⟩
          case measure => simp [intOf]; have := HBL.out; omega
        · have hbi : ¬ (b : Int) < (B : Int) := by omega
          have hbe : b = B := by omega
          subst hbe
          obtain ⟨AF, cF, rfl, _⟩ := own_form OW.out (by omega)
          clear hlt hbB
          go_wp2_with fail
          go_ret
          exact ⟨AF, m, cF, out, rfl, OW.out, HM.out, HOK.out, by have := HMK.out; have := HB2.out; omega, HB.out⟩
end Aln
end Go.Proofs.Ytgbklmncfajcgaa
