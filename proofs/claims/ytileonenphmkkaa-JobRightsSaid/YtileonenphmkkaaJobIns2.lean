/- Inputs of the code and of the reference. -/
import Derived.Test.YtileonenphmkkaaJobIns
namespace Go.Proofs.Ytileonenphmkkaa
open Go.ChangeShapes Go.WideShapes Go.ChangeAt Go.RowKit
set_option linter.unusedVariables false
set_option maxRecDepth 8000
namespace Jo
open Gen
open Itm
theorem row_sr {w : World} {A : Option Addr} {l : List Sr} (h : Row w A (l.flatMap fun s => [srV s])) {k : Nat} {x : Sr} (hk : l[k]? = some x) : ∃ b off, A = some ⟨b, off, none⟩ ∧ w.cell? ⟨b, off + k, none⟩ = some (srV x) := by
  obtain ⟨b, off, rfl, g⟩ := row_one (n := 1) (fun _ => rfl) (by omega) h hk
  exact ⟨b, off, rfl, by have := g 0 _ rfl; simpa using this⟩
/-- Every source's events lie. -/
def Srs (w : World) (l : List Sr) : Prop := ∀ (k : Nat) x, l[k]? = some x → Row w x.A (x.l.flatMap evL) ∧ x.l.length ≤ 9223372036854775807
theorem Srs.below {w w' : World} {l : List Sr} (h : Srs w l) (hb : Below w.heap.size w w') : Srs w' l := fun k x hx => ⟨(h k x hx).1.below hb, (h k x hx).2⟩
theorem wrapB {k : Nat} (h : k + 1 ≤ 9223372036854775807) : IntKind.i64.wrap ((k : Int) + 1) = ((k + 1 : Nat) : Int) := by
  simp [IntKind.wrap, IntKind.bits, IntKind.signed]; omega
theorem insOk_false {l : List Sr} {k : Nat} {x : Sr} (h : l[k]? = some x) (hx : srcOk x.l = false) : insOk l = false := by
  unfold insOk
  rw [all_false (p := fun s : Sr => srcOk s.l) h hx, Bool.and_false]
theorem insOk_all {l : List Sr} (h : ∀ (j : Nat) x, l[j]? = some x → j < l.length → srcOk x.l = true) : insOk l = decide (1 ≤ l.length ∧ l.length ≤ 4) := by
  unfold insOk
  rw [all_true (p := fun s : Sr => srcOk s.l) h, Bool.and_true]
set_option maxHeartbeats 600000 in
theorem jInputs (l : List Sr) (A : Option Addr) (c : Nat) (w : World) (h : Row w A (l.flatMap fun s => [srV s])) (hi : Srs w l) :
    Calls Try.prog 7 #[.slice A l.length c] w (TellsB (insOk l) w) := by
  by_cases h1 : l.length < 1
  · have e0 : insOk l = false := by unfold insOk; rw [decide_eq_false (by omega), Bool.false_and]
    rw [e0]
    have g0 : (l.length : Int) < 1 := by omega
    clear h hi e0 h1
    go_enter Try.func7, Try.ntmps7
    go_wp2_with fail
    go_ret
    exact ⟨rfl, Below.refl _ _⟩
  · by_cases h4 : l.length ≤ 4
    · have HR := Lib.hid h
      have HI := Lib.hid hi
      have H4 := Lib.hid h4
      have H1 := Lib.hid h1
      have g1 : ¬ (l.length : Int) < 1 := by omega
      have g2 : ¬ (4 : Int) < l.length := by omega
      clear h hi h4 h1
      go_enter Try.func7, Try.ntmps7
      go_wp2_with fail
      clear g1 g2
      go_loopw [15] (fun i wr => ∃ k : Nat, i = .int .i64 k ∧ k ≤ l.length ∧ (∀ j x, l[j]? = some x → j < k → srcOk x.l = true) ∧ Below w.heap.size w wr) (fun i _ => l.length - (intOf i).toNat)
      case atStart => exact ⟨0, rfl, Nat.zero_le _, fun j x h h2 => by omega, Below.refl _ _⟩
      case round =>
        obtain ⟨k, rfl, hk, hto, hb⟩ := hrel
        have HB := Lib.hid hb
        have HT := Lib.hid hto
        clear hb hto
        by_cases hlt : k < l.length
        · obtain ⟨x, hx⟩ : ∃ x, l[k]? = some x := ⟨_, List.getElem?_eq_getElem hlt⟩
          obtain ⟨b, off, rfl, c0⟩ := row_sr (HR.out.below HB.out) hx
          have HX := Lib.hid hx
          have hw := wrapJ (k := k) (by have := H4.out; omega)
          obtain ⟨q, hq⟩ : ∃ q, q = srcOk x.l := ⟨_, rfl⟩
          obtain ⟨r1, r2⟩ := (HI.out.below HB.out) k x hx
          have HE1 := Lib.hid (show Calls Try.prog 13 #[.slice x.A x.l.length x.c] wr (TellsB q wr) from by rw [hq]; exact jSource x.l x.A x.c wr r1 r2)
          have HQ := Lib.hid hq
          clear hx hq r1 r2
          go_wp2_with fail
          refine HE1.out.mono ?_
          rintro e w2 ⟨rfl, hb2⟩
          have HB2 := Lib.hid (below_next HB.out hb2)
          clear hb2
          cases q
          · go_wp2_with fail
            go_ret
            exact ⟨jret (insOk_false HX.out HQ.out.symm).symm, HB2.out⟩
          · go_wp2_with fail
            go_roundw
            case rel =>
              refine ⟨k + 1, rfl, by omega, fun j y hy hj => ?_, HB2.out⟩
              rcases Nat.lt_succ_iff_lt_or_eq.1 hj with h | rfl
              · exact HT.out j y hy h
              · rw [HX.out] at hy; cases hy; exact HQ.out.symm
            case measure => simp [intOf]; omega
        · have hge : l.length ≤ k := by omega
          have er : insOk l = true := by
            rw [insOk_all fun j x h1 h2 => HT.out j x h1 (by omega)]
            exact decide_eq_true ⟨by have := H1.out; omega, H4.out⟩
          have HR2 := Lib.hid er
          clear er
          go_wp2_with fail
          go_ret
          exact ⟨jret HR2.out.symm, HB.out⟩
    · have e0 : insOk l = false := by unfold insOk; rw [decide_eq_false (by omega), Bool.false_and]
      rw [e0]
      have g1 : ¬ (l.length : Int) < 1 := by omega
      have g2 : (4 : Int) < l.length := by omega
      clear h hi e0 h1 h4
      go_enter Try.func7, Try.ntmps7
      go_wp2_with fail
      go_ret
      exact ⟨rfl, Below.refl _ _⟩
set_option maxHeartbeats 1000000 in
theorem rInputs (l : List Sr) (A : Option Addr) (c : Nat) (w : World) (h : Row w A (l.flatMap fun s => [srV s])) (hi : Srs w l) (hl : l.length ≤ 9223372036854775807) :
    Calls Try.prog 8 #[.slice A l.length c] w (TellsB (insOk l) w) := by
  have HE := Lib.hid (fun k a v w => rfEvent k a v w)
  have HR := Lib.hid h
  have HI := Lib.hid hi
  have HL := Lib.hid hl
  clear h hi hl
  go_enter Try.func8, Try.ntmps8
  go_wp2_with fail
  go_loopw [9] (fun i wr => ∃ k : Nat, i = .int .i64 k ∧ k ≤ l.length ∧ (∀ j x, l[j]? = some x → j < k → srcOk x.l = true) ∧ Below w.heap.size w wr) (fun i _ => l.length - (intOf i).toNat)
  case atStart => exact ⟨0, rfl, Nat.zero_le _, fun j x h h2 => by omega, Below.refl _ _⟩
  case round =>
    obtain ⟨wo, hwo⟩ : ∃ wo, wo = wr := ⟨_, rfl⟩
    subst hwo
    obtain ⟨k, rfl, hk, hto, hb⟩ := hrel
    have HB := Lib.hid hb
    have HT := Lib.hid hto
    clear hb hto
    by_cases hlt : k < l.length
    · obtain ⟨x, hx⟩ : ∃ x, l[k]? = some x := ⟨_, List.getElem?_eq_getElem hlt⟩
      obtain ⟨XA, xc, xl⟩ := x
      obtain ⟨b, off, rfl, c0⟩ := row_sr (HR.out.below HB.out) hx
      simp only [srV] at c0
      have HX := Lib.hid hx
      have hw := wrapB (k := k) (by have := HL.out; omega)
      obtain ⟨r1, r2⟩ := (HI.out.below HB.out) k _ hx
      have HR1 := Lib.hid r1
      clear hx r1
      by_cases h200 : xl.length ≤ 200
      · have g0 : ¬ (200 : Int) < xl.length := by omega
        have H2 := Lib.hid h200
        clear h200 r2
        go_wp2_with fail
        clear g0
        go_loopw [18] (fun i wr => ∃ m : Nat, i = .int .i64 m ∧ m ≤ xl.length ∧ (∀ j y, xl[j]? = some y → j < m → evIs y = true) ∧ Below wo.heap.size wo wr) (fun i _ => xl.length - (intOf i).toNat)
        case atStart => exact ⟨0, rfl, Nat.zero_le _, fun j x h h2 => by omega, Below.refl _ _⟩
        case round =>
          obtain ⟨m, rfl, hm, htm, hbm⟩ := hrel
          have HBM := Lib.hid hbm
          have HTM := Lib.hid htm
          clear hbm htm
          by_cases hlm : m < xl.length
          · obtain ⟨y, hy⟩ : ∃ y, xl[m]? = some y := ⟨_, List.getElem?_eq_getElem hlm⟩
            obtain ⟨b2, off2, rfl, d0, d1, d2⟩ := row_evC (HR1.out.below HBM.out) hy
            have HY := Lib.hid hy
            have hw2 := wrapJ (k := m) (by have := H2.out; omega)
            obtain ⟨q, hq⟩ : ∃ q, q = evIs y := ⟨_, rfl⟩
            have HE1 := Lib.hid (fun w => show Calls Try.prog 14 #[evV y.key y.at_ y.val] w (TellsA q (.cells (evC y.key y.at_ y.val) 35) w) from by rw [hq]; exact HE.out y.key y.at_ y.val w)
            have HQ := Lib.hid hq
            clear hy hq
            go_wp2_with fail
            refine (HE1.out _).mono ?_
            rintro e w2 ⟨rfl, rfl⟩
            have hb2 := Lib.hid (below_al (o := .cells (evC y.key y.at_ y.val) 35) (below_al (o := .cells (evC y.key y.at_ y.val) 35) HBM.out))
            cases q
            · have es : srcOk xl = false := by unfold srcOk; rw [all_false HY.out HQ.out.symm, Bool.and_false]
              have ES := Lib.hid es
              clear es
              go_wp2_with fail
              go_ret
              exact ⟨jret (insOk_false HX.out ES.out).symm, below_next HB.out hb2.out⟩
            · go_wp2_with fail
              go_roundw
              case rel =>
                refine ⟨m + 1, rfl, by omega, fun j z hz hj => ?_, hb2.out⟩
                rcases Nat.lt_succ_iff_lt_or_eq.1 hj with h | rfl
                · exact HTM.out j z hz h
                · rw [HY.out] at hz; cases hz; exact HQ.out.symm
              case measure => simp [intOf]; omega
          · have hge : xl.length ≤ m := by omega
            have es : srcOk xl = true := by
              unfold srcOk
              rw [all_true (p := evIs) (fun j y h1 h2 => HTM.out j y h1 (by omega)), Bool.and_true]
              exact decide_eq_true H2.out
            have ES := Lib.hid es
            clear es
            go_wp2_with fail
            go_roundw
            case rel =>
              refine ⟨k + 1, rfl, by omega, fun j z hz hj => ?_, below_next HB.out HBM.out⟩
              rcases Nat.lt_succ_iff_lt_or_eq.1 hj with h | rfl
              · exact HT.out j z hz h
              · rw [HX.out] at hz; cases hz; exact ES.out
            case measure => simp [intOf]; omega
      · have es : srcOk xl = false := by unfold srcOk; rw [decide_eq_false h200, Bool.false_and]
        have ES := Lib.hid es
        have g0 : (200 : Int) < xl.length := by omega
        clear h200 r2 es
        go_wp2_with fail
        go_ret
        exact ⟨jret (insOk_false HX.out ES.out).symm, HB.out⟩
    · have hge : l.length ≤ k := by omega
      have er := insOk_all fun j x h1 h2 => HT.out j x h1 (by omega)
      by_cases h1 : 1 ≤ l.length
      · have g1 : (1 : Int) ≤ l.length := by omega
        by_cases h4 : l.length ≤ 4
        · have g2 : (l.length : Int) ≤ 4 := by omega
          have E := Lib.hid (er.trans (decide_eq_true (show 1 ≤ l.length ∧ l.length ≤ 4 from ⟨h1, h4⟩)))
          clear h1 h4 er
          go_wp2_with fail
          go_ret
          exact ⟨jret E.out.symm, HB.out⟩
        · have g2 : decide ((l.length : Int) ≤ 4) = false := decide_eq_false (by omega)
          have E := Lib.hid (er.trans (decide_eq_false (show ¬ (1 ≤ l.length ∧ l.length ≤ 4) from by omega)))
          clear h1 h4 er
          go_wp2_with fail
          go_ret
          exact ⟨jret E.out.symm, HB.out⟩
      · have g1 : ¬ (1 : Int) ≤ l.length := by omega
        have E := Lib.hid (er.trans (decide_eq_false (show ¬ (1 ≤ l.length ∧ l.length ≤ 4) from by omega)))
        clear h1 er
        go_wp2_with fail
        go_ret
        exact ⟨jret E.out.symm, HB.out⟩
end Jo
end Go.Proofs.Ytileonenphmkkaa
