/- The reference's Right, Has. -/
import Derived.Test.YtgoapkbpcfbipaaLease
namespace Go.Proofs.Ytgoapkbpcfbipaa
open Go.ChangeShapes Go.WideShapes Go.ChangeAt Go.RowKit
set_option linter.unusedVariables false
set_option maxRecDepth 8000
namespace Ls
open Gen (TellsB TellsI SaysB row_one)
open Tick (cl addT)
theorem no_r {r : Bool} {P : Prop} (h : r = true → P) (hn : P → False) : r = false := by
  cases r
  · rfl
  · exact (hn (h rfl)).elim
/-- What the first ones keep. -/
def UpTo (ls : List Le) (last : Int) (k : Nat) : Prop :=
  (∀ (i : Nat) (x : Le), i < k → ls[i]? = some x → okL last x = true) ∧ ∀ (i j : Nat) (x y : Le), i < k → j < i → ls[i]? = some x → ls[j]? = some y → 0 < x.tok → y.tok ≠ x.tok
theorem UpTo.next {ls : List Le} {last : Int} {k : Nat} (h : UpTo ls last k) {x : Le} (hx : ls[k]? = some x) (ho : okL last x = true) (hs : ∀ (j : Nat) (y : Le), j < k → ls[j]? = some y → 0 < x.tok → y.tok ≠ x.tok) : UpTo ls last (k + 1) := by
  refine ⟨fun i z hi hz => ?_, fun i j z y hi hj hz hy h0 => ?_⟩
  · by_cases e : i = k
    · subst e; rw [hx] at hz; cases hz; exact ho
    · exact h.1 i z (by omega) hz
  · by_cases e : i = k
    · subst e; rw [hx] at hz; cases hz; exact hs j y hj hy h0
    · exact h.2 i j z y (by omega) hj hz hy h0
set_option maxRecDepth 100000 in
set_option maxHeartbeats 1500000 in
theorem rfRight (ls : List Le) (n : Nat) (last : Int) (A : Option Addr) (c : Nat) (r : Bool) (hn : n = ls.length) (hr : r = rightT ⟨ls, last⟩) (w : World) (h : Row w A (lec ls)) (hl : n ≤ 4611686018427387904) :
    Calls Try.prog 14 #[.agg #[.slice A n c, .int .i64 last]] w (TellsB r w) := by
  have HY := Lib.hid (fun n lo hi (h : lo ≤ n ∧ n ≤ hi) w => inYes h w)
  have HX := Lib.hid (fun n lo hi (h : ¬ (lo ≤ n ∧ n ≤ hi)) w => inNo h w)
  have hb0 := below_al (o := .cells #[.slice A n c, .int .i64 last] 24) (Below.refl w.heap.size w)
  have HB := Lib.hid hb0
  have HR := Lib.hid (h.below hb0)
  have LS := Lib.hid (Lies.new w #[.slice A n c, .int .i64 last] 24)
  have HN := Lib.hid hn
  have HNO : Hid (r = true → Ok ⟨ls, last⟩) := Lib.hid (fun e => by rw [hr] at e; exact (ok_iff _).1 e)
  have HYES : Hid (Ok ⟨ls, last⟩ → r = true) := Lib.hid (fun e => hr.trans ((ok_iff _).2 e))
  clear h hn hb0 hr
  go_enter Try.func14, Try.ntmps14
  obtain ⟨tb, htb⟩ : ∃ b, b = w.heap.size := ⟨_, rfl⟩
  obtain ⟨W, hW⟩ : ∃ W, W = w.alloc (.cells #[.slice A n c, .int .i64 last] 24) := ⟨_, rfl⟩
  go_upto_region 1 with fail
  rw [← hW] at LS HR HB ⊢
  rw [← htb] at LS ⊢
  clear hW htb
  have x0 := LS.out.cell (j := 0) rfl
  go_wp2_with fail
  clear x0
  go_loopw [9] (fun i wr => ∃ k : Nat, i = .int .i64 k ∧ k ≤ n ∧ UpTo ls last k ∧ Below W.heap.size W wr) (fun i _ => n - (intOf i).toNat)
  case atStart => exact ⟨0, rfl, Nat.zero_le _, ⟨fun i x hi => by omega, fun i j x y hi => by omega⟩, Below.refl _ _⟩
  case round =>
    obtain ⟨k, rfl, hk, hup, hbr⟩ := hrel
    have HU := Lib.hid hup
    have HBR := Lib.hid hbr
    have LT := Lib.hid (LS.out.below hbr)
    clear hup hbr
    by_cases hlt : k < n
    · obtain ⟨x, hx⟩ : ∃ x, ls[k]? = some x := ⟨_, List.getElem?_eq_getElem (by rw [← HN.out]; exact hlt)⟩
      obtain ⟨q, off, hA, d0, d1, d2⟩ := lease_row (HR.out.below HBR.out) hx
      have hki : (k : Int) < (n : Int) := by omega
      have hw := wrapK (k := k) (by omega)
      have hb4 := below_al (o := .cells (leC x) 47) (Below.refl wr.heap.size wr)
      have HBB : Hid (Below w.heap.size w (wr.alloc (.cells (leC x) 47))) := Lib.hid (below_next (below_next HB.out HBR.out) hb4)
      have HB4 := Lib.hid (below_next HBR.out hb4)
      have L4 := Lib.hid (Lies.new wr (leC x) 47)
      have LT4 := Lib.hid (LT.out.below hb4)
      have HXK := Lib.hid hx
      clear hb4 hx
      subst hA
      obtain ⟨o, kt, u⟩ := x
      simp only at d0 d1 d2
      go_upto_region 4 with fail
      clear d0 d1 d2
      obtain ⟨b4, hb4⟩ : ∃ b, b = wr.heap.size := ⟨_, rfl⟩
      obtain ⟨W4, hW⟩ : ∃ W, W = wr.alloc (.cells #[.int .i64 o, .int .i64 kt, .int .i64 u] 47) := ⟨_, rfl⟩
      rw [← hW] at HBB HB4 L4 LT4 ⊢
      rw [← hb4] at L4 ⊢
      clear hW hb4
      have y0 := L4.out.cell (j := 0) rfl; have y1 := L4.out.cell (j := 1) rfl; have y2 := L4.out.cell (j := 2) rfl
      have z0 := LT4.out.cell (j := 0) rfl; have z1 := LT4.out.cell (j := 1) rfl
      have HKO : Hid (Ok ⟨ls, last⟩ → (0 ≤ o ∧ o ≤ 99) ∧ (0 ≤ kt ∧ kt ≤ last) ∧ (0 ≤ u ∧ u ≤ 1099511627776) ∧ (o = 0 → u = 0) ∧ (0 < o → kt ≠ 0)) := Lib.hid (fun hok => (okL_iff _ _).1 (hok.each k _ HXK.out))
      rcases (Classical.em (0 ≤ o ∧ o ≤ 99)).symm with c1 | c1
      · have HC := Lib.hid (HX.out o 0 99 c1)
        have hr0 : r = false := no_r HNO.out (fun hok => c1 (HKO.out hok).1)
        subst hr0
        clear HNO HYES HKO
        go_wp2_with fail
        refine (HC.out _).mono ?_
        rintro e w2 ⟨rfl, rfl⟩
        go_wp2_with fail
        go_ret
        exact ⟨rfl, HBB.out⟩
      · have H1 := Lib.hid (HY.out o 0 99 c1)
        rcases (Classical.em (0 ≤ kt ∧ kt ≤ last)).symm with c2 | c2
        · have HC := Lib.hid (HX.out kt 0 last c2)
          have hr0 : r = false := no_r HNO.out (fun hok => c2 (HKO.out hok).2.1)
          subst hr0
          clear HNO HYES HKO
          go_wp2_with fail
          refine (H1.out _).mono ?_
          rintro e w2 ⟨rfl, rfl⟩
          go_wp2_with fail
          refine (HC.out _).mono ?_
          rintro e w2 ⟨rfl, rfl⟩
          go_wp2_with fail
          go_ret
          exact ⟨rfl, HBB.out⟩
        · have H2 := Lib.hid (HY.out kt 0 last c2)
          rcases (Classical.em (0 ≤ u)).symm with c3 | c3
          · have g3 : u < 0 := by omega
            have hr0 : r = false := no_r HNO.out (fun hok => c3 (HKO.out hok).2.2.1.1)
            subst hr0
            clear HNO HYES HKO
            go_wp2_with fail
            refine (H1.out _).mono ?_
            rintro e w2 ⟨rfl, rfl⟩
            go_wp2_with fail
            refine (H2.out _).mono ?_
            rintro e w2 ⟨rfl, rfl⟩
            go_wp2_with fail
            go_ret
            exact ⟨rfl, HBB.out⟩
          · have g3 : ¬ u < 0 := by omega
            rcases (Classical.em (u ≤ 1099511627776)).symm with c4 | c4
            · have g4 : 1099511627776 < u := by omega
              have hr0 : r = false := no_r HNO.out (fun hok => c4 (HKO.out hok).2.2.1.2)
              subst hr0
              clear HNO HYES HKO
              go_wp2_with fail
              refine (H1.out _).mono ?_
              rintro e w2 ⟨rfl, rfl⟩
              go_wp2_with fail
              refine (H2.out _).mono ?_
              rintro e w2 ⟨rfl, rfl⟩
              go_wp2_with fail
              go_ret
              exact ⟨rfl, HBB.out⟩
            · have g4 : ¬ 1099511627776 < u := by omega
              by_cases c5 : o = 0
              · have g5 : (o == 0) = true := eq_b c5
                have g7 : ¬ 0 < o := by omega
                have C5 := Lib.hid c5
                clear c5
                rcases (Classical.em (u = 0)).symm with c6 | c6
                · have g6 : (u != 0) = true := by simp [c6]
                  have C6 := Lib.hid c6
                  clear c6
                  have hr0 : r = false := no_r HNO.out (fun hok => C6.out ((HKO.out hok).2.2.2.1 C5.out))
                  subst hr0
                  clear HNO HYES HKO
                  go_wp2_with fail
                  refine (H1.out _).mono ?_
                  rintro e w2 ⟨rfl, rfl⟩
                  go_wp2_with fail
                  refine (H2.out _).mono ?_
                  rintro e w2 ⟨rfl, rfl⟩
                  go_wp2_with fail
                  go_ret
                  exact ⟨rfl, HBB.out⟩
                · have g6 : (u != 0) = false := by simp [c6]
                  have HOK : Hid (okL last ⟨o, kt, u⟩ = true) := Lib.hid ((okL_iff _ _).2 ⟨c1, c2, ⟨c3, c4⟩, fun _ => c6, fun h => absurd h g7⟩)
                  have HT0 : Hid (0 ≤ kt) := Lib.hid c2.1
                  clear c1 c2 c3 c4 c6
                  go_wp2_with fail
                  refine (H1.out _).mono ?_
                  rintro e w2 ⟨rfl, rfl⟩
                  go_wp2_with fail
                  refine (H2.out _).mono ?_
                  rintro e w2 ⟨rfl, rfl⟩
                  go_wp2_with fail
                  clear g3 g4 g5 g6 g7 H1 H2 HKO y0 y2 z1
                  go_loopw [5] (fun i wq => ∃ j : Nat, i = .int .i64 j ∧ j ≤ k ∧ (∀ (j' : Nat) (y : Le), j' < j → ls[j']? = some y → 0 < kt → y.tok ≠ kt) ∧ ∃ m, wq = W4.drewN m) (fun i _ => k - (intOf i).toNat)
                  case atStart => exact ⟨0, rfl, Nat.zero_le _, fun j' y h => by omega, 0, rfl⟩
                  case round =>
                    obtain ⟨j, rfl, hj, hso, m, rfl⟩ := hrel
                    have HSO := Lib.hid hso
                    clear hso
                    have hwj := wrapK (k := j) (by omega)
                    by_cases hjk : j < k
                    · have hjki : (j : Int) < (k : Int) := by omega
                      obtain ⟨y, hy⟩ : ∃ y, ls[j]? = some y := ⟨_, List.getElem?_eq_getElem (by have := HN.out; omega)⟩
                      obtain ⟨q', off', hA, e0, e1, e2⟩ := lease_row (HR.out.below HB4.out) hy
                      cases hA
                      have hjn : (j : Int) < (n : Int) := by omega
                      clear e0 e2
                      by_cases ht : 0 < kt
                      · have ht2 : decide (0 < kt) = true := decide_eq_true ht
                        by_cases he : y.tok = kt
                        · have he2 : (y.tok == kt) = true := eq_b he
                          have hr0 : r = false := no_r HNO.out (fun hok => hok.solo k j _ y hjk HXK.out hy ht he)
                          subst hr0
                          clear HNO HYES hy
                          go_wp2_with fail
                          go_quiet (fail)
                          go_wp2_with fail
                          go_ret
                          exact ⟨rfl, below_next HBB.out ((below_drewN (Below.refl _ _)).trans (below_drewN (Below.refl _ _)))⟩
                        · have he2 : (y.tok == kt) = false := ne_b he
                          have HYJ := Lib.hid hy
                          clear hy
                          go_wp2_with fail
                          go_quiet (fail)
                          go_wp2_with fail
                          go_roundw
                          case rel => exact ⟨j + 1, rfl, by omega, fun j' z hj' hz h0 => by
                            by_cases e : j' = j
                            · subst e; rw [HYJ.out] at hz; cases hz; exact he
                            · exact HSO.out j' z (by omega) hz h0, _, rfl⟩
                          case measure => simp [intOf]; omega
                      · have ht2 : decide (0 < kt) = false := decide_eq_false ht
                        clear hy
                        go_wp2_with fail
                        go_quiet (fail)
                        go_wp2_with fail
                        go_roundw
                        case rel => exact ⟨j + 1, rfl, by omega, fun j' z hj' hz h0 => by omega, _, rfl⟩
                        case measure => simp [intOf]; omega
                    · have hjki : ¬ (j : Int) < (k : Int) := by omega
                      have HUK : Hid (UpTo ls last (k + 1)) := Lib.hid (HU.out.next HXK.out HOK.out fun j' y h => HSO.out j' y (by omega))
                      go_wp2_with fail
                      go_roundw
                      case rel => exact ⟨k + 1, rfl, by omega, HUK.out, below_next HB4.out (below_drewN (Below.refl _ _))⟩
                      case measure => simp [intOf]; omega
              · have g5 : (o == 0) = false := ne_b c5
                have g7 : 0 < o := by omega
                have C5 := Lib.hid c5
                clear c5
                by_cases c6 : kt = 0
                · have g6 : (kt == 0) = true := eq_b c6
                  have C6 := Lib.hid c6
                  clear c6
                  have hr0 : r = false := no_r HNO.out (fun hok => (HKO.out hok).2.2.2.2 g7 C6.out)
                  subst hr0
                  clear HNO HYES HKO
                  go_wp2_with fail
                  refine (H1.out _).mono ?_
                  rintro e w2 ⟨rfl, rfl⟩
                  go_wp2_with fail
                  refine (H2.out _).mono ?_
                  rintro e w2 ⟨rfl, rfl⟩
                  go_wp2_with fail
                  go_ret
                  exact ⟨rfl, HBB.out⟩
                · have g6 : (kt == 0) = false := ne_b c6
                  have HOK : Hid (okL last ⟨o, kt, u⟩ = true) := Lib.hid ((okL_iff _ _).2 ⟨c1, c2, ⟨c3, c4⟩, fun h => absurd h C5.out, fun _ => c6⟩)
                  have HT0 : Hid (0 ≤ kt) := Lib.hid c2.1
                  clear c1 c2 c3 c4 c6
                  go_wp2_with fail
                  refine (H1.out _).mono ?_
                  rintro e w2 ⟨rfl, rfl⟩
                  go_wp2_with fail
                  refine (H2.out _).mono ?_
                  rintro e w2 ⟨rfl, rfl⟩
                  go_wp2_with fail
                  clear g3 g4 g5 g6 g7 H1 H2 HKO y0 y2 z1
                  go_loopw [5] (fun i wq => ∃ j : Nat, i = .int .i64 j ∧ j ≤ k ∧ (∀ (j' : Nat) (y : Le), j' < j → ls[j']? = some y → 0 < kt → y.tok ≠ kt) ∧ ∃ m, wq = W4.drewN m) (fun i _ => k - (intOf i).toNat)
                  case atStart => exact ⟨0, rfl, Nat.zero_le _, fun j' y h => by omega, 0, rfl⟩
                  case round =>
                    obtain ⟨j, rfl, hj, hso, m, rfl⟩ := hrel
                    have HSO := Lib.hid hso
                    clear hso
                    have hwj := wrapK (k := j) (by omega)
                    by_cases hjk : j < k
                    · have hjki : (j : Int) < (k : Int) := by omega
                      obtain ⟨y, hy⟩ : ∃ y, ls[j]? = some y := ⟨_, List.getElem?_eq_getElem (by have := HN.out; omega)⟩
                      obtain ⟨q', off', hA, e0, e1, e2⟩ := lease_row (HR.out.below HB4.out) hy
                      cases hA
                      have hjn : (j : Int) < (n : Int) := by omega
                      clear e0 e2
                      by_cases ht : 0 < kt
                      · have ht2 : decide (0 < kt) = true := decide_eq_true ht
                        by_cases he : y.tok = kt
                        · have he2 : (y.tok == kt) = true := eq_b he
                          have hr0 : r = false := no_r HNO.out (fun hok => hok.solo k j _ y hjk HXK.out hy ht he)
                          subst hr0
                          clear HNO HYES hy
                          go_wp2_with fail
                          go_quiet (fail)
                          go_wp2_with fail
                          go_ret
                          exact ⟨rfl, below_next HBB.out ((below_drewN (Below.refl _ _)).trans (below_drewN (Below.refl _ _)))⟩
                        · have he2 : (y.tok == kt) = false := ne_b he
                          have HYJ := Lib.hid hy
                          clear hy
                          go_wp2_with fail
                          go_quiet (fail)
                          go_wp2_with fail
                          go_roundw
                          case rel => exact ⟨j + 1, rfl, by omega, fun j' z hj' hz h0 => by
                            by_cases e : j' = j
                            · subst e; rw [HYJ.out] at hz; cases hz; exact he
                            · exact HSO.out j' z (by omega) hz h0, _, rfl⟩
                          case measure => simp [intOf]; omega
                      · have ht2 : decide (0 < kt) = false := decide_eq_false ht
                        clear hy
                        go_wp2_with fail
                        go_quiet (fail)
                        go_wp2_with fail
                        go_roundw
                        case rel => exact ⟨j + 1, rfl, by omega, fun j' z hj' hz h0 => by omega, _, rfl⟩
                        case measure => simp [intOf]; omega
                    · have hjki : ¬ (j : Int) < (k : Int) := by omega
                      have HUK : Hid (UpTo ls last (k + 1)) := Lib.hid (HU.out.next HXK.out HOK.out fun j' y h => HSO.out j' y (by omega))
                      go_wp2_with fail
                      go_roundw
                      case rel => exact ⟨k + 1, rfl, by omega, HUK.out, below_next HB4.out (below_drewN (Below.refl _ _))⟩
                      case measure => simp [intOf]; omega
    · have hge : n ≤ k := by omega
      have hki : ¬ (k : Int) < (n : Int) := by omega
      have HUA : Hid ((∀ (i : Nat) (x : Le), ls[i]? = some x → okL last x = true) ∧ ∀ (i j : Nat) (x y : Le), j < i → ls[i]? = some x → ls[j]? = some y → 0 < x.tok → y.tok ≠ x.tok) := Lib.hid
        ⟨fun i x hx => HU.out.1 i x (by have := (List.getElem?_eq_some_iff.1 hx).1; have := HN.out; omega) hx, fun i j x y hj hx => HU.out.2 i j x y (by have := (List.getElem?_eq_some_iff.1 hx).1; have := HN.out; omega) hj hx⟩
      have x0 := LT.out.cell (j := 0) rfl; have x1 := LT.out.cell (j := 1) rfl
      have HBB : Hid (Below w.heap.size w wr) := Lib.hid (below_next HB.out HBR.out)
      clear HU hge hlt
      by_cases c1 : 1 ≤ (n : Int) ∧ (n : Int) ≤ 32
      · have H1 := Lib.hid (HY.out n 1 32 c1)
        by_cases c2 : 0 ≤ last ∧ last ≤ 1073741824
        · have H2 := Lib.hid (HY.out last 0 1073741824 c2)
          have hr1 : r = true := HYES.out ⟨HUA.out.1, HUA.out.2, by have := HN.out; show 1 ≤ ls.length ∧ ls.length ≤ 32; omega, c2⟩
          subst hr1
          clear HNO HYES c1 c2
          go_wp2_with fail
          refine (H1.out _).mono ?_
          rintro e w2 ⟨rfl, rfl⟩
          go_wp2_with fail
          refine (H2.out _).mono ?_
          rintro e w2 ⟨rfl, rfl⟩
          go_wp2_with fail
          go_ret
          exact ⟨rfl, HBB.out⟩
        · have H2 := Lib.hid (HX.out last 0 1073741824 c2)
          have hr0 : r = false := no_r HNO.out (fun hok => c2 hok.last)
          subst hr0
          clear HNO HYES c1 c2
          go_wp2_with fail
          refine (H1.out _).mono ?_
          rintro e w2 ⟨rfl, rfl⟩
          go_wp2_with fail
          refine (H2.out _).mono ?_
          rintro e w2 ⟨rfl, rfl⟩
          go_wp2_with fail
          go_ret
          exact ⟨rfl, HBB.out⟩
      · have H1 := Lib.hid (HX.out n 1 32 c1)
        have hr0 : r = false := no_r HNO.out (fun hok => c1 (by have := hok.len; have := HN.out; simp only at *; omega))
        subst hr0
        clear HNO HYES c1
        go_wp2_with fail
        refine (H1.out _).mono ?_
        rintro e w2 ⟨rfl, rfl⟩
        go_wp2_with fail
        go_ret
        exact ⟨rfl, HBB.out⟩
end Ls
end Go.Proofs.Ytgoapkbpcfbipaa
