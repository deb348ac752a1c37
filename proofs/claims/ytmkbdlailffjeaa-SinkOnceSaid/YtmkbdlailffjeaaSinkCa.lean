/- The code's right, rightResults. -/
import Derived.Test.YtmkbdlailffjeaaSinkCm
import Derived.Test.YtmkbdlailffjeaaSinkLim
import Derived.Test.YtmkbdlailffjeaaItemOk
namespace Go.Proofs.Ytmkbdlailffjeaa
open Go.ChangeShapes Go.WideShapes Go.ChangeAt Go.RowKit
set_option linter.unusedVariables false
set_option maxRecDepth 8000
namespace Sk
open Gen (TellsB row_one flat_len flat_get Mine)
theorem right_res (x : Re) : Itm.right ⟨5, Itm.no, 0, 0, 0, 0, x.lo, x.hi, x.k, x.n, x.v⟩ = okR x := by
  unfold okR
  cases e : Itm.okRes x.k x.lo x.hi x.n
  · exact right_5n _ _ _ _ _ _ _ _ _ _ e
  · rw [right_5 _ _ _ _ _ _ _ _ _ _ e]
    simp [Itm.eqI, Itm.eqE, Itm.eqR, Itm.eqS]
theorem ckRes (x : Re) (r : Bool) (hr : r = okR x) (w : World) : Calls Try.prog 22 #[reV x] w (TellsB r w) := by
  have HC := Lib.hid (fun w' => itRight ⟨5, Itm.no, 0, 0, 0, 0, x.lo, x.hi, x.k, x.n, x.v⟩ w')
  rw [show Itm.right ⟨5, Itm.no, 0, 0, 0, 0, x.lo, x.hi, x.k, x.n, x.v⟩ = r from (right_res x).trans hr.symm] at HC
  have hb0 := below_al (o := .cells (reC x) 29) (Below.refl w.heap.size w)
  have HB := Lib.hid hb0
  have L := Lib.hid (Lies.new w (reC x) 29)
  clear hb0 hr
  go_enter Try.func22, Try.ntmps22
  go_upto_region 1 with fail
  obtain ⟨tb, htb⟩ : ∃ b, b = w.heap.size := ⟨_, rfl⟩
  obtain ⟨W, hW⟩ : ∃ W, W = w.alloc (.cells (reC x) 29) := ⟨_, rfl⟩
  rw [← hW] at L HB ⊢
  rw [← htb] at L ⊢
  clear hW htb
  have x0 := L.out.cell (j := 0) rfl; have x1 := L.out.cell (j := 1) rfl; have x2 := L.out.cell (j := 2) rfl; have x3 := L.out.cell (j := 3) rfl; have x4 := L.out.cell (j := 4) rfl
  go_wp2_with fail
  refine (HC.out _).mono ?_
  rintro e w1 ⟨rfl, hb1⟩
  have HB1 := Lib.hid (below_next HB.out hb1)
  clear hb1 x0 x1 x2 x3 x4
  go_wp2_with fail
  go_ret
  exact ⟨rfl, HB1.out⟩
theorem ckNotRes (x : Re) (r : Bool) (hr : r = okR x) (w : World) : Calls Try.prog 39 #[reV x] w (TellsB (!r) w) := by
  have HC := Lib.hid (fun w' => ckRes x r hr w')
  have hb0 := below_al (o := .cells (reC x) 29) (Below.refl w.heap.size w)
  have HB := Lib.hid hb0
  have L := Lib.hid (Lies.new w (reC x) 29)
  clear hb0 hr
  go_enter Try.func39, Try.ntmps39
  go_upto_region 1 with fail
  obtain ⟨tb, htb⟩ : ∃ b, b = w.heap.size := ⟨_, rfl⟩
  obtain ⟨W, hW⟩ : ∃ W, W = w.alloc (.cells (reC x) 29) := ⟨_, rfl⟩
  rw [← hW] at L HB ⊢
  rw [← htb] at L ⊢
  clear hW htb
  have x0 := L.out.cell (j := 0) rfl; have x1 := L.out.cell (j := 1) rfl; have x2 := L.out.cell (j := 2) rfl; have x3 := L.out.cell (j := 3) rfl; have x4 := L.out.cell (j := 4) rfl
  go_wp2_with fail
  refine (HC.out _).mono ?_
  rintro e w1 ⟨rfl, hb1⟩
  have HB1 := Lib.hid (below_next HB.out hb1)
  clear hb1 x0 x1 x2 x3 x4
  go_wp2_with fail
  go_ret
  exact ⟨rfl, HB1.out⟩
/-- The place of one that is not right, or none. -/
def AtBad (r : Bool) (w : World) (e : Ending) (w' : World) : Prop := Below w.heap.size w w' ∧ ((∃ p : Nat, e = .returned (.int .i64 p) ∧ r = false) ∨ (e = .returned (.int .i64 (-1)) ∧ r = true))
set_option maxRecDepth 100000 in
theorem ckIdxR (l : List Re) (n : Nat) (A : Option Addr) (c : Nat) (r : Bool) (hn : n = l.length) (hr : r = l.all okR) (w : World) (h : Row w A (rec_ l)) (hl : n ≤ 4611686018427387904) :
    Calls Try.prog 46 #[.slice A n c, .func (.func 39) #[] #[]] w (AtBad r w) := by
  have HR := Lib.hid h
  have HN := Lib.hid hn
  have HRR := Lib.hid hr
  clear h hn hr
  go_enter Try.func46, Try.ntmps46
  go_wp2_with fail
  go_loopw [8] (fun s8 wr => ∃ j : Nat, s8 = .int .i64 j ∧ j ≤ n ∧ (∀ i x, i < j → l[i]? = some x → okR x = true) ∧ Below w.heap.size w wr) (fun s8 _ => n - (intOf s8).toNat)
  case atStart => exact ⟨0, rfl, Nat.zero_le _, fun i x hi => absurd hi (Nat.not_lt_zero _), Below.refl _ _⟩
  case round =>
    obtain ⟨j, rfl, hk, hno, hb⟩ := hrel
    have HB := Lib.hid hb
    have HNO := Lib.hid hno
    clear hb hno
    by_cases hlt : j < n
    · obtain ⟨x, hx⟩ : ∃ x, l[j]? = some x := ⟨_, List.getElem?_eq_getElem (by rw [← HN.out]; exact hlt)⟩
      obtain ⟨b, off, rfl, c0⟩ := res_row (HR.out.below HB.out) hx
      have HX := Lib.hid hx
      have hki : (j : Int) < (n : Int) := by omega
      have HW := wrapKS (k := j) (by omega)
      have HK := Lib.hid hlt
      have c00 := c0 0 _ rfl; have c01 := c0 1 _ rfl; have c02 := c0 2 _ rfl; have c03 := c0 3 _ rfl; have c04 := c0 4 _ rfl
      rw [Nat.add_zero] at c00
      clear hx c0 hlt hk
      obtain ⟨q, hq⟩ : ∃ q, q = okR x := ⟨_, rfl⟩
      have HD := Lib.hid (ckNotRes x q hq wr)
      have HQ := Lib.hid hq
      clear hq
      cases q with
      | false =>
        go_wp2_with (go_at_call 39; refine HD.out.mono ?_; rintro e w1 ⟨rfl, hb1⟩; have HB1 := Lib.hid (below_next HB.out hb1); clear hb1)
        go_ret
        exact ⟨HB1.out, .inl ⟨j, rfl, HRR.out.trans (all_not HX.out HQ.out.symm)⟩⟩
      | true =>
        go_wp2_with (go_at_call 39; refine HD.out.mono ?_; rintro e w1 ⟨rfl, hb1⟩; have HB1 := Lib.hid (below_next HB.out hb1); clear hb1)
        go_roundw
        case rel =>
          refine ⟨j + 1, rfl, HK.out, fun i y hi hy => ?_, HB1.out⟩
          by_cases h1 : i = j
          · rw [h1, HX.out] at hy; cases hy; exact HQ.out.symm
          · exact HNO.out i y (by omega) hy
        case measure => simp [intOf]; have := HK.out; omega
    · have hge : ¬ (j : Int) < (n : Int) := by omega
      have HU : Hid (∀ i x, i < n → l[i]? = some x → okR x = true) := Lib.hid (by rw [show n = j by omega]; exact HNO.out)
      clear hlt hk
      go_wp2_with fail
      go_ret
      exact ⟨HB.out, .inr ⟨rfl, HRR.out.trans (all_of HN.out HU.out)⟩⟩
theorem ckContR (l : List Re) (n : Nat) (A : Option Addr) (c : Nat) (r : Bool) (hn : n = l.length) (hr : r = l.all okR) (w : World) (h : Row w A (rec_ l)) (hl : n ≤ 4611686018427387904) :
    Calls Try.prog 38 #[.slice A n c, .func (.func 39) #[] #[]] w (TellsB (!r) w) := by
  have HI := Lib.hid (ckIdxR l n A c r hn hr w h hl)
  clear h hn hr hl
  go_enter Try.func38, Try.ntmps38
  go_wp2_with fail
  refine HI.out.mono ?_
  rintro e w1 ⟨hb1, ⟨p, rfl, rfl⟩ | ⟨rfl, rfl⟩⟩
  · have HB := Lib.hid hb1
    have hp : decide ((0 : Int) ≤ (p : Int)) = true := decide_eq_true (by omega)
    clear hb1
    go_wp2_with fail
    go_ret
    exact ⟨rfl, HB.out⟩
  · have HB := Lib.hid hb1
    clear hb1
    go_wp2_with fail
    go_ret
    exact ⟨rfl, HB.out⟩
theorem ckAllR (l : List Re) (n : Nat) (A : Option Addr) (c : Nat) (r : Bool) (hn : n = l.length) (hr : r = l.all okR) (w : World) (h : Row w A (rec_ l)) (hl : n ≤ 4611686018427387904) :
    Calls Try.prog 29 #[.slice A n c] w (TellsB r w) := by
  have HI := Lib.hid (ckContR l n A c r hn hr w h hl)
  clear h hn hr hl
  go_enter Try.func29, Try.ntmps29
  go_wp2_with fail
  refine HI.out.mono ?_
  rintro e w1 ⟨rfl, hb1⟩
  have HB := Lib.hid hb1
  clear hb1
  go_wp2_with fail
  go_ret
  exact ⟨by cases r <;> rfl, HB.out⟩
end Sk
end Go.Proofs.Ytmkbdlailffjeaa
