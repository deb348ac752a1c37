/- The code's slices.Contains of bools, awaited, rightItems, has. -/
import Derived.Test.YtgbklmncfajcgaaAlignCb
import Derived.Test.YtgbklmncfajcgaaItemOk
namespace Go.Proofs.Ytgbklmncfajcgaa
open Go.ChangeShapes Go.WideShapes Go.ChangeAt Go.RowKit
set_option linter.unusedVariables false
set_option maxRecDepth 8000
namespace Aln
open Gen (TellsB TellsI row_one flat_len flat_get)
open Itm
def AtBool (l : List Bool) (v : Bool) (w : World) (e : Ending) (w' : World) : Prop := w' = w ∧ ((∃ p : Nat, e = .returned (.int .i64 p) ∧ l.contains v = true) ∨ (e = .returned (.int .i64 (-1)) ∧ l.contains v = false))
theorem has_at {l : List Bool} {k : Nat} {v : Bool} (h : l[k]? = some v) : l.contains v = true := by
  rw [List.contains_iff_mem]
  exact List.mem_of_getElem? h
theorem has_not {l : List Bool} {n : Nat} {v : Bool} (hn : n = l.length) (h : ∀ i x, i < n → l[i]? = some x → x = !v) : l.contains v = false := by
  rw [← Bool.not_eq_true, List.contains_iff_mem]
  intro hm
  obtain ⟨i, hi⟩ := List.getElem?_of_mem hm
  have := h i v (by rw [hn]; exact (List.getElem?_eq_some_iff.1 hi).1) hi
  cases v <;> cases this
set_option maxRecDepth 100000 in
theorem ckIdxB (l : List Bool) (v : Bool) (n : Nat) (A : Option Addr) (c : Nat) (hn : n = l.length) (w : World) (h : Row w A (gcs l)) (hl : n ≤ 4611686018427387904) :
    Calls Try.prog 48 #[.slice A n c, .bool v] w (AtBool l v w) := by
  have HR := Lib.hid h
  have HN := Lib.hid hn
  clear h hn
  go_enter Try.func48, Try.ntmps48
  go_wp2_with fail
  go_loopw [8] (fun s8 wr => ∃ j : Nat, s8 = .int .i64 j ∧ j ≤ n ∧ (∀ i x, i < j → l[i]? = some x → x = !v) ∧ wr = w) (fun s8 _ => n - (intOf s8).toNat)
  case atStart => exact ⟨0, rfl, Nat.zero_le _, fun i x hi => absurd hi (Nat.not_lt_zero _), rfl⟩
  case round =>
    obtain ⟨j, rfl, hk, hno, rfl⟩ := hrel
    have HNO := Lib.hid hno
    clear hno
    by_cases hlt : j < n
    · obtain ⟨x, hx⟩ : ∃ x, l[j]? = some x := ⟨_, List.getElem?_eq_getElem (by rw [← HN.out]; exact hlt)⟩
      obtain ⟨b, off, rfl, c0⟩ := got_row HR.out hx
      have HX := Lib.hid hx
      have hki : (j : Int) < (n : Int) := by omega
      have HW := wrapKA (k := j) (by omega)
      have HK := Lib.hid hlt
      clear hx hlt hk
      by_cases e : x = v
      · subst e
        cases x
        all_goals
          go_wp2_with fail
          go_ret
          exact ⟨rfl, .inl ⟨j, rfl, has_at HX.out⟩⟩
      · have e2 : x = !v := by cases x <;> cases v <;> simp_all
        subst e2
        have HN2 : Hid (∀ i x, i < j + 1 → l[i]? = some x → x = !v) := Lib.hid fun i y hi hy => by
          by_cases h1 : i = j
          · rw [h1, HX.out] at hy; cases hy; rfl
          · exact HNO.out i y (by omega) hy
        clear e
        cases v
        all_goals
          go_wp2_with fail
          go_roundw
          case rel => exact ⟨j + 1, rfl, HK.out, HN2.out, trivial⟩
          case measure => simp [intOf]; have := HK.out; omega
    · have hge : ¬ (j : Int) < (n : Int) := by omega
      have HJ : Hid (j = n) := Lib.hid (by omega)
      clear hlt hk
      go_wp2_with fail
      go_ret
      exact ⟨rfl, .inr ⟨rfl, has_not HN.out (by rw [← HJ.out]; exact HNO.out)⟩⟩
theorem ckHasB (l : List Bool) (v : Bool) (r : Bool) (hr : r = l.contains v) (n : Nat) (A : Option Addr) (c : Nat) (hn : n = l.length) (w : World) (h : Row w A (gcs l)) (hl : n ≤ 4611686018427387904) :
    Calls Try.prog 36 #[.slice A n c, .bool v] w fun e w' => e = .returned (.bool r) ∧ w' = w := by
  have HI := Lib.hid (ckIdxB l v n A c hn w h hl)
  clear h hn hl
  go_enter Try.func36, Try.ntmps36
  go_wp2_with fail
  refine HI.out.mono ?_
  rintro e w1 ⟨rfl, ⟨p, rfl, e2⟩ | ⟨rfl, e2⟩⟩
  · have hp : decide ((0 : Int) ≤ (p : Int)) = true := decide_eq_true (by omega)
    rw [e2] at hr
    subst hr
    clear e2
    go_wp2_with fail
    go_ret
    exact ⟨rfl, rfl⟩
  · rw [e2] at hr
    subst hr
    clear e2
    go_wp2_with fail
    go_ret
    exact ⟨rfl, rfl⟩
def awO (n : Int) (l : List Bool) : Bool := if n = 0 then !l.contains true else decide (1 ≤ n) && (decide (n ≤ 1073741824) && (l.contains true && l.contains false))
theorem ckAwaited (n : Int) (l : List Bool) (r : Bool) (hr : r = awO n l) (m : Nat) (A : Option Addr) (c : Nat) (hm : m = l.length) (w : World) (h : Row w A (gcs l)) (hl : m ≤ 4611686018427387904) :
    Calls Try.prog 27 #[.int .i64 n, .slice A m c] w fun e w' => e = .returned (.bool r) ∧ w' = w := by
  obtain ⟨t, ht⟩ : ∃ t, t = l.contains true := ⟨_, rfl⟩
  obtain ⟨f, hf⟩ : ∃ f, f = l.contains false := ⟨_, rfl⟩
  have HT := Lib.hid (ckHasB l true t ht m A c hm w h hl)
  have HF := Lib.hid (ckHasB l false f hf m A c hm w h hl)
  have HR : Hid (r = if n = 0 then !t else decide (1 ≤ n) && (decide (n ≤ 1073741824) && (t && f))) := Lib.hid (by rw [hr, ht, hf]; rfl)
  clear h hm hl hr ht hf
  by_cases h0 : n = 0
  · have e : r = !t := HR.out.trans (if_pos h0)
    have g0 : (n == 0) = true := eq_b h0
    have hn := h0
    subst h0
    clear hn
    subst e
    go_enter Try.func27, Try.ntmps27
    go_wp2_with fail
    refine HT.out.mono ?_
    rintro e w1 ⟨rfl, rfl⟩
    go_wp2_with fail
    go_ret
    exact ⟨rfl, rfl⟩
  · have e : r = (decide (1 ≤ n) && (decide (n ≤ 1073741824) && (t && f))) := HR.out.trans (if_neg h0)
    have g0 : (n == 0) = false := ne_b h0
    clear h0 HR
    by_cases h1 : 1 ≤ n
    · have g1 : decide ((1 : Int) ≤ n) = true := decide_eq_true h1
      by_cases h2 : n ≤ 1073741824
      · have g2 : decide (n ≤ 1073741824) = true := decide_eq_true h2
        rw [g1, g2, Bool.true_and, Bool.true_and] at e
        subst e
        clear h1 h2
        cases t
        · go_enter Try.func27, Try.ntmps27
          go_wp2_with fail
          refine HT.out.mono ?_
          rintro e w1 ⟨rfl, rfl⟩
          go_wp2_with fail
          go_ret
          exact ⟨rfl, rfl⟩
        · go_enter Try.func27, Try.ntmps27
          go_wp2_with fail
          refine HT.out.mono ?_
          rintro e w1 ⟨rfl, rfl⟩
          go_wp2_with fail
          refine HF.out.mono ?_
          rintro e w2 ⟨rfl, rfl⟩
          go_wp2_with fail
          go_ret
          exact ⟨rfl, rfl⟩
      · have g2 : decide (n ≤ 1073741824) = false := decide_eq_false h2
        rw [g1, g2, Bool.true_and, Bool.false_and] at e
        subst e
        clear h1 h2
        go_enter Try.func27, Try.ntmps27
        go_wp2_with fail
        go_ret
        exact ⟨rfl, rfl⟩
    · have g1 : decide ((1 : Int) ≤ n) = false := decide_eq_false h1
      rw [g1, Bool.false_and] at e
      subst e
      clear h1
      go_enter Try.func27, Try.ntmps27
      go_wp2_with fail
      go_ret
      exact ⟨rfl, rfl⟩
theorem ckNotIt (x : It) (r : Bool) (hr : r = right x) (w : World) : Calls Try.prog 38 #[itV x] w (TellsB (!r) w) := by
  have HC := Lib.hid (fun w' => itRight x w')
  rw [← hr] at HC
  have HB := Lib.hid (below_al (o := .cells (itC x) 42) (Below.refl w.heap.size w))
  have L := Lib.hid (Lies.new w (itC x) 42)
  clear hr
  go_enter Try.func38, Try.ntmps38
  go_upto_region 1 with fail
  obtain ⟨tb, htb⟩ : ∃ b, b = w.heap.size := ⟨_, rfl⟩
  obtain ⟨W, hW⟩ : ∃ W, W = w.alloc (.cells (itC x) 42) := ⟨_, rfl⟩
  rw [← hW] at L HB ⊢
  rw [← htb] at L ⊢
  clear hW htb
  have x00 := L.out.cell (j := 0) rfl
  have x01 := L.out.cell (j := 1) rfl
  have x02 := L.out.cell (j := 2) rfl
  have x03 := L.out.cell (j := 3) rfl
  have x04 := L.out.cell (j := 4) rfl
  have x05 := L.out.cell (j := 5) rfl
  have x06 := L.out.cell (j := 6) rfl
  have x07 := L.out.cell (j := 7) rfl
  have x08 := L.out.cell (j := 8) rfl
  have x09 := L.out.cell (j := 9) rfl
  have x10 := L.out.cell (j := 10) rfl
  go_wp2_with fail
  refine (HC.out _).mono ?_
  rintro e w1 ⟨rfl, hb1⟩
  have HB1 := Lib.hid (below_next HB.out hb1)
  clear hb1
  go_wp2_with fail
  go_ret
  exact ⟨rfl, HB1.out⟩
def AtBadI (r : Bool) (w : World) (e : Ending) (w' : World) : Prop := Below w.heap.size w w' ∧ ((∃ p : Nat, e = .returned (.int .i64 p) ∧ r = false) ∨ (e = .returned (.int .i64 (-1)) ∧ r = true))
theorem allI_of {l : List It} {n : Nat} (hn : n = l.length) (h : ∀ i x, i < n → l[i]? = some x → right x = true) : l.all right = true := by
  rw [List.all_eq_true]
  intro x hx
  obtain ⟨i, hi⟩ := List.getElem?_of_mem hx
  exact h i x (by rw [hn]; exact (List.getElem?_eq_some_iff.1 hi).1) hi
theorem allI_not {l : List It} {i : Nat} {x : It} (hx : l[i]? = some x) (h : right x = false) : l.all right = false := by
  cases e : l.all right
  · rfl
  · rw [List.all_eq_true] at e
    have := e x (List.mem_of_getElem? hx)
    rw [h] at this; cases this
set_option maxRecDepth 100000 in
set_option maxHeartbeats 1000000 in
theorem ckIdxI (l : List It) (n : Nat) (A : Option Addr) (c : Nat) (r : Bool) (hn : n = l.length) (hr : r = l.all right) (w : World) (h : Row w A (itc l)) (hl : n ≤ 4611686018427387904) :
    Calls Try.prog 49 #[.slice A n c, .func (.func 38) #[] #[]] w (AtBadI r w) := by
  have HR := Lib.hid h
  have HN := Lib.hid hn
  have HRR := Lib.hid hr
  clear h hn hr
  go_enter Try.func49, Try.ntmps49
  go_wp2_with fail
  go_loopw [8] (fun s8 wr => ∃ j : Nat, s8 = .int .i64 j ∧ j ≤ n ∧ (∀ i x, i < j → l[i]? = some x → right x = true) ∧ Below w.heap.size w wr) (fun s8 _ => n - (intOf s8).toNat)
  case atStart => exact ⟨0, rfl, Nat.zero_le _, fun i x hi => absurd hi (Nat.not_lt_zero _), Below.refl _ _⟩
  case round =>
    obtain ⟨j, rfl, hk, hno, hb⟩ := hrel
    have HB := Lib.hid hb
    have HNO := Lib.hid hno
    clear hb hno
    by_cases hlt : j < n
    · obtain ⟨x, hx⟩ : ∃ x, l[j]? = some x := ⟨_, List.getElem?_eq_getElem (by rw [← HN.out]; exact hlt)⟩
      obtain ⟨b, off, rfl, c0⟩ := item_row (HR.out.below HB.out) hx
      have HX := Lib.hid hx
      have hki : (j : Int) < (n : Int) := by omega
      have HW := wrapKA (k := j) (by omega)
      have HK := Lib.hid hlt
      clear hx hlt hk
      have d00 := c0 0 _ rfl; have d01 := c0 1 _ rfl; have d02 := c0 2 _ rfl; have d03 := c0 3 _ rfl; have d04 := c0 4 _ rfl; have d05 := c0 5 _ rfl; have d06 := c0 6 _ rfl; have d07 := c0 7 _ rfl; have d08 := c0 8 _ rfl; have d09 := c0 9 _ rfl; have d10 := c0 10 _ rfl
      rw [Nat.add_zero] at d00
      obtain ⟨q, hq⟩ : ∃ q, q = right x := ⟨_, rfl⟩
      have HD := Lib.hid (ckNotIt x q hq wr)
      have HQ := Lib.hid hq
      clear hq c0
      cases q with
      | false =>
        go_wp2_with (go_at_call 38; refine HD.out.mono ?_; rintro e w1 ⟨rfl, hb1⟩; have HB1 := Lib.hid (below_next HB.out hb1); clear hb1)
        go_ret
        exact ⟨HB1.out, .inl ⟨j, rfl, HRR.out.trans (allI_not HX.out HQ.out.symm)⟩⟩
      | true =>
        go_wp2_with (go_at_call 38; refine HD.out.mono ?_; rintro e w1 ⟨rfl, hb1⟩; have HB1 := Lib.hid (below_next HB.out hb1); clear hb1)
        go_roundw
        case rel =>
          refine ⟨j + 1, rfl, HK.out, fun i y hi hy => ?_, HB1.out⟩
          by_cases h1 : i = j
          · rw [h1, HX.out] at hy; cases hy; exact HQ.out.symm
          · exact HNO.out i y (by omega) hy
        case measure => simp [intOf]; have := HK.out; omega
    · have hge : ¬ (j : Int) < (n : Int) := by omega
      have HU : Hid (l.all right = true) := Lib.hid (allI_of HN.out (by rw [show n = j by omega]; exact HNO.out))
      clear hlt hk
      go_wp2_with fail
      go_ret
      exact ⟨HB.out, .inr ⟨rfl, HRR.out.trans HU.out⟩⟩
theorem ckContI (l : List It) (n : Nat) (A : Option Addr) (c : Nat) (r : Bool) (hn : n = l.length) (hr : r = l.all right) (w : World) (h : Row w A (itc l)) (hl : n ≤ 4611686018427387904) :
    Calls Try.prog 37 #[.slice A n c, .func (.func 38) #[] #[]] w (TellsB (!r) w) := by
  have HI := Lib.hid (ckIdxI l n A c r hn hr w h hl)
  clear h hn hr hl
  go_enter Try.func37, Try.ntmps37
  go_wp2_with fail
  refine HI.out.mono ?_
  rintro e w1 ⟨hb1, ⟨p, rfl, rfl⟩ | ⟨rfl, rfl⟩⟩
  · have HB := Lib.hid hb1
    have hp : decide ((0 : Int) ≤ (p : Int)) = true := decide_eq_true (by omega)
    clear hb1
    go_wp2_with fail
    go_ret
    exact ⟨rfl, HB.out⟩
  · have HB := Lib.hid hb1
    clear hb1
    go_wp2_with fail
    go_ret
    exact ⟨rfl, HB.out⟩
def itemsO (l : List It) : Bool := decide (l.length ≤ 16) && l.all right
theorem ckItems (l : List It) (n : Nat) (A : Option Addr) (c : Nat) (r : Bool) (hn : n = l.length) (hr : r = itemsO l) (w : World) (h : Row w A (itc l)) :
    Calls Try.prog 28 #[.slice A n c] w (TellsB r w) := by
  by_cases h1 : n ≤ 16
  · have g1 : decide ((n : Int) ≤ 16) = true := decide_eq_true (by omega)
    obtain ⟨q, hq⟩ : ∃ q, q = l.all right := ⟨_, rfl⟩
    have HI := Lib.hid (ckContI l n A c q hn hq w h (by omega))
    have e : r = q := by rw [hr, hq]; unfold itemsO; rw [decide_eq_true (by omega), Bool.true_and]
    subst e
    clear h hn hr hq h1
    go_enter Try.func28, Try.ntmps28
    go_wp2_with fail
    refine HI.out.mono ?_
    rintro e w1 ⟨rfl, hb1⟩
    have HB := Lib.hid hb1
    clear hb1
    go_wp2_with fail
    go_ret
    exact ⟨by cases r <;> rfl, HB.out⟩
  · have g1 : decide ((n : Int) ≤ 16) = false := decide_eq_false (by omega)
    have e : r = false := by rw [hr]; unfold itemsO; rw [decide_eq_false (by omega), Bool.false_and]
    subst e
    clear h hn hr h1
    go_enter Try.func28, Try.ntmps28
    go_wp2_with fail
    go_ret
    exact ⟨rfl, Below.refl _ _⟩
theorem ckHas (n input : Int) (G : Option Addr) (ng cG : Nat) (H : Option Addr) (nh cH : Nat) (r : Bool) (hr : r = (decide (0 ≤ input) && decide (input < (ng : Int)))) (w : World) :
    Calls Try.prog 29 #[alV n G ng cG H nh cH, .int .i64 input] w (TellsB r w) := by
  have HB := Lib.hid (below_al (o := .cells (alC n G ng cG H nh cH) 25) (Below.refl w.heap.size w))
  have L := Lib.hid (Lies.new w (alC n G ng cG H nh cH) 25)
  by_cases h1 : 0 ≤ input
  · have g1 : decide ((0 : Int) ≤ input) = true := decide_eq_true h1
    rw [g1, Bool.true_and] at hr
    clear h1
    go_enter Try.func29, Try.ntmps29
    go_upto_region 1 with fail
    obtain ⟨tb, htb⟩ : ∃ b, b = w.heap.size := ⟨_, rfl⟩
    obtain ⟨W, hW⟩ : ∃ W, W = w.alloc (.cells (alC n G ng cG H nh cH) 25) := ⟨_, rfl⟩
    rw [← hW] at L HB ⊢
    rw [← htb] at L ⊢
    clear hW htb
    have x1 := L.out.cell (j := 1) rfl
    rcases Int.lt_or_le input (ng : Int) with h2 | h2
    · have g2 : decide (input < (ng : Int)) = true := decide_eq_true h2
      rw [g2] at hr
      subst hr
      clear h2
      go_wp2_with fail
      go_ret
      exact ⟨rfl, HB.out⟩
    · have g2 : decide (input < (ng : Int)) = false := decide_eq_false (by omega)
      rw [g2] at hr
      subst hr
      clear h2
      go_wp2_with fail
      go_ret
      exact ⟨rfl, HB.out⟩
  · have g1 : decide ((0 : Int) ≤ input) = false := decide_eq_false h1
    rw [g1, Bool.false_and] at hr
    subst hr
    clear h1
    go_enter Try.func29, Try.ntmps29
    go_wp2_with fail
    go_ret
    exact ⟨rfl, HB.out⟩
end Aln
end Go.Proofs.Ytgbklmncfajcgaa
