/- The code's hasToken: slices.ContainsFunc over leases. -/
import Derived.Test.YtgoapkbpcfbipaaLeaseC
namespace Go.Proofs.Ytgoapkbpcfbipaa
open Go.ChangeShapes Go.WideShapes Go.ChangeAt Go.RowKit
set_option linter.unusedVariables false
set_option maxRecDepth 8000
namespace Ls
open Gen (TellsB TellsI SaysB row_one)
open Tick (cl addT)
theorem ckTokF (x : Le) (k : Int) (nb : Nat) (w : World) (hl : Lies nb #[.int .i64 k] 3 w) : Calls Try.prog 46 #[.agg (leC x), .pointer (some ⟨nb, 0, none⟩)] w (TellsB (decide (x.tok = k)) w) := by
  have hc := hl.cell (j := 0) rfl
  have hlt := lt_of_block hl
  have hb := Lib.hid (below_al (o := .cells (leC x) 47) (Below.refl w.heap.size w))
  clear hl
  obtain ⟨o, t, u⟩ := x
  by_cases h : t = k
  · have h4 : (t == k) = true := eq_b h
    have hd := Lib.hid (decide_eq_true h)
    clear h
    go_enter Try.func46, Try.ntmps46
    go_wp2_with fail
    go_ret
    exact ⟨by rw [hd.out]; rfl, hb.out⟩
  · have h4 : (t == k) = false := ne_b h
    have hd := Lib.hid (decide_eq_false h)
    clear h
    go_enter Try.func46, Try.ntmps46
    go_wp2_with fail
    go_ret
    exact ⟨by rw [hd.out]; rfl, hb.out⟩
def anyTok (ls : List Le) (k : Int) : Bool := ls.any fun x => decide (x.tok = k)
theorem anyTok_no {ls : List Le} {k : Int} (h : ∀ (i : Nat) (x : Le), ls[i]? = some x → x.tok ≠ k) : anyTok ls k = false := by
  unfold anyTok
  rw [List.any_eq_false]
  intro x hx
  obtain ⟨i, hi⟩ := List.getElem?_of_mem hx
  simpa using h i x hi
theorem anyTok_yes {ls : List Le} {k : Int} {i : Nat} {x : Le} (h : ls[i]? = some x) (e : x.tok = k) : anyTok ls k = true := by
  unfold anyTok
  rw [List.any_eq_true]
  exact ⟨x, List.mem_of_getElem? h, by simpa using e⟩
theorem anyTok_false {ls : List Le} {k : Int} (h : anyTok ls k = false) {i : Nat} {x : Le} (hx : ls[i]? = some x) : x.tok ≠ k := by
  unfold anyTok at h
  rw [List.any_eq_false] at h
  simpa using h x (List.mem_of_getElem? hx)
theorem anyTok_true {ls : List Le} {k : Int} (h : anyTok ls k = true) : ∃ (i : Nat) (x : Le), ls[i]? = some x ∧ x.tok = k := by
  unfold anyTok at h
  rw [List.any_eq_true] at h
  obtain ⟨x, hx, e⟩ := h
  obtain ⟨i, hi⟩ := List.getElem?_of_mem hx
  exact ⟨i, x, hi, by simpa using e⟩
/-- The place, or none. -/
def AtTok (r : Bool) (w : World) (e : Ending) (w' : World) : Prop := Below w.heap.size w w' ∧ ((∃ p : Nat, e = .returned (.int .i64 p) ∧ r = true) ∨ (e = .returned (.int .i64 (-1)) ∧ r = false))
theorem ckIdx (ls : List Le) (n : Nat) (A : Option Addr) (c : Nat) (k : Int) (nb : Nat) (r : Bool) (hn : n = ls.length) (hr : r = anyTok ls k) (w : World) (h : Row w A (lec ls)) (hlie : Lies nb #[.int .i64 k] 3 w) (hl : n ≤ 100000) :
    Calls Try.prog 48 #[.slice A n c, .func (.func 46) #[] #[.pointer (some ⟨nb, 0, none⟩)]] w (AtTok r w) := by
  have HR := Lib.hid h
  have HLie := Lib.hid hlie
  have HN := Lib.hid hn
  have HRR := Lib.hid hr
  clear h hlie hn hr
  go_enter Try.func48, Try.ntmps48
  go_wp2_with fail
  go_loopw [8] (fun s8 wr => ∃ j : Nat, s8 = .int .i64 j ∧ j ≤ n ∧ (∀ i x, i < j → ls[i]? = some x → x.tok ≠ k) ∧ Below w.heap.size w wr) (fun s8 _ => n - (intOf s8).toNat)
  case atStart => exact ⟨0, rfl, Nat.zero_le _, fun i x hi => absurd hi (Nat.not_lt_zero _), Below.refl _ _⟩
  case round =>
    obtain ⟨j, rfl, hk, hno, hb⟩ := hrel
    have HB := Lib.hid hb
    have HNO := Lib.hid hno
    clear hb hno
    by_cases hlt : j < n
    · obtain ⟨x, hx⟩ : ∃ x, ls[j]? = some x := ⟨_, List.getElem?_eq_getElem (by rw [← HN.out]; exact hlt)⟩
      obtain ⟨b, off, rfl, c0, c1, c2⟩ := lease_row (HR.out.below HB.out) hx
      have HX := Lib.hid hx
      have HW := Lib.hid (wrapK (k := j) (by omega))
      clear hx
      cases hq : decide (x.tok = k) with
      | true =>
        have HD := Lib.hid (ckTokF x k nb wr (HLie.out.below HB.out))
        rw [hq] at HD
        have HQ := Lib.hid (of_decide_eq_true hq)
        clear hq
        go_wp2_with (go_at_call 46; refine HD.out.mono ?_; rintro e w1 ⟨rfl, hb1⟩; have HB1 := Lib.hid (below_next HB.out hb1); clear hb1)
        go_ret
        exact ⟨HB1.out, .inl ⟨j, rfl, HRR.out.trans (anyTok_yes HX.out HQ.out)⟩⟩
      | false =>
        have HD := Lib.hid (ckTokF x k nb wr (HLie.out.below HB.out))
        rw [hq] at HD
        have HQ := Lib.hid (of_decide_eq_false hq)
        clear hq
        go_wp2_with (go_at_call 46; refine HD.out.mono ?_; rintro e w1 ⟨rfl, hb1⟩; have HB1 := Lib.hid (below_next HB.out hb1); clear hb1)
        go_roundw
        case rel =>
          refine ⟨j + 1, by go_num, by omega, fun i y hi hy => ?_, HB1.out⟩
          by_cases e : i = j
          · subst e
            rw [HX.out] at hy; cases hy
            exact HQ.out
          · exact HNO.out i y (by omega) hy
        case measure => simp [intOf]; omega
    · have hge : n ≤ j := by omega
      go_wp2_with fail
      go_ret
      refine ⟨HB.out, .inr ⟨rfl, HRR.out.trans (anyTok_no fun i x hi => HNO.out i x (by have := (List.getElem?_eq_some_iff.1 hi).1; have := HN.out; omega) hi)⟩⟩
theorem ckContains (ls : List Le) (n : Nat) (A : Option Addr) (c : Nat) (k : Int) (nb : Nat) (r : Bool) (hn : n = ls.length) (hr : r = anyTok ls k) (w : World) (h : Row w A (lec ls)) (hlie : Lies nb #[.int .i64 k] 3 w) (hl : n ≤ 100000) :
    Calls Try.prog 45 #[.slice A n c, .func (.func 46) #[] #[.pointer (some ⟨nb, 0, none⟩)]] w (TellsB r w) := by
  have HI := Lib.hid (fun w' (hb : Below w.heap.size w w') => ckIdx ls n A c k nb r hn hr w' (h.below hb) (hlie.below hb) hl)
  clear h hlie hn hr
  go_enter Try.func45, Try.ntmps45
  go_wp2_with fail
  refine (HI.out _ (Below.refl _ _)).mono ?_
  rintro e w1 ⟨hb1, ⟨p, rfl, rfl⟩ | ⟨rfl, rfl⟩⟩
  · have HB := Lib.hid hb1
    have hp : decide ((0 : Int) ≤ (p : Int)) = true := decide_eq_true (by omega)
    clear hb1
    go_wp2_with fail
    go_ret
    exact ⟨rfl, HB.out⟩
  · have HB := Lib.hid hb1
    clear hb1
    go_wp2_with fail
    go_ret
    exact ⟨rfl, HB.out⟩
theorem ckHasTok (ls : List Le) (n : Nat) (A : Option Addr) (c : Nat) (k : Int) (r : Bool) (hn : n = ls.length) (hr : r = (decide (k ≠ 0) && anyTok ls k)) (w : World) (h : Row w A (lec ls)) (hl : n ≤ 100000) :
    Calls Try.prog 39 #[.slice A n c, .int .i64 k] w (TellsB r w) := by
  obtain ⟨q, hq⟩ : ∃ q, q = anyTok ls k := ⟨_, rfl⟩
  rw [← hq] at hr
  have hb0 := below_al (o := .cells #[.int .i64 k] 3) (Below.refl w.heap.size w)
  have HI := Lib.hid (ckContains ls n A c k w.heap.size q hn hq (w.alloc (.cells #[.int .i64 k] 3)) (h.below hb0) (Lies.new w _ _) hl)
  have HB := Lib.hid hb0
  have hmf : ∀ (fn : Fn) (first cap : Array Value) (w : World), (Instr.makeFunc fn first cap).run Try.prog w = .ok (.func fn first cap) w := fun _ _ _ _ => rfl
  clear h hn hb0 hq
  by_cases h1 : k = 0
  · have g1 : (k != 0) = false := nb0 h1
    have e : r = false := hr.trans (by rw [decide_eq_false (by simpa using h1)]; rfl)
    clear hr h1
    go_enter Try.func39, Try.ntmps39
    go_wp2_with fail
    go_ret
    exact ⟨by rw [e]; rfl, HB.out⟩
  · have g1 : (k != 0) = true := nb h1
    have e : r = q := hr.trans (by rw [decide_eq_true h1]; rfl)
    clear hr h1
    go_enter Try.func39, Try.ntmps39
    go_wp2_with fail
    refine HI.out.mono ?_
    rintro e1 w1 ⟨rfl, hb1⟩
    have HB1 := Lib.hid (below_next HB.out hb1)
    clear hb1
    go_wp2_with fail
    go_ret
    exact ⟨by rw [e]; cases q <;> rfl, HB1.out⟩
end Ls
end Go.Proofs.Ytgoapkbpcfbipaa
