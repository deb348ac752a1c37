/- The code's rightLeases, Right, hasGroup. -/
import Derived.Test.YtgoapkbpcfbipaaLeaseD
namespace Go.Proofs.Ytgoapkbpcfbipaa
open Go.ChangeShapes Go.WideShapes Go.ChangeAt Go.RowKit
set_option linter.unusedVariables false
set_option maxRecDepth 8000
namespace Ls
open Gen (TellsB TellsI SaysB row_one)
open Tick (cl addT)
def rightLs (ls : List Le) (last : Int) : Bool := ls.all (okL last) && solo ls && decide (1 ≤ ls.length ∧ ls.length ≤ 32)
theorem right_as (ls : List Le) (last : Int) : rightT ⟨ls, last⟩ = (rightLs ls last && decide (0 ≤ last ∧ last ≤ 1073741824)) := by
  unfold rightT rightLs
  simp only [Bool.decide_and, Bool.and_assoc]
theorem rightLs_iff (ls : List Le) (last : Int) : rightLs ls last = true ↔ (1 ≤ ls.length ∧ ls.length ≤ 32) ∧ UpTo ls last ls.length := by
  unfold rightLs UpTo
  rw [Bool.and_eq_true, Bool.and_eq_true, solo_iff, decide_eq_true_eq, List.all_eq_true]
  constructor
  · rintro ⟨⟨h1, h2⟩, h3⟩
    exact ⟨h3, fun i x _ hx => h1 x (List.mem_of_getElem? hx), fun i j x y _ => h2 i j x y⟩
  · rintro ⟨h3, h1, h2⟩
    exact ⟨⟨fun x hx => by obtain ⟨i, hi⟩ := List.getElem?_of_mem hx; exact h1 i x (List.getElem?_eq_some_iff.1 hi).1 hi, fun i j x y hj hx => h2 i j x y (List.getElem?_eq_some_iff.1 hx).1 hj hx⟩, h3⟩
/-- The loop's blocks. -/
structure RlAt (w0 : World) (b : Nat) (x : Le) (w : World) : Prop where
  one : Lies b (leC x) 47 w
  below : Below w0.heap.size w0 w
theorem RlAt.next {w0 : World} {b : Nat} {x : Le} {w w' : World} (h : RlAt w0 b x w) (hb : Below w.heap.size w w') : RlAt w0 b x w' := ⟨h.one.below hb, below_next h.below hb⟩
theorem UpTo.tok {ls : List Le} {last : Int} {n k : Nat} (h : UpTo ls last n) (hk : k < n) {x : Le} (hx : ls[k]? = some x) : okL last x = true ∧ (decide (x.tok ≠ 0) && anyTok (ls.take k) x.tok) = false := by
  have h0 := h.1 k x hk hx
  refine ⟨h0, ?_⟩
  by_cases e : x.tok = 0
  · rw [decide_eq_false (by simpa using e)]; rfl
  · rw [decide_eq_true e, Bool.true_and]
    refine anyTok_no fun i y hy => ?_
    have hik : i < k := by have := (List.getElem?_eq_some_iff.1 hy).1; rw [List.length_take] at this; omega
    rw [List.getElem?_take_of_lt hik] at hy
    have := (okL_iff _ _).1 h0
    exact h.2 k i x y hk hik hx hy (by omega)
theorem UpTo.more {ls : List Le} {last : Int} {k : Nat} (h : UpTo ls last k) {x : Le} (hx : ls[k]? = some x) (h1 : okL last x = true) (h2 : (decide (x.tok ≠ 0) && anyTok (ls.take k) x.tok) = false) : UpTo ls last (k + 1) := by
  refine h.next hx h1 fun j y hj hy h0 => ?_
  rw [decide_eq_true (by omega), Bool.true_and] at h2
  exact anyTok_false h2 (i := j) (by rw [List.getElem?_take_of_lt hj]; exact hy)
set_option maxHeartbeats 1000000 in
theorem ckRightLs (ls : List Le) (n : Nat) (last : Int) (A : Option Addr) (c : Nat) (r : Bool) (hn : n = ls.length) (hr : r = rightLs ls last) (w : World) (h : Row w A (lec ls)) (hl : n ≤ 100000) (hc : n ≤ c) :
    Calls Try.prog 27 #[.slice A n c, .int .i64 last] w (TellsB r w) := by
  have HR := Lib.hid h
  have HN := Lib.hid hn
  have HC := Lib.hid hc
  have HRR : Hid (r = true ↔ (1 ≤ n ∧ n ≤ 32) ∧ UpTo ls last n) := Lib.hid (by rw [hr, hn]; exact rightLs_iff ls last)
  have HL := Lib.hid (fun x q hq w' => ckLease x last q hq w')
  have HTK := Lib.hid (fun (k : Nat) (hk : k ≤ n) t q hq w' (hb : Below w.heap.size w w') => ckHasTok (ls.take k) k A c t q (by rw [List.length_take]; omega) hq w' (Gen.row_take leL_len (h.below hb) k) (by omega))
  clear h hn hr hc
  by_cases h1 : n < 1
  · have g1 : decide ((n : Int) < 1) = true := decide_eq_true (by omega)
    have e : r = false := no_r HRR.out.1 (fun hh => by omega)
    go_enter Try.func27, Try.ntmps27
    go_wp2_with fail
    go_ret
    exact ⟨by (try rw [e]); rfl, Below.refl _ _⟩
  · have g1 : decide ((n : Int) < 1) = false := decide_eq_false (by omega)
    by_cases h2 : 32 < n
    · have g2 : decide ((32 : Int) < (n : Int)) = true := decide_eq_true (by omega)
      have e : r = false := no_r HRR.out.1 (fun hh => by omega)
      clear h1
      go_enter Try.func27, Try.ntmps27
      go_wp2_with fail
      go_ret
      exact ⟨by (try rw [e]); rfl, Below.refl _ _⟩
    · have g2 : decide ((32 : Int) < (n : Int)) = false := decide_eq_false (by omega)
      have HNN : Hid (1 ≤ n ∧ n ≤ 32) := Lib.hid (by omega)
      clear h1 h2 hl
      go_enter Try.func27, Try.ntmps27
      go_wp2_with fail
      clear g1 g2
      go_loopw [17] (fun i wr => ∃ k : Nat, i = .int .i64 k ∧ k ≤ n ∧ UpTo ls last k ∧ Below w.heap.size w wr) (fun i _ => n - (intOf i).toNat)
      case atStart => exact ⟨0, rfl, Nat.zero_le _, ⟨fun i x h => by omega, fun i j x y h => by omega⟩, Below.refl _ _⟩
      case round =>
        obtain ⟨k, rfl, hk, hto, hb⟩ := hrel
        have HB := Lib.hid hb
        have HTO := Lib.hid hto
        clear hb hto
        by_cases hlt : k < n
        · obtain ⟨x, hx⟩ : ∃ x, ls[k]? = some x := ⟨_, List.getElem?_eq_getElem (by rw [← HN.out]; exact hlt)⟩
          obtain ⟨b, off, hA, c0, c1, c2⟩ := lease_row (HR.out.below HB.out) hx
          subst hA
          have HX := Lib.hid hx
          have HK := Lib.hid hk
          have HKN := Lib.hid hlt
          have hki : (k : Int) < (n : Int) := by omega
          have hw := wrapK (k := k) (by have := HNN.out; omega)
          clear hx hlt hk
          obtain ⟨q, hq⟩ : ∃ q, q = okL last x := ⟨_, rfl⟩
          have HLX := Lib.hid (fun w' => HL.out x q hq w')
          obtain ⟨p, hp⟩ : ∃ p, p = (decide (x.tok ≠ 0) && anyTok (ls.take k) x.tok) := ⟨_, rfl⟩
          have HTX := Lib.hid (fun w' hb => HTK.out k HK.out x.tok p hp w' hb)
          have HQ := Lib.hid hq
          have HP := Lib.hid hp
          clear hq hp
          have W0 := Lib.hid (show RlAt w wr.heap.size x (wr.alloc (.cells (leC x) 47)).drew from ⟨Lies.new wr _ _, below_drewOf (below_next HB.out (below_al (Below.refl _ _)))⟩)
          have hk1 : (k : Int) ≤ (c : Int) := by have := HC.out; have := HK.out; omega
          have hk2 : k ≤ c := by omega
          have hk3 : (0 : Int) ≤ (k : Int) := by omega
          obtain ⟨o, t, u⟩ := x
          simp only [leC] at W0 HLX HTX
          simp only at c0 c1 c2
          go_upto_region 6 with fail
          clear c0 c1 c2
          cases q
          · have e : r = false := no_r HRR.out.1 (fun hh => by have := (hh.2.tok HKN.out HX.out).1; rw [← HQ.out] at this; cases this)
            refine wide_all (RlAt w wr.heap.size ⟨o, t, u⟩) (by kernel_rfl) (by kernel_rfl) W0.out ?_
            repeat (first
              | go_big_quiet_skip
              | (go_big_quiet_want
                 apply wide_op
                 · (intro w5 h5; have c0 := h5.one.cell (j := 0) rfl; have c1 := h5.one.cell (j := 1) rfl; have c2 := h5.one.cell (j := 2) rfl; go_simp; first | done | with_reducible rfl | (refine (HLX.out _).mono ?_; rintro e w6 ⟨rfl, hb6⟩; exact ⟨rfl, h5.next hb6⟩))
                 (try simp only [Act.put, List.setIfInBounds_toArray, List.set_cons_zero, List.set_cons_succ])
                 go_big_quiet_on))
            refine wpQuiet_nil ?_
            intro w6 h6
            have H6 := Lib.hid h6
            clear h6
            go_wp2_with fail
            go_ret
            exact ⟨by (try rw [e]); rfl, H6.out.below⟩
          · refine wide_all (RlAt w wr.heap.size ⟨o, t, u⟩) (by kernel_rfl) (by kernel_rfl) W0.out ?_
            repeat (first
              | go_big_quiet_skip
              | (go_big_quiet_want
                 apply wide_op
                 · (intro w5 h5; have c0 := h5.one.cell (j := 0) rfl; have c1 := h5.one.cell (j := 1) rfl; have c2 := h5.one.cell (j := 2) rfl; go_simp; first | done | with_reducible rfl | (refine (HLX.out _).mono ?_; rintro e w6 ⟨rfl, hb6⟩; exact ⟨rfl, h5.next hb6⟩) | (refine (HTX.out _ h5.below).mono ?_; rintro e w6 ⟨rfl, hb6⟩; exact ⟨rfl, h5.next hb6⟩))
                 (try simp only [Act.put, List.setIfInBounds_toArray, List.set_cons_zero, List.set_cons_succ])
                 go_big_quiet_on))
            refine wpQuiet_nil ?_
            intro w6 h6
            have H6 := Lib.hid h6
            clear h6
            cases p
            · go_wp2_with fail
              go_roundw
              case rel => exact ⟨k + 1, rfl, HKN.out, HTO.out.more HX.out HQ.out.symm HP.out.symm, H6.out.below⟩
              case measure => simp [intOf]; have := HKN.out; omega
            · have e : r = false := no_r HRR.out.1 (fun hh => by have := (hh.2.tok HKN.out HX.out).2; rw [← HP.out] at this; cases this)
              go_wp2_with fail
              go_ret
              exact ⟨by (try rw [e]); rfl, H6.out.below⟩
        · have e : r = true := HRR.out.2 ⟨HNN.out, by rw [show n = k by omega]; exact HTO.out⟩
          have hki : ¬ (k : Int) < (n : Int) := by omega
          go_wp2_with fail
          go_ret
          exact ⟨by (try rw [e]); rfl, HB.out⟩
set_option maxHeartbeats 1000000 in
theorem ckRight (ls : List Le) (n : Nat) (last : Int) (A : Option Addr) (c : Nat) (r : Bool) (hn : n = ls.length) (hr : r = rightT ⟨ls, last⟩) (w : World) (h : Row w A (lec ls)) (hl : n ≤ 100000) (hc : n ≤ c) :
    Calls Try.prog 13 #[.agg #[.slice A n c, .int .i64 last]] w (TellsB r w) := by
  obtain ⟨q, hq⟩ : ∃ q, q = rightLs ls last := ⟨_, rfl⟩
  have hb0 := below_al (o := .cells #[.slice A n c, .int .i64 last] 24) (Below.refl w.heap.size w)
  have HI := Lib.hid (ckRightLs ls n last A c q hn hq (w.alloc (.cells #[.slice A n c, .int .i64 last] 24)) (h.below hb0) hl hc)
  have HB := Lib.hid hb0
  have HRR : Hid (r = (q && decide (0 ≤ last ∧ last ≤ 1073741824))) := Lib.hid (by rw [hr, hq]; exact right_as ls last)
  clear h hn hb0 hq hr hl hc
  by_cases h1 : 0 ≤ last
  · have g1 : decide (0 ≤ last) = true := decide_eq_true h1
    by_cases h2 : last ≤ 1073741824
    · have g2 : decide (last ≤ 1073741824) = true := decide_eq_true h2
      have e : r = q := HRR.out.trans (by rw [decide_eq_true (And.intro h1 h2), Bool.and_true])
      clear h1 h2
      go_enter Try.func13, Try.ntmps13
      go_wp2_with fail
      refine HI.out.mono ?_
      rintro e1 w1 ⟨rfl, hb1⟩
      have HB1 := Lib.hid (below_next HB.out hb1)
      clear hb1
      go_wp2_with fail
      go_ret
      exact ⟨by rw [e]; cases q <;> rfl, HB1.out⟩
    · have g2 : decide (last ≤ 1073741824) = false := decide_eq_false h2
      have e : r = false := HRR.out.trans (by rw [decide_eq_false (fun h => h2 h.2), Bool.and_false])
      clear h1 h2
      go_enter Try.func13, Try.ntmps13
      go_wp2_with fail
      go_ret
      exact ⟨by (try rw [e]); rfl, HB.out⟩
  · have g1 : decide (0 ≤ last) = false := decide_eq_false h1
    have e : r = false := HRR.out.trans (by rw [decide_eq_false (fun h => h1 h.1), Bool.and_false])
    clear h1
    go_enter Try.func13, Try.ntmps13
    go_wp2_with fail
    go_ret
    exact ⟨by (try rw [e]); rfl, HB.out⟩
theorem ckHas (ls : List Le) (n : Nat) (last g : Int) (A : Option Addr) (c : Nat) (r : Bool) (hn : n = ls.length) (hr : r = hasT ⟨ls, last⟩ g) (w : World) (h : Row w A (lec ls)) (hl : n ≤ 100000) (hc : n ≤ c) :
    Calls Try.prog 30 #[.agg #[.slice A n c, .int .i64 last], .int .i64 g] w (TellsB r w) := by
  obtain ⟨q, hq⟩ : ∃ q, q = rightT ⟨ls, last⟩ := ⟨_, rfl⟩
  have hb0 := below_al (o := .cells #[.slice A n c, .int .i64 last] 24) (Below.refl w.heap.size w)
  have HI := Lib.hid (ckRight ls n last A c q hn hq (w.alloc (.cells #[.slice A n c, .int .i64 last] 24)) (h.below hb0) hl hc)
  have HB := Lib.hid hb0
  have LS := Lib.hid (Lies.new w #[.slice A n c, .int .i64 last] 24)
  have HRR : Hid (r = (q && decide (0 ≤ g ∧ g < (n : Int)))) := Lib.hid (by rw [hr, hq, hn]; rfl)
  clear h hn hb0 hq hr hl hc
  go_enter Try.func30, Try.ntmps30
  go_upto_region 1 with fail
  obtain ⟨tb, htb⟩ : ∃ b, b = w.heap.size := ⟨_, rfl⟩
  obtain ⟨W, hW⟩ : ∃ W, W = w.alloc (.cells #[.slice A n c, .int .i64 last] 24) := ⟨_, rfl⟩
  rw [← hW] at LS HI HB ⊢
  rw [← htb] at LS ⊢
  clear hW htb
  have x0 := LS.out.cell (j := 0) rfl; have x1 := LS.out.cell (j := 1) rfl
  go_wp2_with fail
  refine HI.out.mono ?_
  rintro e w1 ⟨rfl, hb1⟩
  have HB1 := Lib.hid (below_next HB.out hb1)
  have L1 := Lib.hid (LS.out.below hb1)
  clear hb1 x0 x1
  have x0 := L1.out.cell (j := 0) rfl
  cases q
  · have e : r = false := HRR.out
    go_wp2_with fail
    go_ret
    exact ⟨by (try rw [e]); rfl, HB1.out⟩
  · by_cases h1 : 0 ≤ g
    · have g1 : decide (0 ≤ g) = true := decide_eq_true h1
      by_cases h2 : g < (n : Int)
      · have g2 : decide (g < (n : Int)) = true := decide_eq_true h2
        have e : r = true := HRR.out.trans (by rw [decide_eq_true (And.intro h1 h2)]; rfl)
        clear h1 h2
        go_wp2_with fail
        go_ret
        exact ⟨by (try rw [e]); rfl, HB1.out⟩
      · have g2 : decide (g < (n : Int)) = false := decide_eq_false h2
        have e : r = false := HRR.out.trans (by rw [decide_eq_false (fun h => h2 h.2)]; rfl)
        clear h1 h2
        go_wp2_with fail
        go_ret
        exact ⟨by (try rw [e]); rfl, HB1.out⟩
    · have g1 : decide (0 ≤ g) = false := decide_eq_false h1
      have e : r = false := HRR.out.trans (by rw [decide_eq_false (fun h => h1 h.1)]; rfl)
      clear h1
      go_wp2_with fail
      go_ret
      exact ⟨by (try rw [e]); rfl, HB1.out⟩
end Ls
end Go.Proofs.Ytgoapkbpcfbipaa
