/- The code's Right: a time, inputs, holds. -/
import Derived.Test.YtciagbeamphihaaMarkRefA
import Derived.Test.YtciagbeamphihaaTick
namespace Go.Proofs.Ytciagbeamphihaa
open Go.RowKit
set_option linter.unusedVariables false
set_option maxRecDepth 8000
namespace Wm
theorem ckClamp (t : Int) (w : World) : Calls Try.prog 34 #[.int .i64 t] w fun e w' => e = .returned (.int .i64 (clamp t)) ∧ w' = w :=
  (tickClamp t w).mono fun e w' ⟨h1, h2⟩ => ⟨h1, h2.symm⟩
theorem clamp_tOk (t : Int) : (t == clamp t) = tOk t := by
  cases h : tOk t with
  | true => rw [clamp_self h]; simp
  | false =>
    have : ¬ (0 ≤ t ∧ t ≤ 1099511627776) := fun hh => by rw [(tOk_iff t).2 hh] at h; cases h
    rw [clamp_eq]
    refine ne_b ?_
    omega
theorem ckTime (t : Int) {b : Bool} (hb : tOk t = b) (w : World) : Calls Try.prog 24 #[.int .i64 t] w fun e w' => e = .returned (.bool b) ∧ w' = w := by
  have he := clamp_tOk t
  have HC := Lib.hid (fun w => ckClamp t w)
  rw [hb] at he
  obtain ⟨c, hc⟩ : ∃ c, c = clamp t := ⟨_, rfl⟩
  rw [← hc] at he HC
  clear hc hb
  go_enter Try.func24, Try.ntmps24
  go_wp2_with fail
  refine (HC.out _).mono ?_
  rintro e w1 ⟨rfl, rfl⟩
  go_wp2_with fail
  go_ret
  exact ⟨by first | rfl | rw [he], rfl⟩
def insOk (l : List In) : Bool := l.all (fun i => tOk i.mark) && decide (1 ≤ l.length ∧ l.length ≤ 8)
theorem insOk_no {l : List In} {x : In} {k : Nat} (hx : l[k]? = some x) (hb : tOk x.mark = false) : insOk l = false := by
  unfold insOk
  have : l.all (fun i => tOk i.mark) = false := by
    rw [List.all_eq_false]
    exact ⟨x, List.mem_of_getElem? hx, by rw [hb]; simp⟩
  rw [this]; rfl
theorem insOk_end {l : List In} (h : ∀ x ∈ l, tOk x.mark = true) : insOk l = decide (1 ≤ l.length ∧ l.length ≤ 8) := by
  unfold insOk
  rw [List.all_eq_true.2 h, Bool.true_and]
set_option maxRecDepth 100000 in
set_option maxHeartbeats 2000000 in
theorem ckIns (ins : List In) (A : Option Addr) (c : Nat) (w : World) (h : Row w A (ic ins)) (hl : ins.length ≤ 9223372036854775807) : Calls Try.prog 22 #[.slice A ins.length c] w (TellsB (insOk ins) w) := by
  have H := Lib.hid h
  obtain ⟨r, hr⟩ : ∃ r, r = insOk ins := ⟨_, rfl⟩
  have HR := Lib.hid hr
  rw [← hr]
  clear h hr
  go_enter Try.func22, Try.ntmps22
  go_wp2_with fail
  go_loopw [7] (fun i wr => ∃ k : Nat, i = .int .i64 k ∧ k ≤ ins.length ∧ (∀ x ∈ ins.take k, tOk x.mark = true) ∧ Below w.heap.size w wr) (fun i _ => ins.length - (intOf i).toNat)
  case atStart => exact ⟨0, rfl, Nat.zero_le _, by simp, Below.refl _ _⟩
  case round =>
    obtain ⟨k, rfl, hk, hto, hb⟩ := hrel
    have HB := Lib.hid hb
    have HTO := Lib.hid hto
    clear hb hto
    by_cases hlt : k < ins.length
    · obtain ⟨x, hx⟩ : ∃ x, ins[k]? = some x := ⟨_, List.getElem?_eq_getElem hlt⟩
      obtain ⟨b, off, rfl, c0, c1⟩ := row_in (H.out.below HB.out) hx
      have HX := Lib.hid hx
      clear hx
      rcases hb : tOk x.mark with _ | _
      · have er := HR.out.trans (insOk_no HX.out hb)
        subst er
        have HT2 := Lib.hid (fun w => ckTime x.mark hb w)
        clear hb
        go_wp2_with fail
        refine (HT2.out _).mono ?_
        rintro e w2 ⟨rfl, rfl⟩
        go_wp2_with fail
        go_ret
        exact ⟨rfl, below_next HB.out (al_below _ _)⟩
      · have HT2 := Lib.hid (fun w => ckTime x.mark hb w)
        have HXO := Lib.hid hb
        clear hb
        go_wp2_with fail
        refine (HT2.out _).mono ?_
        rintro e w2 ⟨rfl, rfl⟩
        go_wp2_with fail
        go_roundw
        case rel =>
          refine ⟨k + 1, by go_num, by omega, ?_, below_next HB.out (al_below _ _)⟩
          rw [List.take_add_one, HX.out]
          intro y hy
          rcases List.mem_append.1 hy with hy | hy
          · exact HTO.out y hy
          · have : y = x := by simpa using hy
            rw [this]; exact HXO.out
        case measure => simp [intOf]; omega
    · have hke : ins.take k = ins := List.take_of_length_le (by omega)
      have HE := Lib.hid (HR.out.trans (insOk_end (hke ▸ HTO.out)))
      clear hke
      have hway : ((ins.length : Int) < 1 ∧ r = false) ∨ (¬ (ins.length : Int) < 1 ∧ (8 : Int) < ins.length ∧ r = false) ∨ (¬ (ins.length : Int) < 1 ∧ ¬ (8 : Int) < ins.length ∧ r = true) := by
        rw [HE.out]
        by_cases h1 : (ins.length : Int) < 1
        · left; exact ⟨h1, decide_eq_false (by omega)⟩
        · right
          by_cases h2 : (8 : Int) < ins.length
          · left; exact ⟨h1, h2, decide_eq_false (by omega)⟩
          · right; exact ⟨h1, h2, decide_eq_true (by omega)⟩
      rcases hway with ⟨a1, rfl⟩ | ⟨a1, a2, rfl⟩ | ⟨a1, a2, rfl⟩
      all_goals (
        go_wp2_with fail
        go_ret
        refine ⟨?_, HB.out⟩
        first | rfl | (simp; omega))
def hosOk (l : List Ho) : Bool := chain (-1) l && decide (l.length ≤ 32)
theorem prev_succ {hs : List Ho} {k : Nat} {x : Ho} (hx : hs[k]? = some x) : prev hs (k + 1) = x.no := by
  unfold prev
  rw [if_neg (by omega), show k + 1 - 1 = k by omega, List.getD_eq_getElem?_getD, hx]; rfl
theorem hosOk_no {hs : List Ho} {x : Ho} {k : Nat} (hx : hs[k]? = some x) (hb : (decide (prev hs k < x.no) && tOk x.at_) = false) : hosOk hs = false := by
  have h2 := chain_next hx
  rw [hb, Bool.and_false] at h2
  unfold hosOk
  rw [chain_to h2]; rfl
set_option maxRecDepth 100000 in
set_option maxHeartbeats 2000000 in
theorem ckHos (hs : List Ho) (A : Option Addr) (c : Nat) (w : World) (h : Row w A (hc hs)) (hl : hs.length ≤ 9223372036854775807) : Calls Try.prog 23 #[.slice A hs.length c] w (TellsB (hosOk hs) w) := by
  have H := Lib.hid h
  obtain ⟨r, hr⟩ : ∃ r, r = hosOk hs := ⟨_, rfl⟩
  have HR := Lib.hid hr
  rw [← hr]
  clear h hr
  go_enter Try.func23, Try.ntmps23
  go_wp2_with fail
  go_loopw [3, 8] (fun p i wr => ∃ k : Nat, i = .int .i64 k ∧ p = .int .i64 (prev hs k) ∧ k ≤ hs.length ∧ chain (-1) (hs.take k) = true ∧ Below w.heap.size w wr) (fun _ i _ => hs.length - (intOf i).toNat)
  case atStart => exact ⟨0, rfl, rfl, Nat.zero_le _, rfl, Below.refl _ _⟩
  case round =>
    obtain ⟨k, rfl, rfl, hk, hch, hb⟩ := hrel
    have HB := Lib.hid hb
    have HCH := Lib.hid hch
    obtain ⟨p, hp⟩ : ∃ p, p = prev hs k := ⟨_, rfl⟩
    have HP := Lib.hid hp
    rw [← hp]
    clear hb hch hp
    by_cases hlt : k < hs.length
    · obtain ⟨x, hx⟩ : ∃ x, hs[k]? = some x := ⟨_, List.getElem?_eq_getElem hlt⟩
      obtain ⟨b, off, rfl, c0, c1⟩ := row_ho (H.out.below HB.out) hx
      have HX := Lib.hid hx
      clear hx
      by_cases b1 : x.no ≤ p
      · have er := HR.out.trans (hosOk_no HX.out (by rw [← HP.out, decide_eq_false (by omega)]; rfl))
        subst er
        go_wp2_with fail
        go_ret
        exact ⟨rfl, below_next HB.out (al_below _ _)⟩
      · rcases hb : tOk x.at_ with _ | _
        · have er := HR.out.trans (hosOk_no HX.out (by rw [hb, Bool.and_false]))
          subst er
          have HT2 := Lib.hid (fun w => ckTime x.at_ hb w)
          clear hb
          go_wp2_with fail
          refine (HT2.out _).mono ?_
          rintro e w2 ⟨rfl, rfl⟩
          go_wp2_with fail
          go_ret
          exact ⟨rfl, below_next HB.out (al_below _ _)⟩
        · have HT2 := Lib.hid (fun w => ckTime x.at_ hb w)
          have HXO := Lib.hid hb
          clear hb
          go_wp2_with fail
          refine (HT2.out _).mono ?_
          rintro e w2 ⟨rfl, rfl⟩
          go_wp2_with fail
          go_roundw
          case rel => exact ⟨k + 1, by go_num, by rw [prev_succ HX.out], by omega, by rw [chain_next HX.out, HCH.out, HXO.out, ← HP.out, decide_eq_true (by omega)]; rfl, below_next HB.out (al_below _ _)⟩
          case measure => simp [intOf]; omega
    · have hke : hs.take k = hs := List.take_of_length_le (by omega)
      have HE := Lib.hid (show r = decide (hs.length ≤ 32) by rw [HR.out]; unfold hosOk; rw [← hke, HCH.out, hke, Bool.true_and])
      clear hke
      have hway : ((32 : Int) < hs.length ∧ r = false) ∨ (¬ (32 : Int) < hs.length ∧ r = true) := by
        rw [HE.out]
        by_cases h1 : (32 : Int) < hs.length
        · left; exact ⟨h1, decide_eq_false (by omega)⟩
        · right; exact ⟨h1, decide_eq_true (by omega)⟩
      rcases hway with ⟨a1, rfl⟩ | ⟨a1, rfl⟩
      all_goals (
        go_wp2_with fail
        go_ret
        refine ⟨?_, HB.out⟩
        first | rfl | (simp; omega))
theorem right_parts (m : Mk) : right m = (insOk m.ins && (hosOk m.holds && tOk m.out)) := by
  rw [Bool.eq_iff_iff, right_iff]
  simp only [insOk, hosOk, Bool.and_eq_true, decide_eq_true_eq, List.all_eq_true]
  constructor
  · rintro ⟨⟨h1, h2, h3⟩, h4, h5, h6⟩
    exact ⟨⟨h5, h1, h2⟩, ⟨h6, h3⟩, h4⟩
  · rintro ⟨⟨h5, h1, h2⟩, ⟨h6, h3⟩, h4⟩
    exact ⟨⟨h1, h2, h3⟩, h4, h5, h6⟩
set_option maxRecDepth 100000 in
set_option maxHeartbeats 2000000 in
theorem ckRight (m : Mk) (A : Option Addr) (c : Nat) (B : Option Addr) (d : Nat) (w : World) (h : Has m A c B d w) : Calls Try.prog 13 #[mv m A c B d] w (TellsB (right m) w) := by
  have hl := h.len
  have HI := Lib.hid (fun w' (hb : Below w.heap.size w w') => ckIns m.ins A c w' (h.ri.below hb) hl.1)
  have HH := Lib.hid (fun w' (hb : Below w.heap.size w w') => ckHos m.holds B d w' (h.rh.below hb) hl.2)
  have hr := right_parts m
  obtain ⟨r, er⟩ : ∃ r, r = right m := ⟨_, rfl⟩
  rw [← er] at hr ⊢
  clear er
  have M0 := Lib.hid (show MkAt w.heap.size m A c B d (w.alloc (.cells (mkC (.slice A m.ins.length c) (.slice B m.holds.length d) m.out) 25)) from Lies.new w _ _)
  clear h hl
  cases hi : insOk m.ins with
  | false =>
    rw [hi, Bool.false_and] at hr
    rw [hi] at HI
    subst hr
    clear hi
    go_enter Try.func13, Try.ntmps13
    go_wp2_with fail
    refine (HI.out _ (al_below _ _)).mono ?_
    rintro e w1 ⟨rfl, hb1⟩
    have HB1 := Lib.hid (below_next (al_below _ _) hb1)
    clear hb1
    go_wp2_with fail
    go_ret
    exact ⟨rfl, HB1.out⟩
  | true =>
    rw [hi, Bool.true_and] at hr
    rw [hi] at HI
    clear hi
    cases hh : hosOk m.holds with
    | false =>
      rw [hh, Bool.false_and] at hr
      rw [hh] at HH
      subst hr
      clear hh
      go_enter Try.func13, Try.ntmps13
      go_wp2_with fail
      refine (HI.out _ (al_below _ _)).mono ?_
      rintro e w1 ⟨rfl, hb1⟩
      have HB1 := Lib.hid (below_next (al_below _ _) hb1)
      have M1 := Lib.hid (M0.out.next hb1)
      obtain ⟨z0, z1, z2⟩ := M1.out.cells
      clear hb1
      go_wp2_with fail
      refine (HH.out _ HB1.out).mono ?_
      rintro e w2 ⟨rfl, hb2⟩
      have HB2 := Lib.hid (below_next HB1.out hb2)
      clear hb2
      go_wp2_with fail
      go_ret
      exact ⟨rfl, HB2.out⟩
    | true =>
      rw [hh, Bool.true_and] at hr
      rw [hh] at HH
      have HT := Lib.hid (fun w => ckTime m.out hr.symm w)
      clear hh hr
      go_enter Try.func13, Try.ntmps13
      go_wp2_with fail
      refine (HI.out _ (al_below _ _)).mono ?_
      rintro e w1 ⟨rfl, hb1⟩
      have HB1 := Lib.hid (below_next (al_below _ _) hb1)
      have M1 := Lib.hid (M0.out.next hb1)
      obtain ⟨z0, z1, z2⟩ := M1.out.cells
      clear hb1
      go_wp2_with fail
      refine (HH.out _ HB1.out).mono ?_
      rintro e w2 ⟨rfl, hb2⟩
      have HB2 := Lib.hid (below_next HB1.out hb2)
      have M2 := Lib.hid (M1.out.next hb2)
      clear hb2 z0 z1 z2
      obtain ⟨z0, z1, z2⟩ := M2.out.cells
      go_wp2_with fail
      refine (HT.out _).mono ?_
      rintro e w3 ⟨rfl, rfl⟩
      go_wp2_with fail
      go_ret
      exact ⟨rfl, HB2.out⟩
set_option maxRecDepth 100000 in
set_option maxHeartbeats 2000000 in
theorem ckHas (m : Mk) (A : Option Addr) (c : Nat) (B : Option Addr) (d : Nat) (i : Int) (w : World) (h : Has m A c B d w) : Calls Try.prog 33 #[mv m A c B d, .int .i64 i] w (TellsB (there m i) w) := by
  have HR := Lib.hid (fun w' (hb : Below w.heap.size w w') => ckRight m A c B d w' (h.next hb))
  have hl := h.len
  have hr : there m i = (right m && decide (0 ≤ i ∧ i < m.ins.length)) := rfl
  obtain ⟨r, er⟩ : ∃ r, r = there m i := ⟨_, rfl⟩
  rw [← er] at hr ⊢
  have M0 := Lib.hid (show MkAt w.heap.size m A c B d (w.alloc (.cells (mkC (.slice A m.ins.length c) (.slice B m.holds.length d) m.out) 25)) from Lies.new w _ _)
  clear er h
  have hway : (right m = false ∧ r = false) ∨ (right m = true ∧ i < 0 ∧ r = false) ∨ (right m = true ∧ ¬ i < 0 ∧ (m.ins.length : Int) ≤ i ∧ r = false) ∨ (right m = true ∧ ¬ i < 0 ∧ ¬ (m.ins.length : Int) ≤ i ∧ r = true) := by
    rw [hr]
    cases right m
    · left; exact ⟨rfl, rfl⟩
    · right
      by_cases h1 : i < 0
      · left; exact ⟨rfl, h1, by rw [decide_eq_false (by omega)]; rfl⟩
      · right
        by_cases h2 : (m.ins.length : Int) ≤ i
        · left; exact ⟨rfl, h1, h2, by rw [decide_eq_false (by omega)]; rfl⟩
        · right; exact ⟨rfl, h1, h2, by rw [decide_eq_true (by omega)]; rfl⟩
  clear hr
  rcases hway with ⟨h0, rfl⟩ | ⟨h0, a1, rfl⟩ | ⟨h0, a1, a2, rfl⟩ | ⟨h0, a1, a2, rfl⟩
  all_goals (
    rw [h0] at HR
    clear h0
    go_enter Try.func33, Try.ntmps33
    go_wp2_with fail
    refine (HR.out _ (al_below _ _)).mono ?_
    rintro e w1 ⟨rfl, hb1⟩
    have HB1 := Lib.hid (below_next (al_below _ _) hb1)
    have M1 := Lib.hid (M0.out.next hb1)
    obtain ⟨z0, z1, z2⟩ := M1.out.cells
    clear hb1
    go_wp2_with fail
    go_ret
    refine ⟨?_, HB1.out⟩
    first | rfl | (simp; omega))
end Wm
end Go.Proofs.Ytciagbeamphihaa
