/- Right of the reference. -/
import Derived.Test.YtciagbeamphihaaMarkRefA
namespace Go.Proofs.Ytciagbeamphihaa
open Go.RowKit
set_option linter.unusedVariables false
set_option maxRecDepth 8000
namespace Wm
/-- What a round over holds hangs on: the hold's copy, the marks' block, the hold before it. -/
structure HoRd (w0 : World) (m : Mk) (A : Option Addr) (c : Nat) (B : Option Addr) (d : Nat) (p : Nat) (x : Ho) (b o : Nat) (y : Int) (w : World) : Prop where
  ho : Lies p (hoC x) 44 w
  ma : MkAt w0.heap.size m A c B d w
  pr : w.cell? ⟨b, o, none⟩ = some (.int .i64 y)
  below : Below w0.heap.size w0 w
theorem HoRd.next {w0 : World} {m : Mk} {A : Option Addr} {c : Nat} {B : Option Addr} {d : Nat} {p : Nat} {x : Ho} {b o : Nat} {y : Int} {w w' : World} (h : HoRd w0 m A c B d p x b o y w) (hb : Below w.heap.size w w') : HoRd w0 m A c B d p x b o y w' :=
  ⟨(hb.block _ (lt_of_block h.ho)).trans h.ho, h.ma.next hb, (hb.cell (lt_of_cell h.pr)).trans h.pr, below_next h.below hb⟩
theorem rfTimeB (t : Int) {b : Bool} (hb : tOk t = b) (w : World) : Calls Try.prog 25 #[.int .i64 t] w (TellsB b w) :=
  (rfTime t w).mono fun e w' ⟨h1, h2⟩ => ⟨hb ▸ h1, h2 ▸ Below.refl _ _⟩
set_option maxRecDepth 100000 in
set_option maxHeartbeats 4000000 in
theorem rfRightM (m : Mk) (A : Option Addr) (c : Nat) (B : Option Addr) (d : Nat) (w : World) (h : Has m A c B d w) : Calls Try.prog 14 #[mv m A c B d] w (TellsB (right m) w) := by
  have hl := h.len
  obtain ⟨ins, hs, out⟩ := m
  simp only at hl ⊢
  have H := Lib.hid h
  have HI := Lib.hid (right_iff ⟨ins, hs, out⟩)
  obtain ⟨r, hr⟩ : ∃ r, r = right ⟨ins, hs, out⟩ := ⟨_, rfl⟩
  rw [← hr] at HI ⊢
  simp only at HI
  have M0 := Lib.hid (show MkAt w.heap.size ⟨ins, hs, out⟩ A c B d (w.alloc (.cells (mkC (.slice A ins.length c) (.slice B hs.length d) out) 25)) from Lies.new w _ _)
  have HL := Lib.hid hl
  have hway : ((ins.length : Int) < 1) ∨ (¬ (ins.length : Int) < 1 ∧ (8 : Int) < ins.length) ∨ (¬ (ins.length : Int) < 1 ∧ ¬ (8 : Int) < ins.length ∧ (32 : Int) < hs.length) ∨
      (¬ (ins.length : Int) < 1 ∧ ¬ (8 : Int) < ins.length ∧ ¬ (32 : Int) < hs.length ∧ tOk out = false) ∨ (¬ (ins.length : Int) < 1 ∧ ¬ (8 : Int) < ins.length ∧ ¬ (32 : Int) < hs.length ∧ tOk out = true) := by
    cases tOk out <;> simp <;> omega
  clear h hr hl
  rcases hway with a1 | ⟨a1, a2⟩ | ⟨a1, a2, a3⟩ | ⟨a1, a2, a3, a4⟩ | ⟨a1, a2, a3, a4⟩
  iterate 3
    have er : r = false := by
      cases r with
      | false => rfl
      | true => obtain ⟨⟨h1, h2, h3⟩, _⟩ := HI.out.1 rfl; exfalso; omega
    subst er
    go_enter Try.func14, Try.ntmps14
    go_wp2_with fail
    go_ret
    exact ⟨rfl, al_below _ _⟩
  · have er : r = false := by
      cases r with
      | false => rfl
      | true => obtain ⟨_, h4, _⟩ := HI.out.1 rfl; rw [a4] at h4; cases h4
    subst er
    have HT := Lib.hid (fun w => rfTimeB out a4 w)
    clear a4
    go_enter Try.func14, Try.ntmps14
    go_wp2_with fail
    refine (HT.out _).mono ?_
    rintro e w1 ⟨rfl, hb1⟩
    have HB1 := Lib.hid (below_next (al_below _ _) hb1)
    clear hb1
    go_wp2_with fail
    go_ret
    exact ⟨rfl, HB1.out⟩
  · have HT := Lib.hid (fun w => rfTimeB out a4 w)
    have A4 := Lib.hid a4
    clear a4
    go_enter Try.func14, Try.ntmps14
    go_wp2_with fail
    refine (HT.out _).mono ?_
    rintro e w1 ⟨rfl, hb1⟩
    have HB1 := Lib.hid (below_next (al_below _ _) hb1)
    have M1 := Lib.hid (M0.out.next hb1)
    obtain ⟨z0, z1, z2⟩ := M1.out.cells
    simp only at z0 z1 z2
    clear hb1
    go_wp2_with fail
    have HLN := Lib.hid (show ins.length ≤ 8 ∧ hs.length ≤ 32 by omega)
    have HA1 := Lib.hid a1
    clear a1 a2 a3 z0 z1 z2
    have hlen : ins.length ≤ 8 := HLN.out.1
    go_loopw [32] (fun i wr => ∃ k : Nat, i = .int .i64 k ∧ k ≤ ins.length ∧ (∀ x ∈ ins.take k, tOk x.mark = true) ∧ Below w.heap.size w wr ∧ MkAt w.heap.size ⟨ins, hs, out⟩ A c B d wr) (fun i _ => ins.length - (intOf i).toNat)
    case atStart => exact ⟨0, rfl, Nat.zero_le _, by simp, HB1.out, M1.out⟩
    case round =>
      obtain ⟨k, rfl, hk, hto, hb, hM⟩ := hrel
      have HB := Lib.hid hb
      have HM := Lib.hid hM
      have HTO := Lib.hid hto
      clear hb hM hto
      by_cases hlt : k < ins.length
      · obtain ⟨x, hx⟩ : ∃ x, ins[k]? = some x := ⟨_, List.getElem?_eq_getElem hlt⟩
        obtain ⟨b, off, rfl, c0, c1⟩ := row_in (H.out.ri.below HB.out) hx
        have HX := Lib.hid hx
        clear hx
        rcases hb : tOk x.mark with _ | _
        · have er : r = false := by
            cases r with
            | false => rfl
            | true =>
              have := (HI.out.1 rfl).2.2.1 x (List.mem_of_getElem? HX.out)
              rw [hb] at this; cases this
          subst er
          have HT2 := Lib.hid (fun w => rfTimeB x.mark hb w)
          clear hb
          go_wp2_with fail
          refine (HT2.out _).mono ?_
          rintro e w2 ⟨rfl, hb2⟩
          have HB2 := Lib.hid (below_next (below_next HB.out (al_below _ _)) hb2)
          clear hb2
          go_wp2_with fail
          go_ret
          exact ⟨rfl, HB2.out⟩
        · have HT2 := Lib.hid (fun w => rfTimeB x.mark hb w)
          have HXO := Lib.hid hb
          clear hb
          go_wp2_with fail
          refine (HT2.out _).mono ?_
          rintro e w2 ⟨rfl, hb2⟩
          have HB2 := Lib.hid (below_next (below_next HB.out (al_below _ _)) hb2)
          have HM2 := Lib.hid ((HM.out.next (al_below _ _)).next hb2)
          clear hb2
          go_wp2_with fail
          go_roundw
          case rel =>
            refine ⟨k + 1, by go_num, by omega, ?_, HB2.out, HM2.out⟩
            rw [List.take_add_one, HX.out]
            intro y hy
            rcases List.mem_append.1 hy with hy | hy
            · exact HTO.out y hy
            · have : y = x := by simpa using hy
              rw [this]; exact HXO.out
          case measure => simp [intOf]; omega
      · have hke : ins.take k = ins := List.take_of_length_le (by omega)
        have HALL := Lib.hid (show ∀ x ∈ ins, tOk x.mark = true from hke ▸ HTO.out)
        obtain ⟨z0, z1, z2⟩ := HM.out.cells
        simp only at z0 z1 z2
        obtain ⟨we, hwe⟩ : ∃ we, we = wr := ⟨_, rfl⟩
        subst hwe
        clear hke
        go_wp2_with fail
        clear z0 z1 z2
        have hlen2 : hs.length ≤ 32 := HLN.out.2
        go_loopw [44] (fun i wr => ∃ j : Nat, i = .int .i64 j ∧ j ≤ hs.length ∧ chain (-1) (hs.take j) = true ∧ Below w.heap.size w wr ∧ MkAt w.heap.size ⟨ins, hs, out⟩ A c B d wr) (fun i _ => hs.length - (intOf i).toNat)
        case atStart => exact ⟨0, rfl, Nat.zero_le _, rfl, HB.out, HM.out⟩
        case round =>
          obtain ⟨j, rfl, hj, hch, hb, hM⟩ := hrel
          have HB2 := Lib.hid hb
          have HM2 := Lib.hid hM
          have HCH := Lib.hid hch
          clear hb hM hch
          by_cases hlt2 : j < hs.length
          · obtain ⟨x, hx⟩ : ∃ x, hs[j]? = some x := ⟨_, List.getElem?_eq_getElem hlt2⟩
            obtain ⟨b, off, rfl, c0, c1⟩ := row_ho (H.out.rh.below HB2.out) hx
            have HX := Lib.hid hx
            have HNX := Lib.hid (chain_next hx)
            have HF := Lib.hid (show (decide (prev hs j < x.no) && tOk x.at_) = false → r = false from fun h => by
              cases r with
              | false => rfl
              | true =>
                have h1 := (HI.out.1 rfl).2.2.2
                have h2 := chain_next hx
                rw [h, Bool.and_false] at h2
                rw [chain_to h2] at h1; cases h1)
            have HPV := Lib.hid (show ∃ y, (j = 0 ∧ y = -1 ∨ ∃ i z, j = i + 1 ∧ hs[i]? = some z ∧ y = z.no) ∧ y = prev hs j from by
              refine ⟨prev hs j, ?_, rfl⟩
              rcases j with _ | i
              · exact .inl ⟨rfl, rfl⟩
              · have hi : i < hs.length := by omega
                refine .inr ⟨i, hs[i], rfl, List.getElem?_eq_getElem hi, ?_⟩
                unfold prev
                rw [if_neg (by omega), show i + 1 - 1 = i by omega, List.getD_eq_getElem?_getD, List.getElem?_eq_getElem hi]
                rfl)
            clear hx
            have HPG := Lib.hid (show -1 ≤ prev hs j from by
              obtain ⟨y, hy, he⟩ := HPV.out
              rcases hy with ⟨_, h1⟩ | ⟨i, z, h1, h2, h3⟩
              · omega
              · subst h1
                have hz : z ∈ hs.take (i + 1) := List.mem_of_getElem? (i := i) (by rw [List.getElem?_take, if_pos (by omega)]; exact h2)
                have := (chain_mem HCH.out z hz).1
                omega)
            go_wp2_with fail
            have W0 := Lib.hid (show HoRd w ⟨ins, hs, out⟩ A c (some ⟨b, off, none⟩) d wr.heap.size x b (off + j * 2) x.no (wr.alloc (.cells (hoC x) 44)).drew from
              (show HoRd w ⟨ins, hs, out⟩ A c (some ⟨b, off, none⟩) d wr.heap.size x b (off + j * 2) x.no (wr.alloc (.cells (hoC x) 44)) from ⟨Lies.new wr _ _, HM2.out.next (al_below _ _), ((al_below wr (.cells (hoC x) 44)).cell (lt_of_cell c0)).trans c0, below_next HB2.out (al_below _ _)⟩).next (below_drewOf (Below.refl _ _)))
            by_cases b1 : x.no < 0
            · have er := HF.out (by rw [decide_eq_false (by have := HPG.out; omega)]; rfl)
              subst er
              have HT2 := Lib.hid (fun w => rfTimeB x.at_ rfl w)
              clear c0 c1
              refine wide_all (HoRd w ⟨ins, hs, out⟩ A c (some ⟨b, off, none⟩) d wr.heap.size x b (off + j * 2) x.no) (by kernel_rfl) (by kernel_rfl) W0.out ?_
              repeat (first
                | go_big_quiet_skip
                | (go_big_quiet_want
                   apply wide_op
                   · (intro w5 h5; obtain ⟨hH, hM, hp, hB⟩ := id h5; obtain ⟨z0, z1, z2⟩ := hM.cells; have c0 := hH.cell (j := 0) rfl; have c1 := hH.cell (j := 1) rfl; clear hH hM hB; go_simp; first | done | with_reducible rfl | (refine (HT2.out _).mono ?_; rintro e w6 ⟨rfl, hb6⟩; exact ⟨rfl, h5.next hb6⟩))
                   (try simp only [Act.put, List.setIfInBounds_toArray, List.set_cons_zero, List.set_cons_succ])
                   go_big_quiet_on))
              refine wpQuiet_nil ?_
              intro w6 h6
              have H6 := Lib.hid h6
              clear h6
              go_wp2_with fail
              go_ret
              exact ⟨rfl, H6.out.below⟩
            · rcases hb : tOk x.at_ with _ | _
              · have er := HF.out (by rw [hb, Bool.and_false])
                subst er
                have HT2 := Lib.hid (fun w => rfTimeB x.at_ hb w)
                clear hb c0 c1
                refine wide_all (HoRd w ⟨ins, hs, out⟩ A c (some ⟨b, off, none⟩) d wr.heap.size x b (off + j * 2) x.no) (by kernel_rfl) (by kernel_rfl) W0.out ?_
                repeat (first
                  | go_big_quiet_skip
                  | (go_big_quiet_want
                     apply wide_op
                     · (intro w5 h5; obtain ⟨hH, hM, hp, hB⟩ := id h5; obtain ⟨z0, z1, z2⟩ := hM.cells; have c0 := hH.cell (j := 0) rfl; have c1 := hH.cell (j := 1) rfl; clear hH hM hB; go_simp; first | done | with_reducible rfl | (refine (HT2.out _).mono ?_; rintro e w6 ⟨rfl, hb6⟩; exact ⟨rfl, h5.next hb6⟩))
                     (try simp only [Act.put, List.setIfInBounds_toArray, List.set_cons_zero, List.set_cons_succ])
                     go_big_quiet_on))
                refine wpQuiet_nil ?_
                intro w6 h6
                have H6 := Lib.hid h6
                clear h6
                go_wp2_with fail
                go_ret
                exact ⟨rfl, H6.out.below⟩
              · have HT2 := Lib.hid (fun w => rfTimeB x.at_ hb w)
                have HXO := Lib.hid hb
                clear hb
                rcases j with _ | i
                · have HGD := Lib.hid (show (decide (prev hs 0 < x.no) && tOk x.at_) = true from by
                    rw [HXO.out, Bool.and_true, decide_eq_true_eq]; show (-1 : Int) < x.no; omega)
                  clear c0 c1
                  refine wide_all (HoRd w ⟨ins, hs, out⟩ A c (some ⟨b, off, none⟩) d wr.heap.size x b (off + 0 * 2) x.no) (by kernel_rfl) (by kernel_rfl) W0.out ?_
                  repeat (first
                    | go_big_quiet_skip
                    | (go_big_quiet_want
                       apply wide_op
                       · (intro w5 h5; obtain ⟨hH, hM, hp, hB⟩ := id h5; obtain ⟨z0, z1, z2⟩ := hM.cells; have c0 := hH.cell (j := 0) rfl; have c1 := hH.cell (j := 1) rfl; clear hH hM hB; go_simp; first | done | with_reducible rfl | (refine (HT2.out _).mono ?_; rintro e w6 ⟨rfl, hb6⟩; exact ⟨rfl, h5.next hb6⟩))
                       (try simp only [Act.put, List.setIfInBounds_toArray, List.set_cons_zero, List.set_cons_succ])
                       go_big_quiet_on))
                  refine wpQuiet_nil ?_
                  intro w6 h6
                  have H6 := Lib.hid h6
                  clear h6
                  go_wp2_with fail
                  go_roundw
                  case rel => exact ⟨1, by go_num, by omega, by rw [HNX.out, HCH.out, HGD.out]; rfl, H6.out.below, H6.out.ma⟩
                  case measure => simp [intOf]; omega
                · obtain ⟨z, hz⟩ : ∃ z, hs[i]? = some z := ⟨_, List.getElem?_eq_getElem (by omega)⟩
                  obtain ⟨b', off', e', q0, q1⟩ := row_ho (H.out.rh.below HB2.out) hz
                  cases e'
                  have HPE := Lib.hid (show prev hs (i + 1) = z.no from by
                    unfold prev
                    rw [if_neg (by omega), show i + 1 - 1 = i by omega, List.getD_eq_getElem?_getD, hz]; rfl)
                  have W1 := W0
                  clear W0
                  have W0 := Lib.hid (show HoRd w ⟨ins, hs, out⟩ A c (some ⟨b, off, none⟩) d wr.heap.size x b (off + i * 2) z.no (wr.alloc (.cells (hoC x) 44)).drew from
                    ⟨W1.out.ho, W1.out.ma, ((al_below wr (.cells (hoC x) 44)).cell (lt_of_cell q0)).trans q0, W1.out.below⟩)
                  have e1 : IntKind.i64.wrap (i : Int) = (i : Int) := wrap64_in (by omega) (by omega)
                  have e2 : (0 : Int) ≤ i := by omega
                  have e3 : (i : Int) < hs.length := by omega
                  clear hz q0 q1 c0 c1
                  by_cases b2 : x.no ≤ z.no
                  · have er := HF.out (by rw [HPE.out, decide_eq_false (by omega)]; rfl)
                    subst er
                    refine wide_all (HoRd w ⟨ins, hs, out⟩ A c (some ⟨b, off, none⟩) d wr.heap.size x b (off + i * 2) z.no) (by kernel_rfl) (by kernel_rfl) W0.out ?_
                    repeat (first
                      | go_big_quiet_skip
                      | (go_big_quiet_want
                         apply wide_op
                         · (intro w5 h5; obtain ⟨hH, hM, hp, hB⟩ := id h5; obtain ⟨z0, z1, z2⟩ := hM.cells; have c0 := hH.cell (j := 0) rfl; have c1 := hH.cell (j := 1) rfl; clear hH hM hB; go_simp; first | done | with_reducible rfl | (refine (HT2.out _).mono ?_; rintro e w6 ⟨rfl, hb6⟩; exact ⟨rfl, h5.next hb6⟩))
                         (try simp only [Act.put, List.setIfInBounds_toArray, List.set_cons_zero, List.set_cons_succ])
                         go_big_quiet_on))
                    refine wpQuiet_nil ?_
                    intro w6 h6
                    have H6 := Lib.hid h6
                    clear h6
                    go_wp2_with fail
                    go_ret
                    exact ⟨rfl, H6.out.below⟩
                  · have HGD := Lib.hid (show (decide (prev hs (i + 1) < x.no) && tOk x.at_) = true from by
                      rw [HXO.out, HPE.out, Bool.and_true, decide_eq_true_eq]; omega)
                    refine wide_all (HoRd w ⟨ins, hs, out⟩ A c (some ⟨b, off, none⟩) d wr.heap.size x b (off + i * 2) z.no) (by kernel_rfl) (by kernel_rfl) W0.out ?_
                    repeat (first
                      | go_big_quiet_skip
                      | (go_big_quiet_want
                         apply wide_op
                         · (intro w5 h5; obtain ⟨hH, hM, hp, hB⟩ := id h5; obtain ⟨z0, z1, z2⟩ := hM.cells; have c0 := hH.cell (j := 0) rfl; have c1 := hH.cell (j := 1) rfl; clear hH hM hB; go_simp; first | done | with_reducible rfl | (refine (HT2.out _).mono ?_; rintro e w6 ⟨rfl, hb6⟩; exact ⟨rfl, h5.next hb6⟩))
                         (try simp only [Act.put, List.setIfInBounds_toArray, List.set_cons_zero, List.set_cons_succ])
                         go_big_quiet_on))
                    refine wpQuiet_nil ?_
                    intro w6 h6
                    have H6 := Lib.hid h6
                    clear h6
                    go_wp2_with fail
                    go_roundw
                    case rel => exact ⟨i + 2, by go_num, by omega, by rw [HNX.out, HCH.out, HGD.out]; rfl, H6.out.below, H6.out.ma⟩
                    case measure => simp [intOf]; omega
          · have hke : hs.take j = hs := List.take_of_length_le (by omega)
            have er : r = true := HI.out.2 ⟨⟨by have := HA1.out; omega, by have := HLN.out; omega⟩, A4.out, HALL.out, hke ▸ HCH.out⟩
            subst er
            clear hke
            go_wp2_with fail
            go_ret
            exact ⟨rfl, HB2.out⟩
end Wm
end Go.Proofs.Ytciagbeamphihaa
