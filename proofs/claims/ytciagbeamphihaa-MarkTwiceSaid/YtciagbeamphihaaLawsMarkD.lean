/- The walk of the law MarkRises. -/
import Derived.Test.YtciagbeamphihaaMarkArg
import Derived.Lib.MinMax
namespace Go.Proofs.Ytciagbeamphihaa
open Go.ChangeShapes Go.WideShapes Go.ChangeAt Go.RowKit
set_option linter.unusedVariables false
set_option maxRecDepth 8000
namespace Wm
/-- What is done keeps marks right, and their time. -/
theorem doM_ok {m : Mk} {wh no t : Int} (h : (doM m wh no t).2 = 0) : right (doM m wh no t).1 = true ∧ (doM m wh no t).1.out = m.out := by
  unfold doM at h ⊢
  by_cases h0 : wh = 0
  · rw [if_pos h0] at h ⊢; exact ⟨(setM_ok h).1, (setM_ok h).2.1⟩
  · rw [if_neg h0] at h ⊢
    by_cases h1 : wh = 1
    · rw [if_pos h1] at h ⊢; exact ⟨(idleM_ok h).1, (idleM_ok h).2.1⟩
    · rw [if_neg h1] at h ⊢
      by_cases h2 : wh = 2
      · rw [if_pos h2] at h ⊢; exact holdM_ok h
      · rw [if_neg h2] at h ⊢; exact freeM_ok h
/-- The law's marks at the head of a round. -/
structure RiAt (w0 : World) (b : Nat) (m : Mk) (A : Option Addr) (c : Nat) (B : Option Addr) (d : Nat) (w : World) : Prop where
  at_ : MkAt b m A c B d w
  has : Has m A c B d w
  low : w0.heap.size ≤ b
  below : Below w0.heap.size w0 w
theorem RiAt.next {w0 : World} {b : Nat} {m : Mk} {A : Option Addr} {c : Nat} {B : Option Addr} {d : Nat} {w w' : World} (h : RiAt w0 b m A c B d w) (hb : Below w.heap.size w w') : RiAt w0 b m A c B d w' :=
  ⟨h.at_.next hb, h.has.next hb, h.low, below_next h.below hb⟩
/-- Marks that lie somewhere are stored into its block. -/
theorem RiAt.put {w0 : World} {b : Nat} {m : Mk} {A : Option Addr} {c : Nat} {B : Option Addr} {d : Nat} {w : World} (h : RiAt w0 b m A c B d w) {x : Mk} {A' : Option Addr} {c' : Nat} {B' : Option Addr} {d' : Nat} (hx : Has x A' c' B' d' w) :
    RiAt w0 b x A' c' B' d' (setM3 w b (.slice A' x.ins.length c') (.slice B' x.holds.length d') x.out) :=
  ⟨lies_setM3 h.at_ _ _ _, hx.put h.at_ _ _ _, h.low, below_setM3 h.below h.low _ _ _⟩
set_option maxRecDepth 100000 in
set_option maxHeartbeats 4000000 in
theorem walkMarkRises (n : Int) (l : List Ac) (S : Option Addr) (s : Nat) (w : World) (hS : Row w S (acs l)) (hl : l.length ≤ 9223372036854775807) : Calls Try.prog 6 #[.int .i64 n, .slice S l.length s] w (TellsB true w) := by
  obtain ⟨N, hN⟩ : ∃ N, N = min (max n 1) 8 := ⟨_, rfl⟩
  obtain ⟨hn0, hnr⟩ := new_right (n := N) (by omega)
  obtain ⟨m0, hm0⟩ : ∃ m0, m0 = (new N).1 := ⟨_, rfl⟩
  have hnn : new N = (m0, 0) := by rw [hm0, hn0]
  have hmo : m0.out = 0 := by rw [hm0, hn0]
  rw [← hm0] at hnr
  have HN := Lib.hid (show ∀ w, Calls Try.prog 9 #[.int .i64 (min (max n 1) 8)] w (GivesM (m0, 0) w) from fun w => by rw [← hN, ← hnn]; exact ckNew N w)
  have HM0 := Lib.hid (And.intro hnr hmo)
  have HS := Lib.hid hS
  clear hS hN hn0 hnr hm0 hnn hmo
  go_enter Try.func6, Try.ntmps6
  go_wp2_with fail
  refine (HN.out _).mono ?_
  rintro e w1 ⟨A1, c1, B1, d1, rfl, h1, hb1⟩
  simp only at h1
  have R0 := Lib.hid ((show RiAt w w1.heap.size m0 A1 c1 B1 d1 (w1.alloc (.cells (mkC (.slice A1 m0.ins.length c1) (.slice B1 m0.holds.length d1) m0.out) 25)) from
    ⟨Lies.new w1 _ _, h1.next (al_below _ _), hb1.size, below_al hb1⟩))
  obtain ⟨b, hb⟩ : ∃ b, b = w1.heap.size := ⟨_, rfl⟩
  rw [← hb] at R0
  have HB := Lib.hid hb
  clear hb1 h1 hb
  go_wp2_with fail
  rw [← HB.out]
  go_loopw [7, 32] (fun s7 s32 wr => ∃ (k : Nat) (m : Mk) (A : Option Addr) (c : Nat) (B : Option Addr) (d : Nat), s32 = .int .i64 k ∧ s7 = .int .i64 m.out ∧ k ≤ l.length ∧ right m = true ∧ RiAt w b m A c B d wr) (fun _ s32 _ => l.length - (intOf s32).toNat)
  case atStart => exact ⟨0, m0, A1, c1, B1, d1, rfl, by rw [HM0.out.2], Nat.zero_le _, HM0.out.1, R0.out⟩
  case round =>
    obtain ⟨k, m, A, c, B, d, rfl, rfl, hk, hr, hR⟩ := hrel
    have HR := Lib.hid hR
    have HRM := Lib.hid hr
    clear hR hr R0 HM0 HN HB
    by_cases hlt : k < l.length
    · obtain ⟨a, ha⟩ : ∃ a, l[k]? = some a := ⟨_, List.getElem?_eq_getElem hlt⟩
      obtain ⟨ab, off, rfl, c0, c1', c2'⟩ := row_ac (HS.out.below HR.out.below) ha
      obtain ⟨wh, no, t⟩ := a
      simp only at c0 c1' c2'
      clear ha
      by_cases h200 : 200 ≤ k
      · have h200' : (200 : Int) ≤ k := by omega
        go_wp2_with fail
        refine (lawAliveM _).mono ?_
        rintro e w2 ⟨rfl, hb2⟩
        have B2 := Lib.hid (below_next HR.out.below (below_next (al_below wr (.cells (acC wh no t) 34)) hb2))
        clear hb2
        go_wp2_with fail
        go_ret
        exact ⟨rfl, B2.out⟩
      · have h200' : (k : Int) < 200 := by omega
        have hl32 := ((right_iff m).1 HRM.out).1.2.2
        have RA := Lib.hid (HR.out.next (al_below wr (.cells (acC wh no t) 34)))
        have LA := Lib.hid (show Lies wr.heap.size (acC wh no t) 34 (wr.alloc (.cells (acC wh no t) 34)) from Lies.new wr _ _)
        have HD := Lib.hid (lawDo m A c B d wh no t _ RA.out.has (by omega))
        obtain ⟨o, ho⟩ : ∃ o, o = doM m wh no t := ⟨_, rfl⟩
        rw [← ho] at HD
        have HO := Lib.hid ho
        obtain ⟨z0, z1, z2⟩ := HR.out.at_.cells
        have q0 : b < wr.heap.size := lt_of_block HR.out.at_
        clear ho hl32
        go_wp2_with fail
        refine HD.out.mono ?_
        rintro e w2 ⟨A2, c2, B2, d2, A3, c3, B3, d3, rfl, h2, _, hb2⟩
        have R2 := Lib.hid ((RA.out.next hb2).next (below_al (al_below w2 (.cells (mkC (.slice A2 o.1.ins.length c2) (.slice B2 o.1.holds.length d2) o.1.out) 25)) : Below w2.heap.size w2 ((w2.alloc (.cells (mkC (.slice A2 o.1.ins.length c2) (.slice B2 o.1.holds.length d2) o.1.out) 25)).alloc (.cells (mkC (.slice A3 o.1.ins.length c3) (.slice B3 o.1.holds.length d3) o.1.out) 25))))
        have H2 := Lib.hid (h2.next (below_al (al_below w2 (.cells (mkC (.slice A2 o.1.ins.length c2) (.slice B2 o.1.holds.length d2) o.1.out) 25)) : Below w2.heap.size w2 ((w2.alloc (.cells (mkC (.slice A2 o.1.ins.length c2) (.slice B2 o.1.holds.length d2) o.1.out) 25)).alloc (.cells (mkC (.slice A3 o.1.ins.length c3) (.slice B3 o.1.holds.length d3) o.1.out) 25))))
        clear z0 z1 z2 q0 hb2 h2 c0 c1' c2' RA LA HD
        by_cases he : o.2 = 0
        · have hok := doM_ok (by rw [← HO.out]; exact he)
          rw [← HO.out] at hok
          have e0 : (((o.2 : Nat) : Int) == 0) = true := eq_b (by omega)
          have f0 := Lies.free R2.out.at_ 0
          have f1 := Lies.free R2.out.at_ 1
          have f2 := Lies.free R2.out.at_ 2
          obtain ⟨z0, z1, z2⟩ := R2.out.at_.cells
          have HOK := Lib.hid hok
          clear hok he HO
          go_wp2_with (with_reducible refine hold_at 51 rfl ?_)
          refine hold_out ?_
          obtain ⟨w4, hw4⟩ : ∃ w4, w4 = setM3 ((w2.alloc (.cells (mkC (.slice A2 o.1.ins.length c2) (.slice B2 o.1.holds.length d2) o.1.out) 25)).alloc (.cells (mkC (.slice A3 o.1.ins.length c3) (.slice B3 o.1.holds.length d3) o.1.out) 25)) b (.slice A2 o.1.ins.length c2) (.slice B2 o.1.holds.length d2) o.1.out := ⟨_, rfl⟩
          have R4 := Lib.hid (R2.out.put H2.out)
          rw [← hw4] at R4
          unfold setM3 at hw4
          rw [← hw4]
          clear hw4 z0 z1 z2 f0 f1 f2 e0 R2 H2
          obtain ⟨m2, em2⟩ : ∃ m2, m2 = o.1 := ⟨_, rfl⟩
          obtain ⟨Am, eA⟩ : ∃ Am, Am = A2 := ⟨_, rfl⟩
          obtain ⟨cm, ec⟩ : ∃ cm, cm = c2 := ⟨_, rfl⟩
          obtain ⟨Bm, eB⟩ : ∃ Bm, Bm = B2 := ⟨_, rfl⟩
          obtain ⟨dm, ed⟩ : ∃ dm, dm = d2 := ⟨_, rfl⟩
          rw [← em2, ← eA, ← ec, ← eB, ← ed] at R4
          rw [← em2] at HOK
          clear em2 eA ec eB ed
          obtain ⟨wo, hwo⟩ : ∃ wo, wo = wr := ⟨_, rfl⟩
          subst hwo
          obtain ⟨z0, z1, z2⟩ := R4.out.at_.cells
          have HT := Lib.hid (ckTell m2 Am cm Bm dm w4 R4.out.has)
          obtain ⟨⟨x, tt, is⟩, hx⟩ : ∃ o, o = tell m2 := ⟨_, rfl⟩
          have hT := tell_right HOK.out.1
          rw [← hx] at HT hT
          simp only at hT
          obtain ⟨t1, t2, t3, t4, t5, t6, t7⟩ := hT
          have T7 := Lib.hid t7
          have T3 := Lib.hid t3
          have T1 := Lib.hid t1
          have T6 := Lib.hid (show is = decide (m.out < tt) from by rw [t6, HOK.out.2])
          have T2 := Lib.hid (show ¬ tt < m.out from by have := HOK.out.2; omega)
          have HLEN := Lib.hid R4.out.has.len
          clear t1 t2 t3 t4 t5 t6 t7 hx
          go_wp2_with fail
          refine HT.out.mono ?_
          rintro e w5 ⟨A5, c5, B5, d5, rfl, h5, hb5⟩
          simp only at h5
          have R5 := Lib.hid ((R4.out.next hb5).next (al_below w5 (.cells (mkC (.slice A5 x.ins.length c5) (.slice B5 x.holds.length d5) x.out) 25)))
          have X5 := Lib.hid (show MkAt w5.heap.size x A5 c5 B5 d5 (w5.alloc (.cells (mkC (.slice A5 x.ins.length c5) (.slice B5 x.holds.length d5) x.out) 25)) from Lies.new w5 _ _)
          have H5 := Lib.hid (h5.next (al_below w5 (.cells (mkC (.slice A5 x.ins.length c5) (.slice B5 x.holds.length d5) x.out) 25)))
          have HK := Lib.hid (ckRight x A5 c5 B5 d5 _ H5.out)
          rw [T1.out] at HK
          obtain ⟨x0, x1, x2⟩ := X5.out.cells
          have a1 := T2.out
          have hway : (is = true ∧ m.out < tt) ∨ (is = false ∧ ¬ m.out < tt) := by
            rw [T6.out]
            by_cases hlt : m.out < tt
            · left; exact ⟨decide_eq_true hlt, hlt⟩
            · right; exact ⟨decide_eq_false hlt, hlt⟩
          clear h5 hb5 z0 z1 z2
          rcases hway with ⟨rfl, a2⟩ | ⟨rfl, a2⟩
          · go_wp2_with fail
            refine HK.out.mono ?_
            rintro e w6 ⟨rfl, hb6⟩
            have R6 := Lib.hid (R5.out.next hb6)
            have X6 := Lib.hid (X5.out.next hb6)
            have H6 := Lib.hid (H5.out.next hb6)
            clear hb6 x0 x1 x2 R5 X5 H5 HK HT R4
            obtain ⟨z0, z1, z2⟩ := R6.out.at_.cells
            have hlen := HLEN.out.1
            go_wp2_with fail
            clear z0 z1 z2
            go_loopw [74] (fun s74 wx => ∃ j : Nat, s74 = .int .i64 j ∧ j ≤ m2.ins.length ∧ Below w6.heap.size w6 wx) (fun s74 _ => m2.ins.length - (intOf s74).toNat)
            case atStart => exact ⟨0, rfl, Nat.zero_le _, Below.refl _ _⟩
            case round =>
              obtain ⟨j, rfl, hj, hbx⟩ := hrel
              have HBX := Lib.hid hbx
              clear hbx
              by_cases hlt2 : j < m2.ins.length
              · obtain ⟨u, hu⟩ : ∃ u, m2.ins[j]? = some u := ⟨_, List.getElem?_eq_getElem hlt2⟩
                obtain ⟨ub, uo, hue, y0, y1⟩ := row_in (R6.out.has.ri.below HBX.out) hu
                subst hue
                obtain ⟨um, ui⟩ := u
                simp only at y0 y1
                have hge : ui = false → ¬ um < tt := fun h => by
                  have := (T7.out (by first | trivial | rfl)).1 ⟨um, ui⟩ (List.mem_of_getElem? hu) h
                  simp only at this
                  omega
                clear hu
                cases ui
                · have hge := hge rfl
                  go_wp2_with fail
                  go_roundw
                  case rel => exact ⟨j + 1, by go_num, by omega, below_next HBX.out (al_below _ _)⟩
                  case measure => simp [intOf]; omega
                · clear hge
                  go_wp2_with fail
                  go_roundw
                  case rel => exact ⟨j + 1, by go_num, by omega, below_next HBX.out (al_below _ _)⟩
                  case measure => simp [intOf]; omega
              · have hge : m2.ins.length ≤ j := by omega
                obtain ⟨w7, hw7⟩ : ∃ w7, w7 = wr := ⟨_, rfl⟩
                subst hw7
                have R7 := Lib.hid (R6.out.next HBX.out)
                have X7 := Lib.hid (X6.out.next HBX.out)
                have H7 := Lib.hid (H6.out.next HBX.out)
                clear R6 X6 H6 HBX
                obtain ⟨z0, z1, z2⟩ := R7.out.at_.cells
                have hlen2 := HLEN.out.2
                go_wp2_with fail
                clear z0 z1 z2 hge
                go_loopw [94] (fun s94 wx => ∃ i : Nat, s94 = .int .i64 i ∧ i ≤ m2.holds.length ∧ Below w7.heap.size w7 wx) (fun s94 _ => m2.holds.length - (intOf s94).toNat)
                case atStart => exact ⟨0, rfl, Nat.zero_le _, Below.refl _ _⟩
                case round =>
                  obtain ⟨i, rfl, hi, hby⟩ := hrel
                  have HBY := Lib.hid hby
                  clear hby
                  by_cases hlt3 : i < m2.holds.length
                  · obtain ⟨u, hu⟩ : ∃ u, m2.holds[i]? = some u := ⟨_, List.getElem?_eq_getElem hlt3⟩
                    obtain ⟨ub, uo, hue, y0, y1⟩ := row_ho (R7.out.has.rh.below HBY.out) hu
                    subst hue
                    obtain ⟨un, ut⟩ := u
                    simp only at y0 y1
                    have hge : ¬ ut < tt := by
                      have := (T7.out (by first | trivial | rfl)).2 ⟨un, ut⟩ (List.mem_of_getElem? hu)
                      simp only at this
                      omega
                    clear hu
                    go_wp2_with fail
                    go_roundw
                    case rel => exact ⟨i + 1, by go_num, by omega, below_next HBY.out (al_below _ _)⟩
                    case measure => simp [intOf]; omega
                  · have hge : m2.holds.length ≤ i := by omega
                    have R8 := Lib.hid (R7.out.next HBY.out)
                    have X8 := Lib.hid (X7.out.next HBY.out)
                    have H8 := Lib.hid (H7.out.next HBY.out)
                    clear R7 X7 H7 HBY
                    obtain ⟨x0, x1, x2⟩ := X8.out.cells
                    obtain ⟨z0, z1, z2⟩ := R8.out.at_.cells
                    have f0 := Lies.free R8.out.at_ 0
                    have f1 := Lies.free R8.out.at_ 1
                    have f2 := Lies.free R8.out.at_ 2
                    go_wp2_with fail
                    go_roundw
                    case rel => exact ⟨k + 1, x, A5, c5, B5, d5, by go_num, by rw [T3.out], by omega, T1.out, R8.out.put H8.out⟩
                    case measure => simp [intOf]; omega
          · go_wp2_with fail
            refine HK.out.mono ?_
            rintro e w6 ⟨rfl, hb6⟩
            have R6 := Lib.hid (R5.out.next hb6)
            have X6 := Lib.hid (X5.out.next hb6)
            have H6 := Lib.hid (H5.out.next hb6)
            clear hb6 x0 x1 x2 R5 X5 H5 HK HT R4
            obtain ⟨z0, z1, z2⟩ := R6.out.at_.cells
            have hlen := HLEN.out.1
            go_wp2_with fail
            clear z0 z1 z2
            go_loopw [74] (fun s74 wx => ∃ j : Nat, s74 = .int .i64 j ∧ j ≤ m2.ins.length ∧ Below w6.heap.size w6 wx) (fun s74 _ => m2.ins.length - (intOf s74).toNat)
            case atStart => exact ⟨0, rfl, Nat.zero_le _, Below.refl _ _⟩
            case round =>
              obtain ⟨j, rfl, hj, hbx⟩ := hrel
              have HBX := Lib.hid hbx
              clear hbx
              by_cases hlt2 : j < m2.ins.length
              · obtain ⟨u, hu⟩ : ∃ u, m2.ins[j]? = some u := ⟨_, List.getElem?_eq_getElem hlt2⟩
                obtain ⟨ub, uo, hue, y0, y1⟩ := row_in (R6.out.has.ri.below HBX.out) hu
                subst hue
                obtain ⟨um, ui⟩ := u
                simp only at y0 y1
                clear hu
                go_wp2_with fail
                go_roundw
                case rel => exact ⟨j + 1, by go_num, by omega, below_next HBX.out (al_below _ _)⟩
                case measure => simp [intOf]; omega
              · have hge : m2.ins.length ≤ j := by omega
                obtain ⟨w7, hw7⟩ : ∃ w7, w7 = wr := ⟨_, rfl⟩
                subst hw7
                have R7 := Lib.hid (R6.out.next HBX.out)
                have X7 := Lib.hid (X6.out.next HBX.out)
                have H7 := Lib.hid (H6.out.next HBX.out)
                clear R6 X6 H6 HBX
                obtain ⟨z0, z1, z2⟩ := R7.out.at_.cells
                have hlen2 := HLEN.out.2
                go_wp2_with fail
                clear z0 z1 z2 hge
                go_loopw [94] (fun s94 wx => ∃ i : Nat, s94 = .int .i64 i ∧ i ≤ m2.holds.length ∧ Below w7.heap.size w7 wx) (fun s94 _ => m2.holds.length - (intOf s94).toNat)
                case atStart => exact ⟨0, rfl, Nat.zero_le _, Below.refl _ _⟩
                case round =>
                  obtain ⟨i, rfl, hi, hby⟩ := hrel
                  have HBY := Lib.hid hby
                  clear hby
                  by_cases hlt3 : i < m2.holds.length
                  · obtain ⟨u, hu⟩ : ∃ u, m2.holds[i]? = some u := ⟨_, List.getElem?_eq_getElem hlt3⟩
                    obtain ⟨ub, uo, hue, y0, y1⟩ := row_ho (R7.out.has.rh.below HBY.out) hu
                    subst hue
                    obtain ⟨un, ut⟩ := u
                    simp only at y0 y1
                    clear hu
                    go_wp2_with fail
                    go_roundw
                    case rel => exact ⟨i + 1, by go_num, by omega, below_next HBY.out (al_below _ _)⟩
                    case measure => simp [intOf]; omega
                  · have hge : m2.holds.length ≤ i := by omega
                    have R8 := Lib.hid (R7.out.next HBY.out)
                    have X8 := Lib.hid (X7.out.next HBY.out)
                    have H8 := Lib.hid (H7.out.next HBY.out)
                    clear R7 X7 H7 HBY
                    obtain ⟨x0, x1, x2⟩ := X8.out.cells
                    obtain ⟨z0, z1, z2⟩ := R8.out.at_.cells
                    have f0 := Lies.free R8.out.at_ 0
                    have f1 := Lies.free R8.out.at_ 1
                    have f2 := Lies.free R8.out.at_ 2
                    go_wp2_with fail
                    go_roundw
                    case rel => exact ⟨k + 1, x, A5, c5, B5, d5, by go_num, by rw [T3.out], by omega, T1.out, R8.out.put H8.out⟩
                    case measure => simp [intOf]; omega
        · have e0 : (((o.2 : Nat) : Int) == 0) = false := ne_b (by omega)
          clear HO he
          go_wp2_with (with_reducible refine hold_at 51 rfl ?_)
          refine hold_out ?_
          obtain ⟨w4, hw4⟩ : ∃ w4, w4 = (w2.alloc (.cells (mkC (.slice A2 o.1.ins.length c2) (.slice B2 o.1.holds.length d2) o.1.out) 25)).alloc (.cells (mkC (.slice A3 o.1.ins.length c3) (.slice B3 o.1.holds.length d3) o.1.out) 25) := ⟨_, rfl⟩
          have R4 := Lib.hid R2.out
          rw [← hw4] at R4 ⊢
          have HOK := Lib.hid (And.intro HRM.out (Eq.refl m.out))
          obtain ⟨m2, em2⟩ : ∃ m2, m2 = m := ⟨_, rfl⟩
          obtain ⟨Am, eA⟩ : ∃ Am, Am = A := ⟨_, rfl⟩
          obtain ⟨cm, ec⟩ : ∃ cm, cm = c := ⟨_, rfl⟩
          obtain ⟨Bm, eB⟩ : ∃ Bm, Bm = B := ⟨_, rfl⟩
          obtain ⟨dm, ed⟩ : ∃ dm, dm = d := ⟨_, rfl⟩
          have R4 := Lib.hid (show RiAt w b m2 Am cm Bm dm w4 from by rw [em2, eA, ec, eB, ed]; exact R4.out)
          have HOK := Lib.hid (show right m2 = true ∧ m2.out = m.out from by rw [em2]; exact HOK.out)
          clear em2 eA ec eB ed hw4 e0
          clear R2 H2
          obtain ⟨wo, hwo⟩ : ∃ wo, wo = wr := ⟨_, rfl⟩
          subst hwo
          obtain ⟨z0, z1, z2⟩ := R4.out.at_.cells
          have HT := Lib.hid (ckTell m2 Am cm Bm dm w4 R4.out.has)
          obtain ⟨⟨x, tt, is⟩, hx⟩ : ∃ o, o = tell m2 := ⟨_, rfl⟩
          have hT := tell_right HOK.out.1
          rw [← hx] at HT hT
          simp only at hT
          obtain ⟨t1, t2, t3, t4, t5, t6, t7⟩ := hT
          have T7 := Lib.hid t7
          have T3 := Lib.hid t3
          have T1 := Lib.hid t1
          have T6 := Lib.hid (show is = decide (m.out < tt) from by rw [t6, HOK.out.2])
          have T2 := Lib.hid (show ¬ tt < m.out from by have := HOK.out.2; omega)
          have HLEN := Lib.hid R4.out.has.len
          clear t1 t2 t3 t4 t5 t6 t7 hx
          go_wp2_with fail
          refine HT.out.mono ?_
          rintro e w5 ⟨A5, c5, B5, d5, rfl, h5, hb5⟩
          simp only at h5
          have R5 := Lib.hid ((R4.out.next hb5).next (al_below w5 (.cells (mkC (.slice A5 x.ins.length c5) (.slice B5 x.holds.length d5) x.out) 25)))
          have X5 := Lib.hid (show MkAt w5.heap.size x A5 c5 B5 d5 (w5.alloc (.cells (mkC (.slice A5 x.ins.length c5) (.slice B5 x.holds.length d5) x.out) 25)) from Lies.new w5 _ _)
          have H5 := Lib.hid (h5.next (al_below w5 (.cells (mkC (.slice A5 x.ins.length c5) (.slice B5 x.holds.length d5) x.out) 25)))
          have HK := Lib.hid (ckRight x A5 c5 B5 d5 _ H5.out)
          rw [T1.out] at HK
          obtain ⟨x0, x1, x2⟩ := X5.out.cells
          have a1 := T2.out
          have hway : (is = true ∧ m.out < tt) ∨ (is = false ∧ ¬ m.out < tt) := by
            rw [T6.out]
            by_cases hlt : m.out < tt
            · left; exact ⟨decide_eq_true hlt, hlt⟩
            · right; exact ⟨decide_eq_false hlt, hlt⟩
          clear h5 hb5 z0 z1 z2
          rcases hway with ⟨rfl, a2⟩ | ⟨rfl, a2⟩
          · go_wp2_with fail
            refine HK.out.mono ?_
            rintro e w6 ⟨rfl, hb6⟩
            have R6 := Lib.hid (R5.out.next hb6)
            have X6 := Lib.hid (X5.out.next hb6)
            have H6 := Lib.hid (H5.out.next hb6)
            clear hb6 x0 x1 x2 R5 X5 H5 HK HT R4
            obtain ⟨z0, z1, z2⟩ := R6.out.at_.cells
            have hlen := HLEN.out.1
            go_wp2_with fail
            clear z0 z1 z2
            go_loopw [74] (fun s74 wx => ∃ j : Nat, s74 = .int .i64 j ∧ j ≤ m2.ins.length ∧ Below w6.heap.size w6 wx) (fun s74 _ => m2.ins.length - (intOf s74).toNat)
            case atStart => exact ⟨0, rfl, Nat.zero_le _, Below.refl _ _⟩
            case round =>
              obtain ⟨j, rfl, hj, hbx⟩ := hrel
              have HBX := Lib.hid hbx
              clear hbx
              by_cases hlt2 : j < m2.ins.length
              · obtain ⟨u, hu⟩ : ∃ u, m2.ins[j]? = some u := ⟨_, List.getElem?_eq_getElem hlt2⟩
                obtain ⟨ub, uo, hue, y0, y1⟩ := row_in (R6.out.has.ri.below HBX.out) hu
                subst hue
                obtain ⟨um, ui⟩ := u
                simp only at y0 y1
                have hge : ui = false → ¬ um < tt := fun h => by
                  have := (T7.out (by first | trivial | rfl)).1 ⟨um, ui⟩ (List.mem_of_getElem? hu) h
                  simp only at this
                  omega
                clear hu
                cases ui
                · have hge := hge rfl
                  go_wp2_with fail
                  go_roundw
                  case rel => exact ⟨j + 1, by go_num, by omega, below_next HBX.out (al_below _ _)⟩
                  case measure => simp [intOf]; omega
                · clear hge
                  go_wp2_with fail
                  go_roundw
                  case rel => exact ⟨j + 1, by go_num, by omega, below_next HBX.out (al_below _ _)⟩
                  case measure => simp [intOf]; omega
              · have hge : m2.ins.length ≤ j := by omega
                obtain ⟨w7, hw7⟩ : ∃ w7, w7 = wr := ⟨_, rfl⟩
                subst hw7
                have R7 := Lib.hid (R6.out.next HBX.out)
                have X7 := Lib.hid (X6.out.next HBX.out)
                have H7 := Lib.hid (H6.out.next HBX.out)
                clear R6 X6 H6 HBX
                obtain ⟨z0, z1, z2⟩ := R7.out.at_.cells
                have hlen2 := HLEN.out.2
                go_wp2_with fail
                clear z0 z1 z2 hge
                go_loopw [94] (fun s94 wx => ∃ i : Nat, s94 = .int .i64 i ∧ i ≤ m2.holds.length ∧ Below w7.heap.size w7 wx) (fun s94 _ => m2.holds.length - (intOf s94).toNat)
                case atStart => exact ⟨0, rfl, Nat.zero_le _, Below.refl _ _⟩
                case round =>
                  obtain ⟨i, rfl, hi, hby⟩ := hrel
                  have HBY := Lib.hid hby
                  clear hby
                  by_cases hlt3 : i < m2.holds.length
                  · obtain ⟨u, hu⟩ : ∃ u, m2.holds[i]? = some u := ⟨_, List.getElem?_eq_getElem hlt3⟩
                    obtain ⟨ub, uo, hue, y0, y1⟩ := row_ho (R7.out.has.rh.below HBY.out) hu
                    subst hue
                    obtain ⟨un, ut⟩ := u
                    simp only at y0 y1
                    have hge : ¬ ut < tt := by
                      have := (T7.out (by first | trivial | rfl)).2 ⟨un, ut⟩ (List.mem_of_getElem? hu)
                      simp only at this
                      omega
                    clear hu
                    go_wp2_with fail
                    go_roundw
                    case rel => exact ⟨i + 1, by go_num, by omega, below_next HBY.out (al_below _ _)⟩
                    case measure => simp [intOf]; omega
                  · have hge : m2.holds.length ≤ i := by omega
                    have R8 := Lib.hid (R7.out.next HBY.out)
                    have X8 := Lib.hid (X7.out.next HBY.out)
                    have H8 := Lib.hid (H7.out.next HBY.out)
                    clear R7 X7 H7 HBY
                    obtain ⟨x0, x1, x2⟩ := X8.out.cells
                    obtain ⟨z0, z1, z2⟩ := R8.out.at_.cells
                    have f0 := Lies.free R8.out.at_ 0
                    have f1 := Lies.free R8.out.at_ 1
                    have f2 := Lies.free R8.out.at_ 2
                    go_wp2_with fail
                    go_roundw
                    case rel => exact ⟨k + 1, x, A5, c5, B5, d5, by go_num, by rw [T3.out], by omega, T1.out, R8.out.put H8.out⟩
                    case measure => simp [intOf]; omega
          · go_wp2_with fail
            refine HK.out.mono ?_
            rintro e w6 ⟨rfl, hb6⟩
            have R6 := Lib.hid (R5.out.next hb6)
            have X6 := Lib.hid (X5.out.next hb6)
            have H6 := Lib.hid (H5.out.next hb6)
            clear hb6 x0 x1 x2 R5 X5 H5 HK HT R4
            obtain ⟨z0, z1, z2⟩ := R6.out.at_.cells
            have hlen := HLEN.out.1
            go_wp2_with fail
            clear z0 z1 z2
            go_loopw [74] (fun s74 wx => ∃ j : Nat, s74 = .int .i64 j ∧ j ≤ m2.ins.length ∧ Below w6.heap.size w6 wx) (fun s74 _ => m2.ins.length - (intOf s74).toNat)
            case atStart => exact ⟨0, rfl, Nat.zero_le _, Below.refl _ _⟩
            case round =>
              obtain ⟨j, rfl, hj, hbx⟩ := hrel
              have HBX := Lib.hid hbx
              clear hbx
              by_cases hlt2 : j < m2.ins.length
              · obtain ⟨u, hu⟩ : ∃ u, m2.ins[j]? = some u := ⟨_, List.getElem?_eq_getElem hlt2⟩
                obtain ⟨ub, uo, hue, y0, y1⟩ := row_in (R6.out.has.ri.below HBX.out) hu
                subst hue
                obtain ⟨um, ui⟩ := u
                simp only at y0 y1
                clear hu
                go_wp2_with fail
                go_roundw
                case rel => exact ⟨j + 1, by go_num, by omega, below_next HBX.out (al_below _ _)⟩
                case measure => simp [intOf]; omega
              · have hge : m2.ins.length ≤ j := by omega
                obtain ⟨w7, hw7⟩ : ∃ w7, w7 = wr := ⟨_, rfl⟩
                subst hw7
                have R7 := Lib.hid (R6.out.next HBX.out)
                have X7 := Lib.hid (X6.out.next HBX.out)
                have H7 := Lib.hid (H6.out.next HBX.out)
                clear R6 X6 H6 HBX
                obtain ⟨z0, z1, z2⟩ := R7.out.at_.cells
                have hlen2 := HLEN.out.2
                go_wp2_with fail
                clear z0 z1 z2 hge
                go_loopw [94] (fun s94 wx => ∃ i : Nat, s94 = .int .i64 i ∧ i ≤ m2.holds.length ∧ Below w7.heap.size w7 wx) (fun s94 _ => m2.holds.length - (intOf s94).toNat)
                case atStart => exact ⟨0, rfl, Nat.zero_le _, Below.refl _ _⟩
                case round =>
                  obtain ⟨i, rfl, hi, hby⟩ := hrel
                  have HBY := Lib.hid hby
                  clear hby
                  by_cases hlt3 : i < m2.holds.length
                  · obtain ⟨u, hu⟩ : ∃ u, m2.holds[i]? = some u := ⟨_, List.getElem?_eq_getElem hlt3⟩
                    obtain ⟨ub, uo, hue, y0, y1⟩ := row_ho (R7.out.has.rh.below HBY.out) hu
                    subst hue
                    obtain ⟨un, ut⟩ := u
                    simp only at y0 y1
                    clear hu
                    go_wp2_with fail
                    go_roundw
                    case rel => exact ⟨i + 1, by go_num, by omega, below_next HBY.out (al_below _ _)⟩
                    case measure => simp [intOf]; omega
                  · have hge : m2.holds.length ≤ i := by omega
                    have R8 := Lib.hid (R7.out.next HBY.out)
                    have X8 := Lib.hid (X7.out.next HBY.out)
                    have H8 := Lib.hid (H7.out.next HBY.out)
                    clear R7 X7 H7 HBY
                    obtain ⟨x0, x1, x2⟩ := X8.out.cells
                    obtain ⟨z0, z1, z2⟩ := R8.out.at_.cells
                    have f0 := Lies.free R8.out.at_ 0
                    have f1 := Lies.free R8.out.at_ 1
                    have f2 := Lies.free R8.out.at_ 2
                    go_wp2_with fail
                    go_roundw
                    case rel => exact ⟨k + 1, x, A5, c5, B5, d5, by go_num, by rw [T3.out], by omega, T1.out, R8.out.put H8.out⟩
                    case measure => simp [intOf]; omega
    · have hge : l.length ≤ k := by omega
      go_wp2_with fail
      refine (lawAliveM _).mono ?_
      rintro e w2 ⟨rfl, hb2⟩
      have B2 := Lib.hid (below_next HR.out.below hb2)
      clear hb2
      go_wp2_with fail
      go_ret
      exact ⟨rfl, B2.out⟩
theorem lawMarkRises : Lift.Owes 6 [3, 40] := by
  intro H enc W base args ds ps hval hA _ _
  obtain ⟨v0, v1, d0, d1, p0, p1, rfl, rfl, rfl, h0, h1⟩ := trodAll_two hA
  obtain ⟨n, rfl, rfl, rfl, _⟩ := open_int Try.underlying3 (hval 0 _ v0 rfl rfl) h0
  obtain ⟨S, s, l, rfl, hl, hc, hm⟩ := openActs (hval 1 _ v1 rfl rfl) h1
  exact walkMarkRises n l S s W hm (by unfold maxLen at hc; omega)
end Wm
theorem lawMarkRises : Lift.Owes 6 [3, 40] := Wm.lawMarkRises
end Go.Proofs.Ytciagbeamphihaa
