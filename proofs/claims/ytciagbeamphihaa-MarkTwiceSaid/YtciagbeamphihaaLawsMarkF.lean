/- The walk of the law MarkTwice. -/
import Derived.Test.YtciagbeamphihaaLawsMarkE
import Derived.Test.YtciagbeamphihaaMarkLikeR
import Derived.Test.YtciagbeamphihaaMarkPerm
import Derived.Lib.MinMax
import Derived.Deep.RegionWith
import Derived.Deep.Cut
namespace Go.Proofs.Ytciagbeamphihaa
open Go.ChangeShapes Go.WideShapes Go.ChangeAt Go.RowKit
set_option linter.unusedVariables false
set_option maxRecDepth 8000
namespace Wm
/-- Marks in a block. -/
structure Mh (b : Nat) (m : Mk) (A : Option Addr) (c : Nat) (B : Option Addr) (d : Nat) (w : World) : Prop where
  at_ : MkAt b m A c B d w
  has : Has m A c B d w
theorem Mh.next {b : Nat} {m : Mk} {A : Option Addr} {c : Nat} {B : Option Addr} {d : Nat} {w w' : World} (h : Mh b m A c B d w) (hb : Below w.heap.size w w') : Mh b m A c B d w' := ⟨h.at_.next hb, h.has.next hb⟩
theorem Mh.new {m : Mk} {A : Option Addr} {c : Nat} {B : Option Addr} {d : Nat} {w : World} (h : Has m A c B d w) : Mh w.heap.size m A c B d (w.alloc (.cells (mkC (.slice A m.ins.length c) (.slice B m.holds.length d) m.out) 25)) :=
  ⟨Lies.new w _ _, h.next (al_below _ _)⟩
/-- The marks that came in, and those that were set. -/
structure Tq (w0 : World) (m : Mk) (A : Option Addr) (c : Nat) (B : Option Addr) (d : Nat) (p : Nat) (a : Mk) (A1 : Option Addr) (c1 : Nat) (B1 : Option Addr) (d1 : Nat) (w : World) : Prop where
  m : Mh w0.heap.size m A c B d w
  a : Mh p a A1 c1 B1 d1 w
  below : Below w0.heap.size w0 w
section
variable {w0 : World} {m : Mk} {A : Option Addr} {c : Nat} {B : Option Addr} {d : Nat} {p : Nat} {a : Mk} {A1 : Option Addr} {c1 : Nat} {B1 : Option Addr} {d1 : Nat} {w w' : World}
theorem Tq.next (h : Tq w0 m A c B d p a A1 c1 B1 d1 w) (hb : Below w.heap.size w w') : Tq w0 m A c B d p a A1 c1 B1 d1 w' := ⟨h.m.next hb, h.a.next hb, below_next h.below hb⟩
theorem Tq.nextA {o : Obj} (h : Tq w0 m A c B d p a A1 c1 B1 d1 w) (hb : Below (w.alloc o).heap.size (w.alloc o) w') : Tq w0 m A c B d p a A1 c1 B1 d1 w' := (h.next (al_below w o)).next hb
/-- A third block of marks is written. -/
theorem Tq.put (h : Tq w0 m A c B d p a A1 c1 B1 d1 w) {q : Nat} (hl : Lies q zeM 25 w) (h0 : w0.heap.size < q) (hp : p < q) (x y : Value) (o : Int) : Tq w0 m A c B d p a A1 c1 B1 d1 (setM3 w q x y o) :=
  ⟨⟨lies_otherM h.m.at_ (by omega) _ _ _, h.m.has.put hl _ _ _⟩, ⟨lies_otherM h.a.at_ (by omega) _ _ _, h.a.has.put hl _ _ _⟩, below_setM3 h.below (by omega) _ _ _⟩
end
set_option maxRecDepth 100000 in
set_option maxHeartbeats 2000000 in
/-- Where nothing is asked. -/
theorem twiceNot (m : Mk) (A : Option Addr) (c : Nat) (B : Option Addr) (d : Nat) (i t no at_ : Int) (w : World) (h : Has m A c B d w)
    (hno : ¬ (m.ins.length ≤ 100 ∧ m.holds.length ≤ 100 ∧ there m i = true)) : Calls Try.prog 8 #[mv m A c B d, .int .i64 i, .int .i64 t, .int .i64 no, .int .i64 at_] w (TellsB true w) := by
  have hl := h.len
  have HR := Lib.hid (fun w' (hb : Below w.heap.size w w') => ckRight m A c B d w' (h.next hb))
  have M0 := Lib.hid (show MkAt w.heap.size m A c B d (w.alloc (.cells (mkC (.slice A m.ins.length c) (.slice B m.holds.length d) m.out) 25)) from Lies.new w _ _)
  have hway : ((100 : Int) < m.ins.length) ∨ (¬ (100 : Int) < m.ins.length ∧ (100 : Int) < m.holds.length) ∨ (¬ (100 : Int) < m.ins.length ∧ ¬ (100 : Int) < m.holds.length ∧ right m = false) ∨
      (¬ (100 : Int) < m.ins.length ∧ ¬ (100 : Int) < m.holds.length ∧ right m = true ∧ i < 0) ∨ (¬ (100 : Int) < m.ins.length ∧ ¬ (100 : Int) < m.holds.length ∧ right m = true ∧ ¬ i < 0 ∧ (m.ins.length : Int) ≤ i) := by
    have ht := there_iff m i
    cases hr : right m
    · simp; omega
    · rw [hr] at ht
      by_cases h1 : (100 : Int) < m.ins.length
      · left; exact h1
      · by_cases h2 : (100 : Int) < m.holds.length
        · right; left; exact ⟨h1, h2⟩
        · right; right; right
          by_cases h3 : i < 0
          · left; exact ⟨h1, h2, rfl, h3⟩
          · right
            refine ⟨h1, h2, rfl, h3, ?_⟩
            by_cases h4 : (m.ins.length : Int) ≤ i
            · exact h4
            · exact absurd ⟨by omega, by omega, ht.2 ⟨rfl, by omega, by omega⟩⟩ hno
  clear h hno
  rcases hway with a1 | ⟨a1, a2⟩ | ⟨a1, a2, hr⟩ | ⟨a1, a2, hr, a3⟩ | ⟨a1, a2, hr, a3, a4⟩
  · clear HR hl
    go_enter Try.func8, Try.ntmps8
    go_wp2_with fail
    refine (lawAliveM _).mono ?_
    rintro e w2 ⟨rfl, hb2⟩
    have B2 := Lib.hid (below_next (al_below w (.cells (mkC (.slice A m.ins.length c) (.slice B m.holds.length d) m.out) 25)) hb2)
    clear hb2
    go_wp2_with fail
    go_ret
    exact ⟨rfl, B2.out⟩
  · clear HR hl
    go_enter Try.func8, Try.ntmps8
    go_wp2_with fail
    refine (lawAliveM _).mono ?_
    rintro e w2 ⟨rfl, hb2⟩
    have B2 := Lib.hid (below_next (al_below w (.cells (mkC (.slice A m.ins.length c) (.slice B m.holds.length d) m.out) 25)) hb2)
    clear hb2
    go_wp2_with fail
    go_ret
    exact ⟨rfl, B2.out⟩
  all_goals (
    rw [hr] at HR
    clear hr hl
    go_enter Try.func8, Try.ntmps8
    go_wp2_with fail
    refine (HR.out _ (al_below _ _)).mono ?_
    rintro e w1 ⟨rfl, hb1⟩
    have M1 := Lib.hid (M0.out.next hb1)
    have B1 := Lib.hid (below_next (al_below w (.cells (mkC (.slice A m.ins.length c) (.slice B m.holds.length d) m.out) 25)) hb1)
    obtain ⟨z0, z1, z2⟩ := M1.out.cells
    clear hb1
    go_wp2_with fail
    refine (lawAliveM _).mono ?_
    rintro e w2 ⟨rfl, hb2⟩
    have B2 := Lib.hid (below_next B1.out hb2)
    clear hb2
    go_wp2_with fail
    go_ret
    exact ⟨rfl, B2.out⟩)
theorem has_next {l : List Ho} {k : Nat} {x : Ho} {no : Int} (h : l[k]? = some x) : has (l.take (k + 1)) no = (has (l.take k) no || decide (x.no = no)) := by
  rw [List.take_add_one, h]
  unfold has
  rw [List.any_append]
  simp
theorem beq_dec (a b : Int) : (a == b) = decide (a = b) := by
  by_cases h : a = b
  · rw [decide_eq_true h, h]; simp
  · rw [decide_eq_false h]; simpa using h
set_option maxRecDepth 100000 in
set_option maxHeartbeats 4000000 in
theorem twiceYes (m : Mk) (A : Option Addr) (c : Nat) (B : Option Addr) (d : Nat) (n : Nat) (t no at_ : Int) (w : World) (h : Has m A c B d w)
    (hi : m.ins.length ≤ 100) (hh : m.holds.length ≤ 100) (hr : right m = true) (hn : n < m.ins.length) : Calls Try.prog 8 #[mv m A c B d, .int .i64 (n : Int), .int .i64 t, .int .i64 no, .int .i64 at_] w (TellsB true w) := by
  have hth : there m n = true := (there_iff m n).2 ⟨hr, by omega, by omega⟩
  have e1 : (setM m n t).2 = 0 := by unfold setM; rw [if_pos hth]
  have e2 := set_twice e1 (set_min e1)
  have e3 : (setM m n t).1.ins.length = m.ins.length := by unfold setM; rw [if_pos hth]; simp
  obtain ⟨a, ha⟩ : ∃ a, a = (setM m n t).1 := ⟨_, rfl⟩
  have e4 : setM m n t = (a, 0) := by rw [ha, ← e1]
  rw [← ha] at e2 e3
  obtain ⟨x, hx⟩ : ∃ x, a.ins[n]? = some x := ⟨_, List.getElem?_eq_getElem (by omega)⟩
  have hin : inAt a n = x := by unfold inAt; rw [List.getD_eq_getElem?_getD, Int.toNat_natCast, hx]; rfl
  rw [hin] at e2
  have HR := Lib.hid (fun w' (hb : Below w.heap.size w w') => show Calls Try.prog 13 #[mv m A c B d] w' (TellsB true w') from hr ▸ ckRight m A c B d w' (h.next hb))
  have HS1 := Lib.hid (fun A c B d w (hm : Has m A c B d w) => show Calls Try.prog 18 #[mv m A c B d, .int .i64 (n : Int), .int .i64 t] w (GivesM (a, 0) w) from e4 ▸ ckSet m A c B d n t w hm)
  have HS2 := Lib.hid (fun A c B d w (hm : Has a A c B d w) => show Calls Try.prog 18 #[mv a A c B d, .int .i64 (n : Int), .int .i64 (min t x.mark)] w (GivesM (a, 0) w) from e2 ▸ ckSet a A c B d n (min t x.mark) w hm)
  have HL := Lib.hid (fun (m : Mk) A c B d A' c' B' d' w (h : Has m A c B d w) (h' : Has m A' c' B' d' w) => rfLikeM m A c B d A' c' B' d' w h h')
  have M0 := Lib.hid (Mh.new h)
  obtain ⟨⟨ho, eo⟩, eho⟩ : ∃ o, o = holdM m no at_ := ⟨_, rfl⟩
  have HHD := Lib.hid (fun A c B d w (hm : Has m A c B d w) => show Calls Try.prog 20 #[mv m A c B d, .int .i64 no, .int .i64 at_] w (GivesM (ho, eo) w) from eho ▸ ckHold m A c B d no at_ w hm)
  have HFR := Lib.hid (fun (h1 : has m.holds no = false) (h2 : eo = 0) A c B d w (hm : Has ho A c B d w) => show Calls Try.prog 21 #[mv ho A c B d, .int .i64 no] w (GivesM (m, 0) w) from by
    have e5 : (holdM m no at_).2 = 0 := by rw [← eho]; exact h2
    have e6 := free_hold h1 e5 hr
    have e7 := (right_iff _).1 (holdM_ok e5).1
    rw [← eho] at e6 e7
    exact e6 ▸ ckFree ho A c B d no w hm (by have := e7.1.2.2; simp only at this; omega))
  obtain ⟨⟨tx, tt, ti⟩, etx⟩ : ∃ o, o = tell m := ⟨_, rfl⟩
  have HT1 := Lib.hid (fun A c B d w (hm : Has m A c B d w) => show Calls Try.prog 16 #[mv m A c B d] w (GivesT (tx, tt, ti) w) from etx ▸ ckTell m A c B d w hm)
  have HT2 := Lib.hid (fun A c B d w (hm : Has tx A c B d w) => show Calls Try.prog 16 #[mv tx A c B d] w (GivesT (tx, tt, false) w) from by
    have e8 := tell_twice hr
    rw [← etx] at e8
    simp only at e8
    exact e8 ▸ ckTell tx A c B d w hm)
  have HX := Lib.hid hx
  have HRT := Lib.hid hr
  have HE3 := Lib.hid e3
  have hn64 : (n : Int) < m.ins.length := by omega
  have hna : (n : Int) < a.ins.length := by omega
  have hnn : n < a.ins.length := by omega
  have g1 : ¬ (100 : Int) < m.ins.length := by omega
  have g2 : ¬ (100 : Int) < m.holds.length := by omega
  have g3 : ((a.ins.length : Int) != (m.ins.length : Int)) = false := nb0 (by omega)
  have HHH := Lib.hid hh
  clear hth e1 e2 e3 e4 ha hx hin h hi hh hr eho etx
  go_enter Try.func8, Try.ntmps8
  go_wp2_with fail
  refine (HR.out _ (al_below _ _)).mono ?_
  rintro e w1 ⟨rfl, hb1⟩
  have M1 := Lib.hid (M0.out.next hb1)
  have B1 := Lib.hid (below_next (al_below w (.cells (mkC (.slice A m.ins.length c) (.slice B m.holds.length d) m.out) 25)) hb1)
  obtain ⟨z0, z1, z2⟩ := M1.out.at_.cells
  clear hb1 M0
  go_wp2_with fail
  refine (lawAliveM _).mono ?_
  rintro e w2 ⟨rfl, hb2⟩
  have M2 := Lib.hid (M1.out.next hb2)
  have B2 := Lib.hid (below_next B1.out hb2)
  clear hb2 z0 z1 z2 M1 B1
  obtain ⟨z0, z1, z2⟩ := M2.out.at_.cells
  go_wp2_with fail
  refine (HS1.out _ _ _ _ _ M2.out.has).mono ?_
  rintro e w3 ⟨A1, c1, B1, d1, rfl, h3, hb3⟩
  simp only at h3
  have T := Lib.hid (show Tq w m A c B d w3.heap.size a A1 c1 B1 d1 (w3.alloc (.cells (mkC (.slice A1 a.ins.length c1) (.slice B1 a.holds.length d1) a.out) 25)) from
    ⟨(M2.out.next hb3).next (al_below _ _), Mh.new h3, below_al (below_next B2.out hb3)⟩)
  have hq : w.heap.size < w3.heap.size := lt_of_block (M2.out.next hb3).at_
  clear hb3 h3 z0 z1 z2 M2 B2
  obtain ⟨z0, z1, z2⟩ := T.out.m.at_.cells
  go_upto_region 6 with fail
  obtain ⟨w4, hw4⟩ : ∃ w4, w4 = w3.alloc (.cells (mkC (.slice A1 a.ins.length c1) (.slice B1 a.holds.length d1) a.out) 25) := ⟨_, rfl⟩
  rw [← hw4] at T ⊢
  clear hw4 z0 z1 z2
  obtain ⟨p, hp⟩ : ∃ p, p = w3.heap.size := ⟨_, rfl⟩
  rw [← hp] at T hq ⊢
  clear hp
  go_cut [13, 14] from 77 (fun s13 s14 wx => ∃ (q : Nat) (A1 : Option Addr) (A2 : Option Addr) (c2 : Nat) (B2 : Option Addr) (d2 : Nat), s13 = .pointer (some ⟨q, 0, none⟩) ∧ s14 = .int .i64 0 ∧ Tq w m A c B d p a A1 c1 B1 d1 wx ∧ Mh q a A2 c2 B2 d2 wx)
  case first =>
    clear HHD HFR HT1 HT2 HL HS1 HR HRT HE3 HHH g1 g2 g3 hn64
    obtain ⟨x0, x1, x2⟩ := T.out.a.at_.cells
    obtain ⟨gb, go, rfl, y0, y1⟩ := row_in T.out.a.has.ri HX.out
    have hp4 : p < w4.heap.size := lt_of_block T.out.a.at_
    have hg4 : gb < w4.heap.size := lt_of_cell y0
    have HP4 := Lib.hid hp4
    have HQ4 := Lib.hid (show w.heap.size < w4.heap.size from lt_of_block T.out.m.at_)
    have TA := Lib.hid ((T.out.next (al_below w4 (.cells zeM 25))).next (below_drewOf (Below.refl _ _)))
    have LA := Lib.hid (show Lies w4.heap.size zeM 25 (w4.alloc (.cells zeM 25)).drew from Lies.new w4 _ _)
    have T := Lib.hid (T.out.next (below_drewOf (Below.refl _ _)))
    clear HX hq y1
    go_region_with (go_at_call 18; first
      | (refine (HS2.out _ _ _ _ _ T.out.a.has).mono ?_; rintro e w5 ⟨A2, c2, B2, d2, rfl, h2, hb5⟩; simp only at h2; have T := Lib.hid (T.out.next hb5); have H2 := Lib.hid h2; clear hb5 h2)
      | (refine (HS2.out _ _ _ _ _ TA.out.a.has).mono ?_; rintro e w5 ⟨A2, c2, B2, d2, rfl, h2, hb5⟩; simp only at h2; have L3 := Lib.hid (lies_up LA.out hb5); have T := Lib.hid (TA.out.next hb5); have H2 := Lib.hid h2; have r0 := L3.out.cell (j := 0) rfl; have r1 := L3.out.cell (j := 1) rfl; have r2 := L3.out.cell (j := 2) rfl; have f0 := L3.out.free 0; have f1 := L3.out.free 1; have f2 := L3.out.free 2; clear hb5 h2))
    all_goals (
      go_wp2_with fail
      go_meet
      case rel =>
        first
        | exact ⟨w5.heap.size, _, A2, c2, B2, d2, rfl, rfl, T.out.next (al_below _ _), Mh.new H2.out⟩
        | exact ⟨w4.heap.size, _, A2, c2, B2, d2, rfl, rfl, T.out.put L3.out HQ4.out HP4.out (.slice A2 a.ins.length c2) (.slice B2 a.holds.length d2) a.out, ⟨lies_setM3 L3.out (.slice A2 a.ins.length c2) (.slice B2 a.holds.length d2) a.out, H2.out.put L3.out (.slice A2 a.ins.length c2) (.slice B2 a.holds.length d2) a.out⟩⟩)
  case rest =>
    obtain ⟨q, A1, A2, c2, B2, d2, rfl, rfl, hT, hQ⟩ := hcut
    have T5 := Lib.hid hT
    have Q5 := Lib.hid hQ
    clear hT hQ T HS1 HS2 HR HX HE3 hq hn64 hna hnn g1 g2 g3
    obtain ⟨x0, x1, x2⟩ := T5.out.a.at_.cells
    obtain ⟨y0, y1, y2⟩ := Q5.out.at_.cells
    go_wp2_with fail
    refine (HL.out a _ _ _ _ _ _ _ _ _ T5.out.a.has Q5.out.has).mono ?_
    rintro e w6 ⟨rfl, hb6⟩
    have M6 := Lib.hid (T5.out.m.next hb6)
    have B6 := Lib.hid (below_next T5.out.below hb6)
    clear hb6 x0 x1 x2 y0 y1 y2 T5 Q5
    obtain ⟨z0, z1, z2⟩ := M6.out.at_.cells
    have hhl : m.holds.length ≤ 100 := HHH.out
    go_wp2_with fail
    clear z0 z1 z2
    go_loopw [15, 108] (fun s15 s108 wr => ∃ k : Nat, s108 = .int .i64 k ∧ s15 = .bool (decide (no < 0) || has (m.holds.take k) no) ∧ k ≤ m.holds.length ∧ Below w6.heap.size w6 wr) (fun _ s108 _ => m.holds.length - (intOf s108).toNat)
    case atStart => exact ⟨0, rfl, by rw [show has (m.holds.take 0) no = false from rfl, Bool.or_false], Nat.zero_le _, Below.refl _ _⟩
    case round =>
      obtain ⟨k, rfl, rfl, hk, hb7⟩ := hrel
      have M7 := Lib.hid (M6.out.next hb7)
      have B7 := Lib.hid (below_next B6.out hb7)
      have HB7 := Lib.hid hb7
      obtain ⟨th, hth⟩ : ∃ th, th = (decide (no < 0) || has (m.holds.take k) no) := ⟨_, rfl⟩
      rw [← hth]
      have HTH := Lib.hid hth
      clear hb7 hth
      by_cases hlt : k < m.holds.length
      · obtain ⟨x, hx⟩ : ∃ x, m.holds[k]? = some x := ⟨_, List.getElem?_eq_getElem hlt⟩
        obtain ⟨gb, go, hge, c0, c1'⟩ := row_ho M7.out.has.rh hx
        subst hge
        have HXX := Lib.hid (has_next hx (no := no))
        clear hx
        cases th with
        | true =>
          go_wp2_with fail
          go_roundw
          case rel => exact ⟨k + 1, by go_num, by rw [HXX.out, ← Bool.or_assoc, ← HTH.out]; rfl, by omega, below_next HB7.out (al_below _ _)⟩
          case measure => simp [intOf]; omega
        | false =>
          by_cases he : x.no = no
          · have e1 : (x.no == no) = true := eq_b he
            have HE := Lib.hid he
            clear he
            go_wp2_with fail
            go_roundw
            case rel => exact ⟨k + 1, by go_num, by rw [HXX.out, ← Bool.or_assoc, ← HTH.out, decide_eq_true HE.out]; rfl, by omega, below_next HB7.out (al_below _ _)⟩
            case measure => simp [intOf]; omega
          · have e1 : (x.no == no) = false := ne_b he
            have HE := Lib.hid he
            clear he
            go_wp2_with fail
            go_roundw
            case rel => exact ⟨k + 1, by go_num, by rw [HXX.out, ← Bool.or_assoc, ← HTH.out, decide_eq_false HE.out]; rfl, by omega, below_next HB7.out (al_below _ _)⟩
            case measure => simp [intOf]; omega
      · have hke : m.holds.take k = m.holds := List.take_of_length_le (by omega)
        rw [hke] at HTH
        have hge : m.holds.length ≤ k := by omega
        clear hke
        obtain ⟨z0, z1, z2⟩ := M7.out.at_.cells
        obtain ⟨wo, hwo⟩ : ∃ wo, wo = wr := ⟨_, rfl⟩
        subst hwo
        go_wp2_with fail
        refine (HHD.out _ _ _ _ _ M7.out.has).mono ?_
        rintro e w8 ⟨Ah, ch, Bh, dh, rfl, h8, hb8⟩
        simp only at h8
        have M9 := Lib.hid ((M7.out.next hb8).next (al_below w8 (.cells (mkC (.slice Ah ho.ins.length ch) (.slice Bh ho.holds.length dh) ho.out) 25)))
        have B9 := Lib.hid (below_al (o := .cells (mkC (.slice Ah ho.ins.length ch) (.slice Bh ho.holds.length dh) ho.out) 25) (below_next B7.out hb8))
        have H8 := Lib.hid (Mh.new h8)
        clear hb8 h8 z0 z1 z2 M7 B7 HB7 M6 B6 hge
        cases th with
        | true =>
          obtain ⟨z0, z1, z2⟩ := M9.out.at_.cells
          go_wp2_with fail
          refine (HT1.out _ _ _ _ _ M9.out.has).mono ?_
          rintro e wa ⟨A3, c3, B3, d3, rfl, ha, hba⟩
          simp only at ha
          have X := Lib.hid (Mh.new ha)
          have BA := Lib.hid (below_al (o := .cells (mkC (.slice A3 tx.ins.length c3) (.slice B3 tx.holds.length d3) tx.out) 25) (below_next B9.out hba))
          clear ha hba z0 z1 z2 M9 B9
          go_wp2_with fail
          refine (HT2.out _ _ _ _ _ X.out.has).mono ?_
          rintro e wb ⟨A4, c4, B4, d4, rfl, hb4, hbb⟩
          simp only at hb4
          have X2 := Lib.hid ((X.out.next hbb).next (al_below wb (.cells (mkC (.slice A4 tx.ins.length c4) (.slice B4 tx.holds.length d4) tx.out) 25)))
          have Y2 := Lib.hid (Mh.new hb4)
          have BB := Lib.hid (below_al (o := .cells (mkC (.slice A4 tx.ins.length c4) (.slice B4 tx.holds.length d4) tx.out) 25) (below_next BA.out hbb))
          have hqa : wa.heap.size < wb.heap.size := lt_of_block (X.out.next hbb).at_
          clear hb4 hbb X BA
          obtain ⟨x0, x1, x2⟩ := X2.out.at_.cells
          obtain ⟨y0, y1, y2⟩ := Y2.out.at_.cells
          go_wp2_with fail
          refine (HL.out tx _ _ _ _ _ _ _ _ _ X2.out.has Y2.out.has).mono ?_
          rintro e wc2 ⟨rfl, hbc⟩
          have BC := Lib.hid (below_next BB.out hbc)
          clear hbc
          go_wp2_with fail
          go_ret
          exact ⟨by first | rfl | simp, BC.out⟩
        | false =>
          have hth := HTH.out
          have hno : has m.holds no = false := by
            cases hq1 : has m.holds no with
            | false => rfl
            | true => rw [hq1, Bool.or_true] at hth; cases hth
          have HNO := Lib.hid hno
          clear hth hno
          by_cases he : eo = 0
          · have HF := Lib.hid (HFR.out HNO.out he)
            have e1 : (((eo : Nat) : Int) == 0) = true := eq_b (by omega)
            clear he
            obtain ⟨x0, x1, x2⟩ := H8.out.at_.cells
            go_wp2_with fail
            refine (HF.out _ _ _ _ _ H8.out.has).mono ?_
            rintro e wd ⟨Ad, cd, Bd, dd, rfl, hd, hbd⟩
            simp only at hd
            have MD := Lib.hid ((M9.out.next hbd).next (al_below wd (.cells (mkC (.slice Ad m.ins.length cd) (.slice Bd m.holds.length dd) m.out) 25)))
            have BD := Lib.hid (below_al (o := .cells (mkC (.slice Ad m.ins.length cd) (.slice Bd m.holds.length dd) m.out) 25) (below_next B9.out hbd))
            have HD := Lib.hid (Mh.new hd)
            have hqd : w.heap.size < wd.heap.size := lt_of_block (M9.out.next hbd).at_
            clear hd hbd x0 x1 x2 M9 B9
            obtain ⟨z0, z1, z2⟩ := MD.out.at_.cells
            obtain ⟨x0, x1, x2⟩ := HD.out.at_.cells
            go_wp2_with fail
            refine (HL.out m _ _ _ _ _ _ _ _ _ HD.out.has MD.out.has).mono ?_
            rintro e wf ⟨rfl, hbf⟩
            have M9 := Lib.hid (MD.out.next hbf)
            have B9 := Lib.hid (below_next BD.out hbf)
            clear hbf z0 z1 z2 x0 x1 x2 MD BD HD hqd
            obtain ⟨z0, z1, z2⟩ := M9.out.at_.cells
            go_wp2_with fail
            refine (HT1.out _ _ _ _ _ M9.out.has).mono ?_
            rintro e wa ⟨A3, c3, B3, d3, rfl, ha, hba⟩
            simp only at ha
            have X := Lib.hid (Mh.new ha)
            have BA := Lib.hid (below_al (o := .cells (mkC (.slice A3 tx.ins.length c3) (.slice B3 tx.holds.length d3) tx.out) 25) (below_next B9.out hba))
            clear ha hba z0 z1 z2 M9 B9
            go_wp2_with fail
            refine (HT2.out _ _ _ _ _ X.out.has).mono ?_
            rintro e wb ⟨A4, c4, B4, d4, rfl, hb4, hbb⟩
            simp only at hb4
            have X2 := Lib.hid ((X.out.next hbb).next (al_below wb (.cells (mkC (.slice A4 tx.ins.length c4) (.slice B4 tx.holds.length d4) tx.out) 25)))
            have Y2 := Lib.hid (Mh.new hb4)
            have BB := Lib.hid (below_al (o := .cells (mkC (.slice A4 tx.ins.length c4) (.slice B4 tx.holds.length d4) tx.out) 25) (below_next BA.out hbb))
            have hqa : wa.heap.size < wb.heap.size := lt_of_block (X.out.next hbb).at_
            clear hb4 hbb X BA
            obtain ⟨x0, x1, x2⟩ := X2.out.at_.cells
            obtain ⟨y0, y1, y2⟩ := Y2.out.at_.cells
            go_wp2_with fail
            refine (HL.out tx _ _ _ _ _ _ _ _ _ X2.out.has Y2.out.has).mono ?_
            rintro e wc2 ⟨rfl, hbc⟩
            have BC := Lib.hid (below_next BB.out hbc)
            clear hbc
            go_wp2_with fail
            go_ret
            exact ⟨by first | rfl | simp, BC.out⟩
          · have e1 : (((eo : Nat) : Int) == 0) = false := ne_b (by omega)
            clear he
            obtain ⟨z0, z1, z2⟩ := M9.out.at_.cells
            go_wp2_with fail
            refine (HT1.out _ _ _ _ _ M9.out.has).mono ?_
            rintro e wa ⟨A3, c3, B3, d3, rfl, ha, hba⟩
            simp only at ha
            have X := Lib.hid (Mh.new ha)
            have BA := Lib.hid (below_al (o := .cells (mkC (.slice A3 tx.ins.length c3) (.slice B3 tx.holds.length d3) tx.out) 25) (below_next B9.out hba))
            clear ha hba z0 z1 z2 M9 B9
            go_wp2_with fail
            refine (HT2.out _ _ _ _ _ X.out.has).mono ?_
            rintro e wb ⟨A4, c4, B4, d4, rfl, hb4, hbb⟩
            simp only at hb4
            have X2 := Lib.hid ((X.out.next hbb).next (al_below wb (.cells (mkC (.slice A4 tx.ins.length c4) (.slice B4 tx.holds.length d4) tx.out) 25)))
            have Y2 := Lib.hid (Mh.new hb4)
            have BB := Lib.hid (below_al (o := .cells (mkC (.slice A4 tx.ins.length c4) (.slice B4 tx.holds.length d4) tx.out) 25) (below_next BA.out hbb))
            have hqa : wa.heap.size < wb.heap.size := lt_of_block (X.out.next hbb).at_
            clear hb4 hbb X BA
            obtain ⟨x0, x1, x2⟩ := X2.out.at_.cells
            obtain ⟨y0, y1, y2⟩ := Y2.out.at_.cells
            go_wp2_with fail
            refine (HL.out tx _ _ _ _ _ _ _ _ _ X2.out.has Y2.out.has).mono ?_
            rintro e wc2 ⟨rfl, hbc⟩
            have BC := Lib.hid (below_next BB.out hbc)
            clear hbc
            go_wp2_with fail
            go_ret
            exact ⟨by first | rfl | simp, BC.out⟩
theorem lawMarkTwice : Lift.Owes 8 [25, 3, 2, 3, 2] := by
  intro H enc W base args ds ps hval hA _ _
  obtain ⟨v0, v1, v2, v3, v4, d0, d1, d2, d3, d4, p0, p1, p2, p3, p4, rfl, rfl, rfl, h0, h1, h2, h3, h4⟩ := trodAll_fiveM hA
  obtain ⟨m, A, c, B, d, rfl, hm⟩ := openMarks (hval 0 _ v0 rfl rfl) h0
  obtain ⟨i, rfl, rfl, rfl, _⟩ := open_int Try.underlying3 (hval 1 _ v1 rfl rfl) h1
  obtain ⟨t, rfl, rfl, rfl, _⟩ := open_int Try.underlying2 (hval 2 _ v2 rfl rfl) h2
  obtain ⟨no, rfl, rfl, rfl, _⟩ := open_int Try.underlying3 (hval 3 _ v3 rfl rfl) h3
  obtain ⟨at_, rfl, rfl, rfl, _⟩ := open_int Try.underlying2 (hval 4 _ v4 rfl rfl) h4
  by_cases hc : m.ins.length ≤ 100 ∧ m.holds.length ≤ 100 ∧ there m i = true
  · obtain ⟨k1, k2, k3⟩ := hc
    obtain ⟨q1, q2, q3⟩ := (there_iff m i).1 k3
    obtain ⟨n, rfl⟩ : ∃ n : Nat, i = n := ⟨i.toNat, by omega⟩
    exact twiceYes m A c B d n t no at_ W hm k1 k2 q1 (by omega)
  · exact twiceNot m A c B d i t no at_ W hm hc
end Wm
theorem lawMarkTwice : Lift.Owes 8 [25, 3, 2, 3, 2] := Wm.lawMarkTwice
end Go.Proofs.Ytciagbeamphihaa
