/- Breaking patterns: exchanges within the range. -/
import Derived.Test.YtgpcbiballdioaaDoorSrtBits
import Derived.Test.YtgpcbiballdioaaDoorSrtRev
namespace Go.Proofs.YtgpcbiballdioaaDoor
open Go.RowKit
set_option linter.unusedVariables false
set_option maxRecDepth 8000
namespace Srt
theorem Only.side {b r : Nat} {X Y Z : World} (h : Only b X Y) (k : Only r Y Z) (hr : X.heap.size ≤ r) : Only b X Z :=
  ⟨k.os.trans h.os, k.tape.trans h.tape, k.output.trans h.output, Nat.le_trans h.size k.size, fun i hi hn => (k.block i (Nat.lt_of_lt_of_le hi h.size) (by omega)).trans (h.block i hi hn)⟩
theorem Gn.far {r v b : Nat} {w : World} (h : Gn r v w) (hb : b ≠ r) (o : Nat) (x : Value) : Gn r v (w.setCell ⟨b, o, none⟩ x) :=
  ⟨h.small, by rw [World.cell?_setCell_other (h := by intro h0; injection h0 with h1 _; exact hb h1)]; exact h.cell, by rw [World.frozen?_setCell]; exact h.free⟩
theorem Gn.drew {r v : Nat} {w : World} (h : Gn r v w) : Gn r v w.drew := ⟨h.small, h.cell, h.free⟩
set_option maxRecDepth 100000 in
set_option maxHeartbeats 4000000 in
theorem uBrk (b off n cap a c : Nat) (d : Fn) (w : World) (h : At b off n d w) (hac : a + 8 ≤ c) (hc : c ≤ n) (hn : n ≤ 1000) (hl : c ≤ a + 100) :
    Calls Tryd.prog 41 #[.slice (some ⟨b, off, none⟩) n cap, .int .i64 a, .int .i64 c] w (GivesW b off n a c d w) := by
  have hb : b < w.heap.size := lt_of_cell (h.cell a (by omega))
  obtain ⟨l, hl0⟩ : ∃ l, l = c - a := ⟨_, rfl⟩
  obtain ⟨q, hq⟩ : ∃ q, q = l / 4 := ⟨_, rfl⟩
  obtain ⟨g, hg⟩ : ∃ g, g = a + q * 2 := ⟨_, rfl⟩
  obtain ⟨i0, hi0⟩ : ∃ i0, i0 = g - 1 := ⟨_, rfl⟩
  have e0 : (c : Int) - a = (l : Int) := by omega
  have e1 : (l : Int) / 4 = (q : Int) := by omega
  have e2 : (a : Int) + q * 2 = (g : Int) := by omega
  have e3 : (g : Int) - 1 = (i0 : Int) := by omega
  have HB0 := Lib.hid (show a ≤ i0 ∧ i0 ≤ g ∧ g + 1 < c ∧ a + l = c by omega)
  have hsm : l ≤ 1000 ∧ q ≤ 1000 ∧ g ≤ 4000 ∧ i0 ≤ 4000 := by omega
  have b8 : (8 : Int) ≤ (l : Int) := by omega
  obtain ⟨M, m1, m2, m3⟩ := uPow l w (by omega) (by omega)
  obtain ⟨M1, hM⟩ : ∃ M1, M = M1 + 1 := ⟨M - 1, by omega⟩
  have e4 : (M : Int) - 1 = (M1 : Int) := by omega
  have e5 : IntKind.u64.wrap (M1 : Int) = (M1 : Int) := by rw [IntKind.wrap_u64]; omega
  have e6 : IntKind.u64.wrap (l : Int) = (l : Int) := by rw [IntKind.wrap_u64]; omega
  have hM1 : M1 + 1 ≤ 2 * l := by omega
  have HP := Lib.hid m3
  have R0 := Lib.hid (show Rw b off n w d (w.alloc (.cells #[.int .u64 l] 86)) from (Rw.start h).below (below_al (Below.refl _ _)))
  have G0 := Lib.hid (show Gn w.heap.size l (w.alloc (.cells #[.int .u64 l] 86)) from ⟨by omega, (Lies.new w #[.int .u64 l] 86).cell rfl, (Lies.new w #[.int .u64 l] 86).free 0⟩)
  have HN := Lib.hid (fun (r v : Nat) (w : World) (h : Gn r v w) => uNext r v w h)
  have HBR := Lib.hid (show b ≠ w.heap.size by omega)
  clear h hb hl0 hq hg hi0 m1 m2 m3 hM
  go_enter Tryd.func41, Tryd.ntmps41
  go_wp2_with fail
  refine (HP.out _).mono ?_
  rintro e w1 ⟨rfl, rfl⟩
  go_wp2_with fail
  go_loopw [9, 10] (fun s9 s10 wr => ∃ (i v : Nat) (e : Fn), s9 = .int .i64 i ∧ a ≤ i ∧ i ≤ g + 2 ∧ Sw a c d e ∧ Gn w.heap.size v wr ∧ Rw b off n w e wr) (fun s9 _ _ => g + 2 - (intOf s9).toNat)
  case atStart => exact ⟨i0, l, d, rfl, HB0.out.1, by have := HB0.out; omega, .refl _, G0.out, R0.out⟩
  case round =>
    obtain ⟨i, v, e, rfl, hai, hig, hsw, hgn, hrw⟩ := hrel
    have HSW := Lib.hid hsw; have HRW := Lib.hid hrw; have HGN := Lib.hid hgn
    clear hsw hrw hgn
    by_cases hlt : i ≤ g + 1
    · have b1 : (i : Int) ≤ (g : Int) + 1 := by omega
      have hin : i < c ∧ a + l = c := by have := HB0.out; omega
      go_wp2_with fail
      refine (HN.out _ v _ HGN.out).mono ?_
      rintro e' w2 ⟨u, rfl, hg2, ho2⟩
      have HG2 := Lib.hid hg2
      have HR2 := Lib.hid (show Rw b off n w e w2 from ⟨HRW.out.at_.only ho2 HBR.out, HRW.out.only.side ho2 (Nat.le_refl _)⟩)
      obtain ⟨o, ho, eo⟩ : ∃ o : Nat, o ≤ M1 ∧ bits .and .u64 (u : Int) (M1 : Int) = (o : Int) := ⟨u &&& M1, Nat.and_le_right, u64_and_nat u M1 (by have := hg2.small; omega) (by omega)⟩
      clear hg2 ho2
      by_cases hol : l ≤ o
      · have b2 : (l : Int) ≤ (o : Int) := by omega
        obtain ⟨p, hp⟩ : ∃ p, o = p + l := ⟨o - l, by omega⟩
        have e7 : (o : Int) - l = (p : Int) := by omega
        have hpl : p < l := by omega
        clear hp
        have i1 : (i : Int) < (n : Int) := by omega
        have i2 : (a : Int) + p < (n : Int) := by omega
        have i3 : (0 : Int) ≤ (a : Int) + p := by omega
        obtain ⟨x, hx⟩ : ∃ x, e i = x := ⟨_, rfl⟩
        obtain ⟨y, hy⟩ : ∃ y, e (a + p) = y := ⟨_, rfl⟩
        have c1 := HR2.out.at_.cell i (by omega)
        have c2 := HR2.out.at_.cell (a + p) (by omega)
        have f1 := HR2.out.at_.free i (by omega)
        have f2 := HR2.out.at_.free (a + p) (by omega)
        rw [hx] at c1; rw [hy] at c2
        obtain ⟨v3, hy3⟩ := cell?_setCell_some (w := w2) (p := ⟨b, off + i, none⟩) (x := .int .u32 y) (q := ⟨b, off + (a + p), none⟩) c2
        have HS3 := Lib.hid (HR2.out.swap (i := i) (j := a + p) (by omega) (by omega) hy hx)
        have HG3 := Lib.hid (show Gn w.heap.size u (((w2.setCell ⟨b, off + i, none⟩ (.int .u32 y)).setCell ⟨b, off + (a + p), none⟩ (.int .u32 x)).drew) from (Gn.far (Gn.far HG2.out HBR.out _ _) HBR.out _ _).drew)
        clear hx hy
        go_wp2_with fail
        go_region
        go_wp2_with fail
        go_roundw
        case rel => exact ⟨i + 1, u, _, by go_num, by omega, by omega, HSW.out.trans (Sw.one e (i := i) (j := a + p) (by omega) (by omega) (by omega) (by omega)), HG3.out, HS3.out⟩
        case measure => simp [intOf]; omega
      · have b2 : ¬ (l : Int) ≤ (o : Int) := by omega
        have hpl : o < l := by omega
        have i1 : (i : Int) < (n : Int) := by omega
        have i2 : (a : Int) + o < (n : Int) := by omega
        have i3 : (0 : Int) ≤ (a : Int) + o := by omega
        obtain ⟨x, hx⟩ : ∃ x, e i = x := ⟨_, rfl⟩
        obtain ⟨y, hy⟩ : ∃ y, e (a + o) = y := ⟨_, rfl⟩
        have c1 := HR2.out.at_.cell i (by omega)
        have c2 := HR2.out.at_.cell (a + o) (by omega)
        have f1 := HR2.out.at_.free i (by omega)
        have f2 := HR2.out.at_.free (a + o) (by omega)
        rw [hx] at c1; rw [hy] at c2
        obtain ⟨v3, hy3⟩ := cell?_setCell_some (w := w2) (p := ⟨b, off + i, none⟩) (x := .int .u32 y) (q := ⟨b, off + (a + o), none⟩) c2
        have HS3 := Lib.hid (HR2.out.swap (i := i) (j := a + o) (by omega) (by omega) hy hx)
        have HG3 := Lib.hid (show Gn w.heap.size u (((w2.setCell ⟨b, off + i, none⟩ (.int .u32 y)).setCell ⟨b, off + (a + o), none⟩ (.int .u32 x)).drew) from (Gn.far (Gn.far HG2.out HBR.out _ _) HBR.out _ _).drew)
        clear hx hy
        go_wp2_with fail
        go_region
        go_wp2_with fail
        go_roundw
        case rel => exact ⟨i + 1, u, _, by go_num, by omega, by omega, HSW.out.trans (Sw.one e (i := i) (j := a + o) (by omega) (by omega) (by omega) (by omega)), HG3.out, HS3.out⟩
        case measure => simp [intOf]; omega
    · have b1 : ¬ (i : Int) ≤ (g : Int) + 1 := by omega
      go_wp2_with fail
      go_end0
      exact ⟨rfl, e, HSW.out, HRW.out⟩
end Srt
end Go.Proofs.YtgpcbiballdioaaDoor
