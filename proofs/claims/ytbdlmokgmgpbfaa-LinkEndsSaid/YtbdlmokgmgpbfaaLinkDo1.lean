/- The law's do: a packet on its way. -/
import Derived.Test.YtbdlmokgmgpbfaaLinkLose
namespace Go.Proofs.Ytbdlmokgmgpbfaa
open Go.ChangeShapes Go.WideShapes Go.ChangeAt Go.RowKit
set_option linter.unusedVariables false
set_option maxRecDepth 8000
namespace Lk
open Gen (TellsB TellsI Mine)
set_option maxRecDepth 100000 in
theorem lawDoNone (w0 : World) (b : Nat) (ep : Int) (N : Nat) (p : Wy) (hI : Inv ep N p) (what which : Int) (body : ByteArray) (hw : 1 ≤ what ∧ what ≤ 3) (h0 : p.way = []) (w : World) (h : Plays w0 b p w) :
    Calls Try.prog 23 #[.pointer (some ⟨b, 0, none⟩), .agg #[.int .i64 what, .int .i64 which, .string body]] w (DidP w0 b p) := by
  obtain ⟨vb, vw, vp, vg, vs, hP⟩ := h
  have hway := hP.way
  have hn : p.way.length = 0 := by rw [h0]; rfl
  rw [hn] at hway
  obtain ⟨WA, wc_, rfl, _⟩ := own_form hway (by omega)
  obtain ⟨h1, h3⟩ := hw
  have P0 := Lib.hid (hP.next (below_al (o := .cells #[.int .i64 what, .int .i64 which, .string body] 53) (Below.refl _ _)))
  have x6 := hP.at_.cell (j := 6) rfl
  have hbk := lies_lt hP.at_
  clear hP hway h0 hn hI
  go_enter Try.func23, Try.ntmps23
  go_wp2_with fail
  go_end0
  exact ⟨rfl, _, _, _, _, _, P0.out⟩
set_option maxRecDepth 100000 in
set_option maxHeartbeats 4000000 in
theorem lawDo1 (w0 : World) (b : Nat) (ep : Int) (N : Nat) (p : Wy) (hI : Inv ep N p) (hN : N ≤ 1000) (what which : Int) (body : ByteArray) (hwhat : what = 1) (hnp : 0 < p.way.length) (x : Pk) (hx : p.way[idx which p.way.length]? = some x) (w : World) (h : Plays w0 b p w) :
    Calls Try.prog 23 #[.pointer (some ⟨b, 0, none⟩), .agg #[.int .i64 what, .int .i64 which, .string body]] w (DidP w0 b { tellO p x with way := p.way.eraseIdx (idx which p.way.length) }) := by
  have HX := Lib.hid hx
  clear hx
  have HNP0 := Lib.hid hnp
  have e0 : (what == 0) = false := ne_b (by omega)
  have e1 : (what == 1) = true := eq_b (by omega)
  clear hwhat
  obtain ⟨vb, vw, vp, vg, vs, hP⟩ := h
  obtain ⟨n, hn⟩ : ∃ n, n = p.way.length := ⟨_, rfl⟩
  have HNP : Hid (0 < n) := Lib.hid (by rw [hn]; exact HNP0.out)
  obtain ⟨ii, hii⟩ : ∃ ii : Nat, ii = if 0 < n then idx which n else 0 := ⟨_, rfl⟩
  have hwl : n ≤ 2000 := by rw [hn]; have := hI.wl; omega
  have hway := hP.way
  rw [← hn] at hway
  obtain ⟨WA, wc_, rfl, _⟩ := own_form hway (by omega)
  have HII := Lib.hid hii
  have HNN := Lib.hid hn
  have HI := Lib.hid hI
  have HN := Lib.hid hN
  have HWL := Lib.hid hwl
  have P0 := Lib.hid (hP.next (below_al (o := .cells #[.int .i64 what, .int .i64 which, .string body] 53) (Below.refl _ _)))
  have LA := Lib.hid (Lies.new w #[.int .i64 what, .int .i64 which, .string body] 53)
  have hbk := lies_lt hP.at_
  clear hP hway hn hii hwl hI hN
  go_enter Try.func23, Try.ntmps23
  go_upto_region 1 with fail
  obtain ⟨ka, hka⟩ : ∃ k, k = w.heap.size := ⟨_, rfl⟩
  obtain ⟨W, hW⟩ : ∃ W, W = w.alloc (.cells #[.int .i64 what, .int .i64 which, .string body] 53) := ⟨_, rfl⟩
  rw [← hW] at P0 LA ⊢
  rw [← hka] at LA hbk ⊢
  clear hW hka
  have x6 := P0.out.at_.cell (j := 6) rfl
  have a0 := LA.out.cell (j := 0) rfl
  have a1 := LA.out.cell (j := 1) rfl
  obtain ⟨pz, hpz1⟩ : ∃ z, decide (0 < n) = z := ⟨_, rfl⟩
  have hpz2 : decide ((0 : Int) < (n : Int)) = pz := by rw [← hpz1]; exact decide_eq_decide.2 (by omega)
  go_upto_if 23 with fail
  go_cut [4] from 40 (fun s4 wc => s4 = .int .i64 (ii : Int) ∧ wc = W)
  case first =>
    cases pz
    rotate_left
    · have hn0 : 0 < n := of_decide_eq_true hpz1
      have hn0' : (0 : Int) < (n : Int) := by omega
      have hne : ((n : Int) == 0) = false := ne_b (by omega)
      have hne2 : ¬ (n : Int) = 0 := by omega
      have hne3 : ¬ n = 0 := by omega
      obtain ⟨q, hq⟩ : ∃ q, which.tmod (n : Int) = q := ⟨_, rfl⟩
      have tb := tmod_bounds which hn0'
      have pl := place (a := which) hn0'
      rw [hq] at tb pl
      obtain ⟨y, hy⟩ : ∃ y, y = q + (n : Int) := ⟨_, rfl⟩
      have hw : IntKind.i64.wrap (q + (n : Int)) = y := by rw [hy]; have := HWL.out; exact wrap64L (by omega) (by omega)
      have hr : y.tmod (n : Int) = (ii : Int) := by
        rw [HII.out, if_pos hn0]
        unfold idx
        rw [hq, ← hy]
        rw [← hy] at pl
        exact (Int.toNat_of_nonneg pl.1).symm
      clear tb pl hy
      go_wp2_with fail
      go_meet
      case rel => exact ⟨rfl, rfl⟩
    · exact absurd HNP.out (of_decide_eq_false hpz1)
  case rest =>
    obtain ⟨rfl, rfl⟩ := hcut
    clear x6 a1 hpz1 hpz2
    have hx' : p.way[ii]? = some x := by rw [HII.out, if_pos (HNP.out), HNN.out]; exact HX.out
    have hI2 := HI.out
    have hxo := hI2.way x (List.mem_of_getElem? hx')
    have hti := tell_inv hI2 HN.out hxo
    have htk := take_ok hI2 HN.out hxo
    have HT := Lib.hid (fun w (h : Plays w0 b p w) => lawTell w0 b p ii x hx' (by rw [htk]; split <;> rfl) ⟨by have := hI2.wl; have := HN.out; omega, by have := hI2.gl; have := hI2.few; have := HN.out; omega, by have := hI2.wn; have := HN.out; omega⟩ w h)
    have HL := Lib.hid (fun w (h : Plays w0 b (tellO p x) w) => lawLose w0 b (tellO p x) ii (by rw [hti.2.1]; exact (List.getElem?_eq_some_iff.1 hx').1) (by rw [hti.2.1]; have := hI2.wl; have := HN.out; omega) w h)
    rw [hti.2.1] at HL
    have HE : Hid (ii = idx which p.way.length) := Lib.hid (by rw [HII.out, if_pos (HNP.out), HNN.out])
    clear hx' hI2 hxo hti htk
    go_wp2_with fail
    refine (HT.out _ ⟨_, _, _, _, _, P0.out⟩).mono ?_
    rintro e w1 ⟨rfl, h1⟩
    have H1 := Lib.hid h1
    clear h1
    go_wp2_with fail
    refine (HL.out _ H1.out).mono ?_
    rintro e w2 ⟨rfl, h2⟩
    have H2 := Lib.hid h2
    clear h2
    go_wp2_with fail
    go_end0
    refine ⟨rfl, ?_⟩
    rw [← HE.out]
    exact H2.out
set_option maxRecDepth 100000 in
set_option maxHeartbeats 4000000 in
theorem lawDo2 (w0 : World) (b : Nat) (ep : Int) (N : Nat) (p : Wy) (hI : Inv ep N p) (hN : N ≤ 1000) (what which : Int) (body : ByteArray) (hwhat : what = 2) (hnp : 0 < p.way.length) (x : Pk) (hx : p.way[idx which p.way.length]? = some x) (w : World) (h : Plays w0 b p w) :
    Calls Try.prog 23 #[.pointer (some ⟨b, 0, none⟩), .agg #[.int .i64 what, .int .i64 which, .string body]] w (DidP w0 b (tellO p x)) := by
  have HX := Lib.hid hx
  clear hx
  have HNP0 := Lib.hid hnp
  have e0 : (what == 0) = false := ne_b (by omega)
  have e1 : (what == 1) = false := ne_b (by omega)
  have e2 : (what == 2) = true := eq_b (by omega)
  clear hwhat
  obtain ⟨vb, vw, vp, vg, vs, hP⟩ := h
  obtain ⟨n, hn⟩ : ∃ n, n = p.way.length := ⟨_, rfl⟩
  have HNP : Hid (0 < n) := Lib.hid (by rw [hn]; exact HNP0.out)
  obtain ⟨ii, hii⟩ : ∃ ii : Nat, ii = if 0 < n then idx which n else 0 := ⟨_, rfl⟩
  have hwl : n ≤ 2000 := by rw [hn]; have := hI.wl; omega
  have hway := hP.way
  rw [← hn] at hway
  obtain ⟨WA, wc_, rfl, _⟩ := own_form hway (by omega)
  have HII := Lib.hid hii
  have HNN := Lib.hid hn
  have HI := Lib.hid hI
  have HN := Lib.hid hN
  have HWL := Lib.hid hwl
  have P0 := Lib.hid (hP.next (below_al (o := .cells #[.int .i64 what, .int .i64 which, .string body] 53) (Below.refl _ _)))
  have LA := Lib.hid (Lies.new w #[.int .i64 what, .int .i64 which, .string body] 53)
  have hbk := lies_lt hP.at_
  clear hP hway hn hii hwl hI hN
  go_enter Try.func23, Try.ntmps23
  go_upto_region 1 with fail
  obtain ⟨ka, hka⟩ : ∃ k, k = w.heap.size := ⟨_, rfl⟩
  obtain ⟨W, hW⟩ : ∃ W, W = w.alloc (.cells #[.int .i64 what, .int .i64 which, .string body] 53) := ⟨_, rfl⟩
  rw [← hW] at P0 LA ⊢
  rw [← hka] at LA hbk ⊢
  clear hW hka
  have x6 := P0.out.at_.cell (j := 6) rfl
  have a0 := LA.out.cell (j := 0) rfl
  have a1 := LA.out.cell (j := 1) rfl
  obtain ⟨pz, hpz1⟩ : ∃ z, decide (0 < n) = z := ⟨_, rfl⟩
  have hpz2 : decide ((0 : Int) < (n : Int)) = pz := by rw [← hpz1]; exact decide_eq_decide.2 (by omega)
  go_upto_if 23 with fail
  go_cut [4] from 40 (fun s4 wc => s4 = .int .i64 (ii : Int) ∧ wc = W)
  case first =>
    cases pz
    rotate_left
    · have hn0 : 0 < n := of_decide_eq_true hpz1
      have hn0' : (0 : Int) < (n : Int) := by omega
      have hne : ((n : Int) == 0) = false := ne_b (by omega)
      have hne2 : ¬ (n : Int) = 0 := by omega
      have hne3 : ¬ n = 0 := by omega
      obtain ⟨q, hq⟩ : ∃ q, which.tmod (n : Int) = q := ⟨_, rfl⟩
      have tb := tmod_bounds which hn0'
      have pl := place (a := which) hn0'
      rw [hq] at tb pl
      obtain ⟨y, hy⟩ : ∃ y, y = q + (n : Int) := ⟨_, rfl⟩
      have hw : IntKind.i64.wrap (q + (n : Int)) = y := by rw [hy]; have := HWL.out; exact wrap64L (by omega) (by omega)
      have hr : y.tmod (n : Int) = (ii : Int) := by
        rw [HII.out, if_pos hn0]
        unfold idx
        rw [hq, ← hy]
        rw [← hy] at pl
        exact (Int.toNat_of_nonneg pl.1).symm
      clear tb pl hy
      go_wp2_with fail
      go_meet
      case rel => exact ⟨rfl, rfl⟩
    · exact absurd HNP.out (of_decide_eq_false hpz1)
  case rest =>
    obtain ⟨rfl, rfl⟩ := hcut
    clear x6 a1 hpz1 hpz2
    have hx' : p.way[ii]? = some x := by rw [HII.out, if_pos HNP.out, HNN.out]; exact HX.out
    have hI2 := HI.out
    have hxo := hI2.way x (List.mem_of_getElem? hx')
    have htk := take_ok hI2 HN.out hxo
    have HT := Lib.hid (fun w (h : Plays w0 b p w) => lawTell w0 b p ii x hx' (by rw [htk]; split <;> rfl) ⟨by have := hI2.wl; have := HN.out; omega, by have := hI2.gl; have := hI2.few; have := HN.out; omega, by have := hI2.wn; have := HN.out; omega⟩ w h)
    clear hx' hI2 hxo htk
    go_wp2_with fail
    refine (HT.out _ ⟨_, _, _, _, _, P0.out⟩).mono ?_
    rintro e w1 ⟨rfl, h1⟩
    have H1 := Lib.hid h1
    clear h1
    go_wp2_with fail
    go_end0
    exact ⟨rfl, H1.out⟩
set_option maxRecDepth 100000 in
set_option maxHeartbeats 4000000 in
theorem lawDo3 (w0 : World) (b : Nat) (ep : Int) (N : Nat) (p : Wy) (hI : Inv ep N p) (hN : N ≤ 1000) (what which : Int) (body : ByteArray) (hwhat : what = 3) (hnp : 0 < p.way.length) (w : World) (h : Plays w0 b p w) :
    Calls Try.prog 23 #[.pointer (some ⟨b, 0, none⟩), .agg #[.int .i64 what, .int .i64 which, .string body]] w (DidP w0 b { p with way := p.way.eraseIdx (idx which p.way.length) }) := by
  have HNP0 := Lib.hid hnp
  have e0 : (what == 0) = false := ne_b (by omega)
  have e1 : (what == 1) = false := ne_b (by omega)
  have e2 : (what == 2) = false := ne_b (by omega)
  have e3 : (what == 3) = true := eq_b (by omega)
  clear hwhat
  obtain ⟨vb, vw, vp, vg, vs, hP⟩ := h
  obtain ⟨n, hn⟩ : ∃ n, n = p.way.length := ⟨_, rfl⟩
  have HNP : Hid (0 < n) := Lib.hid (by rw [hn]; exact HNP0.out)
  obtain ⟨ii, hii⟩ : ∃ ii : Nat, ii = if 0 < n then idx which n else 0 := ⟨_, rfl⟩
  have hwl : n ≤ 2000 := by rw [hn]; have := hI.wl; omega
  have hway := hP.way
  rw [← hn] at hway
  obtain ⟨WA, wc_, rfl, _⟩ := own_form hway (by omega)
  have HII := Lib.hid hii
  have HNN := Lib.hid hn
  have HI := Lib.hid hI
  have HN := Lib.hid hN
  have HWL := Lib.hid hwl
  have P0 := Lib.hid (hP.next (below_al (o := .cells #[.int .i64 what, .int .i64 which, .string body] 53) (Below.refl _ _)))
  have LA := Lib.hid (Lies.new w #[.int .i64 what, .int .i64 which, .string body] 53)
  have hbk := lies_lt hP.at_
  clear hP hway hn hii hwl hI hN
  go_enter Try.func23, Try.ntmps23
  go_upto_region 1 with fail
  obtain ⟨ka, hka⟩ : ∃ k, k = w.heap.size := ⟨_, rfl⟩
  obtain ⟨W, hW⟩ : ∃ W, W = w.alloc (.cells #[.int .i64 what, .int .i64 which, .string body] 53) := ⟨_, rfl⟩
  rw [← hW] at P0 LA ⊢
  rw [← hka] at LA hbk ⊢
  clear hW hka
  have x6 := P0.out.at_.cell (j := 6) rfl
  have a0 := LA.out.cell (j := 0) rfl
  have a1 := LA.out.cell (j := 1) rfl
  obtain ⟨pz, hpz1⟩ : ∃ z, decide (0 < n) = z := ⟨_, rfl⟩
  have hpz2 : decide ((0 : Int) < (n : Int)) = pz := by rw [← hpz1]; exact decide_eq_decide.2 (by omega)
  go_upto_if 23 with fail
  go_cut [4] from 40 (fun s4 wc => s4 = .int .i64 (ii : Int) ∧ wc = W)
  case first =>
    cases pz
    rotate_left
    · have hn0 : 0 < n := of_decide_eq_true hpz1
      have hn0' : (0 : Int) < (n : Int) := by omega
      have hne : ((n : Int) == 0) = false := ne_b (by omega)
      have hne2 : ¬ (n : Int) = 0 := by omega
      have hne3 : ¬ n = 0 := by omega
      obtain ⟨q, hq⟩ : ∃ q, which.tmod (n : Int) = q := ⟨_, rfl⟩
      have tb := tmod_bounds which hn0'
      have pl := place (a := which) hn0'
      rw [hq] at tb pl
      obtain ⟨y, hy⟩ : ∃ y, y = q + (n : Int) := ⟨_, rfl⟩
      have hw : IntKind.i64.wrap (q + (n : Int)) = y := by rw [hy]; have := HWL.out; exact wrap64L (by omega) (by omega)
      have hr : y.tmod (n : Int) = (ii : Int) := by
        rw [HII.out, if_pos hn0]
        unfold idx
        rw [hq, ← hy]
        rw [← hy] at pl
        exact (Int.toNat_of_nonneg pl.1).symm
      clear tb pl hy
      go_wp2_with fail
      go_meet
      case rel => exact ⟨rfl, rfl⟩
    · exact absurd HNP.out (of_decide_eq_false hpz1)
  case rest =>
    obtain ⟨rfl, rfl⟩ := hcut
    clear x6 a1 hpz1 hpz2
    have HE : Hid (ii = idx which p.way.length) := Lib.hid (by rw [HII.out, if_pos HNP.out, HNN.out])
    have hlt := idx_lt which HNP0.out
    have HL := Lib.hid (fun w (h : Plays w0 b p w) => lawLose w0 b p ii (by rw [HE.out]; exact hlt) (by have := HI.out.wl; have := HN.out; omega) w h)
    clear hlt
    go_wp2_with fail
    refine (HL.out _ ⟨_, _, _, _, _, P0.out⟩).mono ?_
    rintro e w1 ⟨rfl, h1⟩
    have H1 := Lib.hid h1
    clear h1
    go_wp2_with fail
    go_end0
    refine ⟨rfl, ?_⟩
    rw [← HE.out]
    exact H1.out
end Lk
end Go.Proofs.Ytbdlmokgmgpbfaa
