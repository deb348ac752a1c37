/- The law's do: what is waited for is told. -/
import Derived.Test.YtbdlmokgmgpbfaaLinkDo5
namespace Go.Proofs.Ytbdlmokgmgpbfaa
open Go.ChangeShapes Go.WideShapes Go.ChangeAt Go.RowKit
set_option linter.unusedVariables false
set_option maxRecDepth 8000
namespace Lk
open Gen (TellsB TellsI Mine)

section
variable {W1 a c : World} {b ka g o : Nat} {p : Wy} {which v : Int} {vb vs : Value}
theorem keep4 (hb : Below a.heap.size a c) (h : a.cell? ⟨b, 0, none⟩ = some (.int .i64 p.s.epoch) ∧ a.cell? ⟨b, 1, none⟩ = some (.int .i64 p.s.base) ∧ a.cell? ⟨b, 2, none⟩ = some vb ∧ a.cell? ⟨b, 3, none⟩ = some (.int .i64 p.s.timer) ∧ a.cell? ⟨b, 10, none⟩ = some vs ∧ a.cell? ⟨ka, 1, none⟩ = some (.int .i64 which) ∧ a.cell? ⟨g, o, none⟩ = some (.int .i64 v) ∧ Below W1.heap.size W1 a) : c.cell? ⟨b, 0, none⟩ = some (.int .i64 p.s.epoch) ∧ c.cell? ⟨b, 1, none⟩ = some (.int .i64 p.s.base) ∧ c.cell? ⟨b, 2, none⟩ = some vb ∧ c.cell? ⟨b, 3, none⟩ = some (.int .i64 p.s.timer) ∧ c.cell? ⟨b, 10, none⟩ = some vs ∧ c.cell? ⟨ka, 1, none⟩ = some (.int .i64 which) ∧ c.cell? ⟨g, o, none⟩ = some (.int .i64 v) ∧ Below W1.heap.size W1 c :=
  ⟨Gen.cell_below h.1 hb, Gen.cell_below h.2.1 hb, Gen.cell_below h.2.2.1 hb, Gen.cell_below h.2.2.2.1 hb, Gen.cell_below h.2.2.2.2.1 hb, Gen.cell_below h.2.2.2.2.2.1 hb, Gen.cell_below h.2.2.2.2.2.2.1 hb, below_next h.2.2.2.2.2.2.2 hb⟩
theorem keep4d {ob : Obj} (h : a.drew.cell? ⟨b, 0, none⟩ = some (.int .i64 p.s.epoch) ∧ a.drew.cell? ⟨b, 1, none⟩ = some (.int .i64 p.s.base) ∧ a.drew.cell? ⟨b, 2, none⟩ = some vb ∧ a.drew.cell? ⟨b, 3, none⟩ = some (.int .i64 p.s.timer) ∧ a.drew.cell? ⟨b, 10, none⟩ = some vs ∧ a.drew.cell? ⟨ka, 1, none⟩ = some (.int .i64 which) ∧ a.drew.cell? ⟨g, o, none⟩ = some (.int .i64 v) ∧ Below W1.heap.size W1 a.drew) : (a.alloc ob).drew.cell? ⟨b, 0, none⟩ = some (.int .i64 p.s.epoch) ∧ (a.alloc ob).drew.cell? ⟨b, 1, none⟩ = some (.int .i64 p.s.base) ∧ (a.alloc ob).drew.cell? ⟨b, 2, none⟩ = some vb ∧ (a.alloc ob).drew.cell? ⟨b, 3, none⟩ = some (.int .i64 p.s.timer) ∧ (a.alloc ob).drew.cell? ⟨b, 10, none⟩ = some vs ∧ (a.alloc ob).drew.cell? ⟨ka, 1, none⟩ = some (.int .i64 which) ∧ (a.alloc ob).drew.cell? ⟨g, o, none⟩ = some (.int .i64 v) ∧ Below W1.heap.size W1 (a.alloc ob).drew := keep4 (c := (a.alloc ob).drew) (a := a.drew) (below_al (b := a.drew) (o := ob) (Below.refl _ _)) h
theorem keep4s {k : Nat} {v0 v1 v2 v3 : Value} (h1 : k ≠ b) (h2 : k ≠ ka) (h4 : k ≠ g) (h3 : W1.heap.size ≤ k) (h : a.cell? ⟨b, 0, none⟩ = some (.int .i64 p.s.epoch) ∧ a.cell? ⟨b, 1, none⟩ = some (.int .i64 p.s.base) ∧ a.cell? ⟨b, 2, none⟩ = some vb ∧ a.cell? ⟨b, 3, none⟩ = some (.int .i64 p.s.timer) ∧ a.cell? ⟨b, 10, none⟩ = some vs ∧ a.cell? ⟨ka, 1, none⟩ = some (.int .i64 which) ∧ a.cell? ⟨g, o, none⟩ = some (.int .i64 v) ∧ Below W1.heap.size W1 a) : ((((a.setCell ⟨k, 0, none⟩ v0).setCell ⟨k, 1, none⟩ v1).setCell ⟨k, 2, none⟩ v2).setCell ⟨k, 3, none⟩ v3).cell? ⟨b, 0, none⟩ = some (.int .i64 p.s.epoch) ∧ ((((a.setCell ⟨k, 0, none⟩ v0).setCell ⟨k, 1, none⟩ v1).setCell ⟨k, 2, none⟩ v2).setCell ⟨k, 3, none⟩ v3).cell? ⟨b, 1, none⟩ = some (.int .i64 p.s.base) ∧ ((((a.setCell ⟨k, 0, none⟩ v0).setCell ⟨k, 1, none⟩ v1).setCell ⟨k, 2, none⟩ v2).setCell ⟨k, 3, none⟩ v3).cell? ⟨b, 2, none⟩ = some vb ∧ ((((a.setCell ⟨k, 0, none⟩ v0).setCell ⟨k, 1, none⟩ v1).setCell ⟨k, 2, none⟩ v2).setCell ⟨k, 3, none⟩ v3).cell? ⟨b, 3, none⟩ = some (.int .i64 p.s.timer) ∧ ((((a.setCell ⟨k, 0, none⟩ v0).setCell ⟨k, 1, none⟩ v1).setCell ⟨k, 2, none⟩ v2).setCell ⟨k, 3, none⟩ v3).cell? ⟨b, 10, none⟩ = some vs ∧ ((((a.setCell ⟨k, 0, none⟩ v0).setCell ⟨k, 1, none⟩ v1).setCell ⟨k, 2, none⟩ v2).setCell ⟨k, 3, none⟩ v3).cell? ⟨ka, 1, none⟩ = some (.int .i64 which) ∧ ((((a.setCell ⟨k, 0, none⟩ v0).setCell ⟨k, 1, none⟩ v1).setCell ⟨k, 2, none⟩ v2).setCell ⟨k, 3, none⟩ v3).cell? ⟨g, o, none⟩ = some (.int .i64 v) ∧ Below W1.heap.size W1 ((((a.setCell ⟨k, 0, none⟩ v0).setCell ⟨k, 1, none⟩ v1).setCell ⟨k, 2, none⟩ v2).setCell ⟨k, 3, none⟩ v3) := by
  refine ⟨?_, ?_, ?_, ?_, ?_, ?_, ?_, Gen.below_set4 h.2.2.2.2.2.2.2 h3 _ _ _ _⟩
  · rw [World.cell?_setCell_far _ _ _ _ h1, World.cell?_setCell_far _ _ _ _ h1, World.cell?_setCell_far _ _ _ _ h1, World.cell?_setCell_far _ _ _ _ h1]; exact h.1
  · rw [World.cell?_setCell_far _ _ _ _ h1, World.cell?_setCell_far _ _ _ _ h1, World.cell?_setCell_far _ _ _ _ h1, World.cell?_setCell_far _ _ _ _ h1]; exact h.2.1
  · rw [World.cell?_setCell_far _ _ _ _ h1, World.cell?_setCell_far _ _ _ _ h1, World.cell?_setCell_far _ _ _ _ h1, World.cell?_setCell_far _ _ _ _ h1]; exact h.2.2.1
  · rw [World.cell?_setCell_far _ _ _ _ h1, World.cell?_setCell_far _ _ _ _ h1, World.cell?_setCell_far _ _ _ _ h1, World.cell?_setCell_far _ _ _ _ h1]; exact h.2.2.2.1
  · rw [World.cell?_setCell_far _ _ _ _ h1, World.cell?_setCell_far _ _ _ _ h1, World.cell?_setCell_far _ _ _ _ h1, World.cell?_setCell_far _ _ _ _ h1]; exact h.2.2.2.2.1
  · rw [World.cell?_setCell_far _ _ _ _ h2, World.cell?_setCell_far _ _ _ _ h2, World.cell?_setCell_far _ _ _ _ h2, World.cell?_setCell_far _ _ _ _ h2]; exact h.2.2.2.2.2.1
  · rw [World.cell?_setCell_far _ _ _ _ h4, World.cell?_setCell_far _ _ _ _ h4, World.cell?_setCell_far _ _ _ _ h4, World.cell?_setCell_far _ _ _ _ h4]; exact h.2.2.2.2.2.2.1
end
theorem keepLS {a c : World} (hb : Below a.heap.size a c) : ∀ k C, Lies k C 24 a → Lies k C 24 c := fun k C h => h.below hb
theorem ckAckO (s : Sn) (n : Nat) (A : Option Addr) (c : Nat) (epoch want : Int) (s' : Sn) (z : Int) (n' : Nat) (ho : (s', z) = ackO s epoch want) (w : World) (hn : n = s.bodies.length) (hn' : n' = s'.bodies.length) (hl : n ≤ 4611686018427387904) (h : Row w A (bcs s.bodies)) :
    Calls Try.prog 15 #[.agg #[.int .i64 s.epoch, .int .i64 s.base, .slice A n c, .int .i64 s.timer], .int .i64 epoch, .int .i64 want] w (fun e w' => ∃ A c, e = .returned (.tuple #[.agg #[.int .i64 s'.epoch, .int .i64 s'.base, .slice A n' c, .int .i64 s'.timer], .int .i64 z]) ∧
      w'.ownsRow w.heap.size 9 1 (.slice A n' c) n' (bcs s'.bodies) ∧ Below w.heap.size w w') := by
  obtain ⟨ep, ba, bs, ti⟩ := s
  subst hn'
  exact ckAck ep ba ti bs n hn hl A c epoch want _ ho w h
theorem ack_zero {ep : Int} {n : Nat} {p : Wy} (h : Inv ep n p) {v : Int} (hv : 0 ≤ v ∧ v ≤ p.r.want) : (ackO p.s p.s.epoch v).2 = 0 := by
  have hr := h.right
  have hs := h.sum; have hg := h.gl; have hw := h.want
  unfold ackO
  rw [if_neg (by rw [hr]; simp), if_neg (by simp), if_neg (by omega)]
  split <;> rfl
set_option maxRecDepth 100000 in
set_option maxHeartbeats 4000000 in
theorem lawDo4N (w0 : World) (b : Nat) (ep : Int) (N : Nat) (p : Wy) (hI : Inv ep N p) (hN : N ≤ 1000) (what which : Int) (body : ByteArray) (hwhat : what = 4) (hnw : p.wants.length = 0) (w : World) (h : Plays w0 b p w) :
    Calls Try.prog 23 #[.pointer (some ⟨b, 0, none⟩), .agg #[.int .i64 what, .int .i64 which, .string body]] w (DidP w0 b p) := by
  have HNW := Lib.hid hnw
  clear hnw
  have e0 : (what == 0) = false := ne_b (by omega)
  have e1 : (what == 1) = false := ne_b (by omega)
  have e2 : (what == 2) = false := ne_b (by omega)
  have e3 : (what == 3) = false := ne_b (by omega)
  have e4 : (what == 4) = true := eq_b (by omega)
  clear hwhat
  obtain ⟨vb, vw, vp, vg, vs, hP⟩ := h
  obtain ⟨n, hn⟩ : ∃ n, n = p.way.length := ⟨_, rfl⟩
  obtain ⟨ii, hii⟩ : ∃ ii : Nat, ii = if 0 < n then idx which n else 0 := ⟨_, rfl⟩
  have hwl : n ≤ 2000 := by rw [hn]; have := hI.wl; omega
  have hway := hP.way
  rw [← hn] at hway
  obtain ⟨WA, wc_, rfl, _⟩ := own_form hway (by omega)
  have HII := Lib.hid hii
  have HNN := Lib.hid hn
  have HI := Lib.hid hI
  have HN := Lib.hid hN
  have HWL := Lib.hid hwl
  have P0 := Lib.hid (hP.next (below_al (o := .cells #[.int .i64 what, .int .i64 which, .string body] 53) (Below.refl _ _)))
  have LA := Lib.hid (Lies.new w #[.int .i64 what, .int .i64 which, .string body] 53)
  have hbk := lies_lt hP.at_
  clear hP hway hn hii hwl hI hN
  go_enter Try.func23, Try.ntmps23
  go_upto_region 1 with fail
  obtain ⟨ka, hka⟩ : ∃ k, k = w.heap.size := ⟨_, rfl⟩
  obtain ⟨W, hW⟩ : ∃ W, W = w.alloc (.cells #[.int .i64 what, .int .i64 which, .string body] 53) := ⟨_, rfl⟩
  rw [← hW] at P0 LA ⊢
  rw [← hka] at LA hbk ⊢
  clear hW hka
  have x6 := P0.out.at_.cell (j := 6) rfl
  have a0 := LA.out.cell (j := 0) rfl
  have a1 := LA.out.cell (j := 1) rfl
  obtain ⟨pz, hpz1⟩ : ∃ z, decide (0 < n) = z := ⟨_, rfl⟩
  have hpz2 : decide ((0 : Int) < (n : Int)) = pz := by rw [← hpz1]; exact decide_eq_decide.2 (by omega)
  go_upto_if 23 with fail
  go_cut [4] from 40 (fun s4 wc => s4 = .int .i64 (ii : Int) ∧ wc = W)
  case first =>
    cases pz
    rotate_left
    · have hn0 : 0 < n := of_decide_eq_true hpz1
      have hn0' : (0 : Int) < (n : Int) := by omega
      have hne : ((n : Int) == 0) = false := ne_b (by omega)
      have hne2 : ¬ (n : Int) = 0 := by omega
      have hne3 : ¬ n = 0 := by omega
      obtain ⟨q, hq⟩ : ∃ q, which.tmod (n : Int) = q := ⟨_, rfl⟩
      have tb := tmod_bounds which hn0'
      have pl := place (a := which) hn0'
      rw [hq] at tb pl
      obtain ⟨y, hy⟩ : ∃ y, y = q + (n : Int) := ⟨_, rfl⟩
      have hw : IntKind.i64.wrap (q + (n : Int)) = y := by rw [hy]; have := HWL.out; exact wrap64L (by omega) (by omega)
      have hr : y.tmod (n : Int) = (ii : Int) := by
        rw [HII.out, if_pos hn0]
        unfold idx
        rw [hq, ← hy]
        rw [← hy] at pl
        exact (Int.toNat_of_nonneg pl.1).symm
      clear tb pl hy
      go_wp2_with fail
      go_meet
      case rel => exact ⟨rfl, rfl⟩
    · have hn0 : ¬ 0 < n := of_decide_eq_false hpz1
      have hn0' : ¬ (0 : Int) < (n : Int) := by omega
      have hii : ii = 0 := by rw [HII.out, if_neg hn0]
      have e5n : what = 4 := by simpa using e4
      have d1 : ¬ what ≤ 3 := by omega
      have d2 : 1 ≤ what := by omega
      clear e5n
      go_wp2_with fail
      go_meet
      case rel => exact ⟨by rw [hii]; rfl, rfl⟩
  case rest =>
    obtain ⟨rfl, rfl⟩ := hcut
    clear x6 a1 hpz1 hpz2
    have x10 : wc.cell? ⟨b, 10, none⟩ = some vs := P0.out.at_.cell (j := 10) rfl
    have hws := P0.out.wants
    rw [HNW.out] at hws
    obtain ⟨SA, sc, rfl, _⟩ := own_form hws (by omega)
    clear hws
    go_wp2_with fail
    go_end0
    exact ⟨rfl, _, _, _, _, _, P0.out⟩
set_option maxRecDepth 100000 in
set_option maxHeartbeats 4000000 in
theorem lawDo4 (w0 : World) (b : Nat) (ep : Int) (N : Nat) (p : Wy) (hI : Inv ep N p) (hN : N ≤ 1000) (what which : Int) (body : ByteArray) (hwhat : what = 4) (v : Int) (hx : p.wants[idx which p.wants.length]? = some v) (w : World) (h : Plays w0 b p w) :
    Calls Try.prog 23 #[.pointer (some ⟨b, 0, none⟩), .agg #[.int .i64 what, .int .i64 which, .string body]] w (DidP w0 b (ackW p v)) := by
  have HX := Lib.hid hx
  clear hx
  have e0 : (what == 0) = false := ne_b (by omega)
  have e1 : (what == 1) = false := ne_b (by omega)
  have e2 : (what == 2) = false := ne_b (by omega)
  have e3 : (what == 3) = false := ne_b (by omega)
  have e4 : (what == 4) = true := eq_b (by omega)
  clear hwhat
  obtain ⟨vb, vw, vp, vg, vs, hP⟩ := h
  obtain ⟨n, hn⟩ : ∃ n, n = p.way.length := ⟨_, rfl⟩
  obtain ⟨ii, hii⟩ : ∃ ii : Nat, ii = if 0 < n then idx which n else 0 := ⟨_, rfl⟩
  have hwl : n ≤ 2000 := by rw [hn]; have := hI.wl; omega
  have hway := hP.way
  rw [← hn] at hway
  obtain ⟨WA, wc_, rfl, _⟩ := own_form hway (by omega)
  have HII := Lib.hid hii
  have HNN := Lib.hid hn
  have HI := Lib.hid hI
  have HN := Lib.hid hN
  have HWL := Lib.hid hwl
  have P0 := Lib.hid (hP.next (below_al (o := .cells #[.int .i64 what, .int .i64 which, .string body] 53) (Below.refl _ _)))
  have LA := Lib.hid (Lies.new w #[.int .i64 what, .int .i64 which, .string body] 53)
  have hbk := lies_lt hP.at_
  clear hP hway hn hii hwl hI hN
  go_enter Try.func23, Try.ntmps23
  go_upto_region 1 with fail
  obtain ⟨ka, hka⟩ : ∃ k, k = w.heap.size := ⟨_, rfl⟩
  obtain ⟨W, hW⟩ : ∃ W, W = w.alloc (.cells #[.int .i64 what, .int .i64 which, .string body] 53) := ⟨_, rfl⟩
  rw [← hW] at P0 LA ⊢
  rw [← hka] at LA hbk ⊢
  clear hW hka
  have x6 := P0.out.at_.cell (j := 6) rfl
  have a0 := LA.out.cell (j := 0) rfl
  have a1 := LA.out.cell (j := 1) rfl
  obtain ⟨pz, hpz1⟩ : ∃ z, decide (0 < n) = z := ⟨_, rfl⟩
  have hpz2 : decide ((0 : Int) < (n : Int)) = pz := by rw [← hpz1]; exact decide_eq_decide.2 (by omega)
  go_upto_if 23 with fail
  go_cut [4] from 40 (fun s4 wc => s4 = .int .i64 (ii : Int) ∧ wc = W)
  case first =>
    cases pz
    rotate_left
    · have hn0 : 0 < n := of_decide_eq_true hpz1
      have hn0' : (0 : Int) < (n : Int) := by omega
      have hne : ((n : Int) == 0) = false := ne_b (by omega)
      have hne2 : ¬ (n : Int) = 0 := by omega
      have hne3 : ¬ n = 0 := by omega
      obtain ⟨q, hq⟩ : ∃ q, which.tmod (n : Int) = q := ⟨_, rfl⟩
      have tb := tmod_bounds which hn0'
      have pl := place (a := which) hn0'
      rw [hq] at tb pl
      obtain ⟨y, hy⟩ : ∃ y, y = q + (n : Int) := ⟨_, rfl⟩
      have hw : IntKind.i64.wrap (q + (n : Int)) = y := by rw [hy]; have := HWL.out; exact wrap64L (by omega) (by omega)
      have hr : y.tmod (n : Int) = (ii : Int) := by
        rw [HII.out, if_pos hn0]
        unfold idx
        rw [hq, ← hy]
        rw [← hy] at pl
        exact (Int.toNat_of_nonneg pl.1).symm
      clear tb pl hy
      go_wp2_with fail
      go_meet
      case rel => exact ⟨rfl, rfl⟩
    · have hn0 : ¬ 0 < n := of_decide_eq_false hpz1
      have hn0' : ¬ (0 : Int) < (n : Int) := by omega
      have hii : ii = 0 := by rw [HII.out, if_neg hn0]
      have e5n : what = 4 := by simpa using e4
      have d1 : ¬ what ≤ 3 := by omega
      have d2 : 1 ≤ what := by omega
      clear e5n
      go_wp2_with fail
      go_meet
      case rel => exact ⟨by rw [hii]; rfl, rfl⟩
  case rest =>
    obtain ⟨rfl, rfl⟩ := hcut
    clear x6 a1 hpz1 hpz2
    obtain ⟨m, hm⟩ : ∃ m, m = p.wants.length := ⟨_, rfl⟩
    obtain ⟨j, hj⟩ : ∃ j, j = idx which p.wants.length := ⟨_, rfl⟩
    have hx := HX.out
    rw [← hj] at hx
    have hjl := (List.getElem?_eq_some_iff.1 hx).1
    rw [← hm] at hjl hj
    have hws := P0.out.wants
    rw [← hm] at hws
    obtain ⟨SA, sc, rfl, _, _, _, hrow, _⟩ := own_form hws (by omega)
    obtain ⟨z, g, off, rfl, hz, dg⟩ := hrow.ints (j := j) (by rw [← hm]; exact hjl)
    rw [hx] at hz
    cases hz
    obtain ⟨bm, hbm⟩ : ∃ m, m = p.s.bodies.length := ⟨_, rfl⟩
    have hbod := P0.out.bod
    rw [← hbm] at hbod
    obtain ⟨BA, bc, rfl, _⟩ := own_form hbod (by omega)
    have HR := Lib.hid (row_of_ownL hbod (by omega))
    have hmm : m ≤ 2000 := by rw [hm]; have := HI.out.wn; have := HN.out; omega
    have hn0' : (0 : Int) < (m : Int) := by omega
    have hne : ((m : Int) == 0) = false := ne_b (by omega)
    have hne2 : ¬ (m : Int) = 0 := by omega
    have hne3 : ¬ m = 0 := by omega
    obtain ⟨q, hq⟩ : ∃ q, which.tmod (m : Int) = q := ⟨_, rfl⟩
    have tb := tmod_bounds which hn0'
    have pl := place (a := which) hn0'
    rw [hq] at tb pl
    obtain ⟨y, hy⟩ : ∃ y, y = q + (m : Int) := ⟨_, rfl⟩
    have hw : IntKind.i64.wrap (q + (m : Int)) = y := by rw [hy]; exact wrap64L (by omega) (by omega)
    have hr : y.tmod (m : Int) = (j : Int) := by
      rw [hj]
      unfold idx
      rw [hq, ← hy]
      rw [← hy] at pl
      exact (Int.toNat_of_nonneg pl.1).symm
    have hji : (j : Int) < (m : Int) := by omega
    have hj0 : (0 : Int) ≤ (j : Int) := by omega
    have hvv := HI.out.wants v (List.mem_of_getElem? hx)
    have hz0 := ack_zero HI.out hvv
    obtain ⟨⟨t, zt⟩, ht⟩ : ∃ o, o = ackO p.s p.s.epoch v := ⟨_, rfl⟩
    have HE : Hid (ackW p v = { p with s := t }) := Lib.hid (by unfold ackW; rw [if_pos hz0, ← ht])
    have hzt : zt = 0 := by rw [← ht] at hz0; exact hz0
    subst hzt
    obtain ⟨tn, htn⟩ : ∃ tn, tn = t.bodies.length := ⟨_, rfl⟩
    have HT := Lib.hid (fun w h => ckAckO p.s bm BA bc p.s.epoch v t 0 tn ht w hbm htn (by rw [hbm]; have := ((right_iff _).1 HI.out.right).2.1; omega) h)
    have HTN := Lib.hid htn
    have hok := HI.out.ok
    obtain ⟨W1, hW1⟩ : ∃ W, W = wc := ⟨_, rfl⟩
    subst hW1
    have x0 := P0.out.at_.cell (j := 0) rfl; have x1 := P0.out.at_.cell (j := 1) rfl; have x2 := P0.out.at_.cell (j := 2) rfl; have x3 := P0.out.at_.cell (j := 3) rfl
    have x10 := P0.out.at_.cell (j := 10) rfl
    have a1 := LA.out.cell (j := 1) rfl
    have S0 : W1.drew.cell? ⟨b, 0, none⟩ = some (.int .i64 p.s.epoch) ∧ W1.drew.cell? ⟨b, 1, none⟩ = some (.int .i64 p.s.base) ∧ W1.drew.cell? ⟨b, 2, none⟩ = some (.slice BA bm bc) ∧ W1.drew.cell? ⟨b, 3, none⟩ = some (.int .i64 p.s.timer) ∧ W1.drew.cell? ⟨b, 10, none⟩ = some (.slice (some ⟨g, off, none⟩) m sc) ∧ W1.drew.cell? ⟨ka, 1, none⟩ = some (.int .i64 which) ∧ W1.drew.cell? ⟨g, off + j, none⟩ = some (.int .i64 v) ∧ Below W1.heap.size W1 W1.drew := ⟨x0, x1, x2, x3, x10, a1, dg, below_drewOf (Below.refl _ _)⟩
    have HKW := Lib.hid (And.intro (lies_lt LA.out) (And.intro (Nat.lt_trans hbk (lies_lt LA.out)) (lt_of_cell dg)))
    have HTS := Lib.hid (fun w' (hS : w'.cell? ⟨b, 0, none⟩ = some (.int .i64 p.s.epoch) ∧ w'.cell? ⟨b, 1, none⟩ = some (.int .i64 p.s.base) ∧ w'.cell? ⟨b, 2, none⟩ = some (.slice BA bm bc) ∧ w'.cell? ⟨b, 3, none⟩ = some (.int .i64 p.s.timer) ∧ w'.cell? ⟨b, 10, none⟩ = some (.slice (some ⟨g, off, none⟩) m sc) ∧ w'.cell? ⟨ka, 1, none⟩ = some (.int .i64 which) ∧ w'.cell? ⟨g, off + j, none⟩ = some (.int .i64 v) ∧ Below W1.heap.size W1 w') => HT.out w' (HR.out.below hS.2.2.2.2.2.2.2))
    simp only at HKW
    clear tb pl hy hvv hz0 ht htn hbm hbod hm hj hx hws hrow dg a1 hmm
    obtain ⟨pm, hpm1⟩ : ∃ z, decide (0 < m) = z := ⟨_, rfl⟩
    have hpm2 : decide ((0 : Int) < (m : Int)) = pm := by rw [← hpm1]; exact decide_eq_decide.2 (by omega)
    have HM0 := Lib.hid (show 0 < m by omega)
    clear hn0'
    go_upto_if 190 with fail
    cases pm
    · exact absurd HM0.out (of_decide_eq_false hpm1)
    clear hpm1 hpm2
    go_upto_region 28 with fail
    clear x0 x1 x2 x3 x10
    go_cut [10, 11] from 218 (fun s10 s11 wd => ∃ b5 A5 c5, s10 = .pointer (some ⟨b5, 0, none⟩) ∧ s11 = .int .i64 0 ∧ Lies b5 #[.int .i64 t.epoch, .int .i64 t.base, .slice A5 tn c5, .int .i64 t.timer] 24 wd ∧ wd.ownsRow W1.heap.size 9 1 (.slice A5 tn c5) tn (bcs t.bodies) ∧ Below W1.heap.size W1 wd)
    case first =>
      go_region_held3 (fun w' => w'.cell? ⟨b, 0, none⟩ = some (.int .i64 p.s.epoch) ∧ w'.cell? ⟨b, 1, none⟩ = some (.int .i64 p.s.base) ∧ w'.cell? ⟨b, 2, none⟩ = some (.slice BA bm bc) ∧ w'.cell? ⟨b, 3, none⟩ = some (.int .i64 p.s.timer) ∧ w'.cell? ⟨b, 10, none⟩ = some (.slice (some ⟨g, off, none⟩) m sc) ∧ w'.cell? ⟨ka, 1, none⟩ = some (.int .i64 which) ∧ w'.cell? ⟨g, off + j, none⟩ = some (.int .i64 v) ∧ Below W1.heap.size W1 w')
        (first | with_reducible assumption | ((with_reducible refine keep4s ?_ ?_ ?_ ?_ ?_) <;> first | with_reducible assumption | (have := HKW.out; omega)) | ((with_reducible refine keep4 hb5 ?_); with_reducible assumption) | ((with_reducible refine keep4d ?_); with_reducible assumption) | ((with_reducible refine keep4 (below_al (Below.refl _ _)) ?_); with_reducible assumption) | ((with_reducible refine keep4 (below_al (Below.refl _ _)) ?_); with_reducible exact HS5.out))
        ((go_at_call 15
          refine (HTS.out _ (by with_reducible assumption)).mono ?_
          rintro e w5 ⟨A5, c5, rfl, ho5, hb5⟩
          have HS5 := Lib.hid (keep4 hb5 (by with_reducible assumption))
          have HO5 := Lib.hid ho5
          have HK5 := Lib.hid (keepLS hb5)
          (try have hlz := HK5.out _ _ (by first | with_reducible exact Lies.new _ _ _ | with_reducible exact (Lies.new _ _ _).al | with_reducible exact (Lies.new _ _ _).drew | with_reducible exact (Lies.new _ _ _).al.drew))
          (try simp only [World.size_alloc] at hlz)
          (try have HLZ := Lib.hid hlz)
          (try clear hlz)
          (try have z0 := HLZ.out.cell (j := 0) rfl)
          (try have z1 := HLZ.out.cell (j := 1) rfl)
          (try have z2 := HLZ.out.cell (j := 2) rfl)
          (try have z3 := HLZ.out.cell (j := 3) rfl)
          (try have f0 := HLZ.out.free 0)
          (try have f1 := HLZ.out.free 1)
          (try have f2 := HLZ.out.free 2)
          (try have f3 := HLZ.out.free 3)
          clear ho5
          dsimp only))
      all_goals (
        go_wp2_with fail
        go_meet
        case rel => first
          | exact ⟨_, _, _, rfl, rfl, Lies.new _ _ _, own_upL HO5.out (below_al (Below.refl _ _)), below_al HS5.out.2.2.2.2.2.2.2⟩
          | exact ⟨_, _, _, rfl, rfl, Gen.Lies.set4 HLZ.out _ _ _ _, own_baseL (own_set4C HO5.out (own_far HO5.out (b := W1.heap.size) (by show W1.heap.size < (W1.alloc _).heap.size; simp)) _ _ _ _) (Nat.le_of_lt (by show W1.heap.size < (W1.alloc _).heap.size; simp)), Gen.below_set4 HS5.out.2.2.2.2.2.2.2 (Nat.le_refl _) _ _ _ _⟩)
    case rest =>
      obtain ⟨b5, A5, c5, rfl, rfl, hl5, ho5, hb5⟩ := hcut
      have P2 := Lib.hid (P0.out.next hb5)
      have L5 := Lib.hid hl5
      have AP := Lib.hid (And.intro (apart_fresh ho5 P0.out.put (Nat.le_refl _)) (apart_fresh ho5 P0.out.got (Nat.le_refl _)))
      have O5 := Lib.hid (own_baseL ho5 P0.out.below.size)
      have HNE := Lib.hid (fun e : b5 = b => by
        have h1 := P2.out.at_
        rw [← e] at h1
        have h2 := hl5
        unfold Lies at h1 h2
        rw [h1] at h2
        simp at h2 : b5 ≠ b)
      clear hl5 hb5 ho5 S0 P0
      have x9 : wc.cell? ⟨b, 9, none⟩ = some (.bool true) := by
        have h9 := P2.out.at_.cell (j := 9) rfl
        rw [← hok]; exact h9
      have f9 := P2.out.at_.free 9
      have hlt5 := lies_lt L5.out
      go_upto_region 30 with fail
      have P3 := Lib.hid (P2.out.ok_ true)
      have L6 := Lib.hid (L5.out.other (c := b) HNE.out 9 (.bool true))
      have O6 := Lib.hid (own_cell O5.out (own_blk O5.out P2.out.at_ str_pl) 9 (.bool true))
      obtain ⟨W3, hW3⟩ : ∃ W, W = wc.setCell ⟨b, 9, none⟩ (.bool true) := ⟨_, rfl⟩
      rw [← hW3] at P3 L6 O6 ⊢
      clear hW3 x9 f9 P2 L5 O5
      have x0 := P3.out.at_.cell (j := 0) rfl; have x1 := P3.out.at_.cell (j := 1) rfl; have x2 := P3.out.at_.cell (j := 2) rfl; have x3 := P3.out.at_.cell (j := 3) rfl
      have f0 := P3.out.at_.free 0; have f1 := P3.out.at_.free 1; have f2 := P3.out.at_.free 2; have f3 := P3.out.at_.free 3
      have y0 := L6.out.cell (j := 0) rfl; have y1 := L6.out.cell (j := 1) rfl; have y2 := L6.out.cell (j := 2) rfl; have y3 := L6.out.cell (j := 3) rfl
      go_wp2_with fail
      go_end0
      refine ⟨rfl, ?_⟩
      rw [HE.out]
      have P4 := P3.out.sn t (.slice A5 tn c5) tn HTN.out O6.out AP.out.1 AP.out.2
      rw [show ({ p with ok := true } : Wy) = p by rw [← hok]] at P4
      exact ⟨_, _, _, _, _, P4⟩
end Lk
end Go.Proofs.Ytbdlmokgmgpbfaa
