/- The law's do: a packet of another epoch. -/
import Derived.Test.YtbdlmokgmgpbfaaLinkDo5
import Derived.Test.YtbdlmokgmgpbfaaLinkOpen
namespace Go.Proofs.Ytbdlmokgmgpbfaa
open Go.ChangeShapes Go.WideShapes Go.ChangeAt Go.RowKit
set_option linter.unusedVariables false
set_option maxRecDepth 8000
namespace Lk
open Gen (TellsB TellsI Mine)

section
variable {W1 a c : World} {b ka : Nat} {p : Wy} {which : Int}
theorem keepF (hb : Below a.heap.size a c) (h : a.cell? ⟨b, 4, none⟩ = some (.int .i64 p.r.epoch) ∧ a.cell? ⟨b, 5, none⟩ = some (.int .i64 p.r.want) ∧ a.cell? ⟨ka, 1, none⟩ = some (.int .i64 which) ∧ Below W1.heap.size W1 a) : c.cell? ⟨b, 4, none⟩ = some (.int .i64 p.r.epoch) ∧ c.cell? ⟨b, 5, none⟩ = some (.int .i64 p.r.want) ∧ c.cell? ⟨ka, 1, none⟩ = some (.int .i64 which) ∧ Below W1.heap.size W1 c :=
  ⟨Gen.cell_below h.1 hb, Gen.cell_below h.2.1 hb, Gen.cell_below h.2.2.1 hb, below_next h.2.2.2 hb⟩
theorem keepFd {o : Obj} (h : a.drew.cell? ⟨b, 4, none⟩ = some (.int .i64 p.r.epoch) ∧ a.drew.cell? ⟨b, 5, none⟩ = some (.int .i64 p.r.want) ∧ a.drew.cell? ⟨ka, 1, none⟩ = some (.int .i64 which) ∧ Below W1.heap.size W1 a.drew) : (a.alloc o).drew.cell? ⟨b, 4, none⟩ = some (.int .i64 p.r.epoch) ∧ (a.alloc o).drew.cell? ⟨b, 5, none⟩ = some (.int .i64 p.r.want) ∧ (a.alloc o).drew.cell? ⟨ka, 1, none⟩ = some (.int .i64 which) ∧ Below W1.heap.size W1 (a.alloc o).drew := keepF (c := (a.alloc o).drew) (a := a.drew) (below_al (b := a.drew) (o := o) (Below.refl _ _)) h
theorem keepFs {g : Nat} {v0 v1 : Value} (h1 : g ≠ b) (h2 : g ≠ ka) (h3 : W1.heap.size ≤ g) (h : a.cell? ⟨b, 4, none⟩ = some (.int .i64 p.r.epoch) ∧ a.cell? ⟨b, 5, none⟩ = some (.int .i64 p.r.want) ∧ a.cell? ⟨ka, 1, none⟩ = some (.int .i64 which) ∧ Below W1.heap.size W1 a) : ((a.setCell ⟨g, 0, none⟩ v0).setCell ⟨g, 1, none⟩ v1).cell? ⟨b, 4, none⟩ = some (.int .i64 p.r.epoch) ∧ ((a.setCell ⟨g, 0, none⟩ v0).setCell ⟨g, 1, none⟩ v1).cell? ⟨b, 5, none⟩ = some (.int .i64 p.r.want) ∧ ((a.setCell ⟨g, 0, none⟩ v0).setCell ⟨g, 1, none⟩ v1).cell? ⟨ka, 1, none⟩ = some (.int .i64 which) ∧ Below W1.heap.size W1 ((a.setCell ⟨g, 0, none⟩ v0).setCell ⟨g, 1, none⟩ v1) := by
  refine ⟨?_, ?_, ?_, (h.2.2.2.setCell (p := ⟨g, 0, none⟩) h3 _).setCell (p := ⟨g, 1, none⟩) h3 _⟩
  · rw [World.cell?_setCell_far _ _ _ _ h1, World.cell?_setCell_far _ _ _ _ h1]; exact h.1
  · rw [World.cell?_setCell_far _ _ _ _ h1, World.cell?_setCell_far _ _ _ _ h1]; exact h.2.1
  · rw [World.cell?_setCell_far _ _ _ _ h2, World.cell?_setCell_far _ _ _ _ h2]; exact h.2.2.1
end
theorem far_take {ep : Int} {N : Nat} {p : Wy} (h : Inv ep N p) (hn : N ≤ 1000) {k : Int} (hk : 0 ≤ k ∧ k ≤ 2) : takeO p.r ⟨p.r.epoch + 1 + k, p.r.want, xB⟩ = (zR, false, 150) := by
  have hw := h.want; have hg := h.gl; have hf := h.few; have e0 := h.e0; have hre := h.re
  unfold takeO
  have hx : xB.size = 1 := rfl
  rw [if_neg (by simp only [Classical.not_not]; rw [hx, hre]; omega), if_pos (by simp only [ne_eq]; omega)]
theorem far_is {ep : Int} {N : Nat} {p : Wy} (h : Inv ep N p) (hn : N ≤ 1000) {k : Int} (hk : 0 ≤ k ∧ k ≤ 2) : farW p k = { p with ok := true } := by
  unfold farW
  simp only [far_take h hn hk, h.ok]
  rfl
set_option maxRecDepth 100000 in
set_option maxHeartbeats 4000000 in
theorem lawDoF (w0 : World) (b : Nat) (ep : Int) (N : Nat) (p : Wy) (hI : Inv ep N p) (hN : N ≤ 1000) (what which : Int) (body : ByteArray) (hwhat : what ≠ 0 ∧ what ≠ 1 ∧ what ≠ 2 ∧ what ≠ 3 ∧ what ≠ 4 ∧ what ≠ 5) (w : World) (h : Plays w0 b p w) :
    Calls Try.prog 23 #[.pointer (some ⟨b, 0, none⟩), .agg #[.int .i64 what, .int .i64 which, .string body]] w (DidP w0 b (farW p (idx which 3 : Nat))) := by
  have e0 : (what == 0) = false := ne_b (by omega)
  have e1 : (what == 1) = false := ne_b (by omega)
  have e2 : (what == 2) = false := ne_b (by omega)
  have e3 : (what == 3) = false := ne_b (by omega)
  have e4 : (what == 4) = false := ne_b (by omega)
  have e5 : (what == 5) = false := ne_b (by omega)
  have hw13 : what < 1 ∨ 3 < what := by omega
  have HW13 := Lib.hid hw13
  clear hwhat hw13
  obtain ⟨vb, vw, vp, vg, vs, hP⟩ := h
  obtain ⟨n, hn⟩ : ∃ n, n = p.way.length := ⟨_, rfl⟩
  obtain ⟨ii, hii⟩ : ∃ ii : Nat, ii = if 0 < n then idx which n else 0 := ⟨_, rfl⟩
  have hwl : n ≤ 2000 := by rw [hn]; have := hI.wl; omega
  have hway := hP.way
  rw [← hn] at hway
  obtain ⟨WA, wc_, rfl, _⟩ := own_form hway (by omega)
  have HII := Lib.hid hii
  have HNN := Lib.hid hn
  have HI := Lib.hid hI
  have HN := Lib.hid hN
  have HWL := Lib.hid hwl
  have P0 := Lib.hid (hP.next (below_al (o := .cells #[.int .i64 what, .int .i64 which, .string body] 53) (Below.refl _ _)))
  have LA := Lib.hid (Lies.new w #[.int .i64 what, .int .i64 which, .string body] 53)
  have hbk := lies_lt hP.at_
  clear hP hway hn hii hwl hI hN
  go_enter Try.func23, Try.ntmps23
  go_upto_region 1 with fail
  obtain ⟨ka, hka⟩ : ∃ k, k = w.heap.size := ⟨_, rfl⟩
  obtain ⟨W, hW⟩ : ∃ W, W = w.alloc (.cells #[.int .i64 what, .int .i64 which, .string body] 53) := ⟨_, rfl⟩
  rw [← hW] at P0 LA ⊢
  rw [← hka] at LA hbk ⊢
  clear hW hka
  have x6 := P0.out.at_.cell (j := 6) rfl
  have a0 := LA.out.cell (j := 0) rfl
  have a1 := LA.out.cell (j := 1) rfl
  obtain ⟨pz, hpz1⟩ : ∃ z, decide (0 < n) = z := ⟨_, rfl⟩
  have hpz2 : decide ((0 : Int) < (n : Int)) = pz := by rw [← hpz1]; exact decide_eq_decide.2 (by omega)
  go_upto_if 23 with fail
  go_cut [4] from 40 (fun s4 wc => s4 = .int .i64 (ii : Int) ∧ wc = W)
  case first =>
    cases pz
    rotate_left
    · have hn0 : 0 < n := of_decide_eq_true hpz1
      have hn0' : (0 : Int) < (n : Int) := by omega
      have hne : ((n : Int) == 0) = false := ne_b (by omega)
      have hne2 : ¬ (n : Int) = 0 := by omega
      have hne3 : ¬ n = 0 := by omega
      obtain ⟨q, hq⟩ : ∃ q, which.tmod (n : Int) = q := ⟨_, rfl⟩
      have tb := tmod_bounds which hn0'
      have pl := place (a := which) hn0'
      rw [hq] at tb pl
      obtain ⟨y, hy⟩ : ∃ y, y = q + (n : Int) := ⟨_, rfl⟩
      have hw : IntKind.i64.wrap (q + (n : Int)) = y := by rw [hy]; have := HWL.out; exact wrap64L (by omega) (by omega)
      have hr : y.tmod (n : Int) = (ii : Int) := by
        rw [HII.out, if_pos hn0]
        unfold idx
        rw [hq, ← hy]
        rw [← hy] at pl
        exact (Int.toNat_of_nonneg pl.1).symm
      clear tb pl hy
      go_wp2_with fail
      go_meet
      case rel => exact ⟨rfl, rfl⟩
    · have hn0 : ¬ 0 < n := of_decide_eq_false hpz1
      have hn0' : ¬ (0 : Int) < (n : Int) := by omega
      have hii : ii = 0 := by rw [HII.out, if_neg hn0]
      rcases HW13.out with d1 | d1
      · have d2 : ¬ 1 ≤ what := by omega
        go_wp2_with fail
        go_meet
        case rel => exact ⟨by rw [hii]; rfl, rfl⟩
      · have d2 : 1 ≤ what := by omega
        have d3 : ¬ what ≤ 3 := by omega
        go_wp2_with fail
        go_meet
        case rel => exact ⟨by rw [hii]; rfl, rfl⟩
  case rest =>
    obtain ⟨rfl, rfl⟩ := hcut
    clear x6 a1 hpz1 hpz2
    obtain ⟨q, hq⟩ : ∃ q, which.tmod 3 = q := ⟨_, rfl⟩
    have tb := tmod_bounds which (n := 3) (by omega)
    have pl := place (a := which) (n := 3) (by omega)
    rw [hq] at tb pl
    obtain ⟨y, hy⟩ : ∃ y, y = q + 3 := ⟨_, rfl⟩
    have hw1 : IntKind.i64.wrap (q + 3) = y := by rw [hy]; exact wrap64L (by omega) (by omega)
    obtain ⟨j, hj⟩ : ∃ j, y.tmod 3 = j := ⟨_, rfl⟩
    have hji : j = (idx which 3 : Nat) := by
      rw [← hj, hy]
      unfold idx
      show _ = ((((which.tmod 3 + 3).tmod 3)).toNat : Int)
      rw [hq]
      exact (Int.toNat_of_nonneg pl.1).symm
    have hj2 : 0 ≤ j ∧ j ≤ 2 := by rw [← hj, hy]; omega
    have hre : p.r.epoch = ep := HI.out.re
    have he0 := HI.out.e0
    obtain ⟨e1, he1⟩ : ∃ e, e = p.r.epoch + 1 := ⟨_, rfl⟩
    have hw2 : IntKind.i64.wrap (p.r.epoch + 1) = e1 := by rw [he1]; exact wrap64L (by omega) (by omega)
    obtain ⟨e2, he2⟩ : ∃ e, e = e1 + j := ⟨_, rfl⟩
    have hw3 : IntKind.i64.wrap (e1 + j) = e2 := by rw [he2]; exact wrap64L (by omega) (by omega)
    have HT := Lib.hid (fun w => ckTake p.r.epoch p.r.want e2 p.r.want xB (zR, false, 150) (by rw [he2, he1]; exact (far_take HI.out HN.out hj2).symm) w)
    have HF : Hid (farW p (idx which 3 : Nat) = { p with ok := true }) := Lib.hid (by rw [← hji]; exact far_is HI.out HN.out hj2)
    have hok := HI.out.ok
    have hz : ∀ w, (binOp .eql 41 (.agg #[.int .i64 0, .int .i64 0]) (.agg #[.int .i64 0, .int .i64 0])).run Try.prog w = .ok (.bool true) w := fun w => run_eqlRc ⟨0, 0⟩ w
    have x4 := P0.out.at_.cell (j := 4) rfl; have x5 := P0.out.at_.cell (j := 5) rfl; have a1 := LA.out.cell (j := 1) rfl
    obtain ⟨W1, hW1⟩ : ∃ W, W = wc := ⟨_, rfl⟩
    subst hW1
    have S0 : W1.drew.cell? ⟨b, 4, none⟩ = some (.int .i64 p.r.epoch) ∧ W1.drew.cell? ⟨b, 5, none⟩ = some (.int .i64 p.r.want) ∧ W1.drew.cell? ⟨ka, 1, none⟩ = some (.int .i64 which) ∧ Below W1.heap.size W1 W1.drew := ⟨x4, x5, a1, below_drewOf (Below.refl _ _)⟩
    have HKW := Lib.hid (And.intro (lies_lt LA.out) (Nat.lt_trans hbk (lies_lt LA.out)))
    clear tb pl hy hji hj2 hre he0 he1 he2 a1
    go_upto_region 7 with fail
    clear x4 x5
    go_cut [14, 15, 16] from 69 to 88 (fun s14 s15 s16 wd => ∃ b5, s14 = .pointer (some ⟨b5, 0, none⟩) ∧ s15 = .bool false ∧ s16 = .int .i64 150 ∧ Lies b5 #[.int .i64 0, .int .i64 0] 41 wd ∧ Below W1.heap.size W1 wd)
    case first =>
      go_region_held3 (fun w' => w'.cell? ⟨b, 4, none⟩ = some (.int .i64 p.r.epoch) ∧ w'.cell? ⟨b, 5, none⟩ = some (.int .i64 p.r.want) ∧ w'.cell? ⟨ka, 1, none⟩ = some (.int .i64 which) ∧ Below W1.heap.size W1 w')
        (first | with_reducible assumption | ((with_reducible refine keepFs ?_ ?_ ?_ ?_) <;> first | with_reducible assumption | (have := HKW.out; omega)) | ((with_reducible refine keepF hb5 ?_); with_reducible assumption) | ((with_reducible refine keepFd ?_); with_reducible assumption) | ((with_reducible refine keepF (below_al (Below.refl _ _)) ?_); with_reducible assumption) | ((with_reducible refine keepF (below_al (Below.refl _ _)) ?_); with_reducible exact HS5.out))
        ((go_at_call 20
          refine (HT.out _).mono ?_
          rintro e w5 ⟨rfl, hb5⟩
          have HS5 := Lib.hid (keepF hb5 (by with_reducible assumption))
          have HK5 := Lib.hid (keepLR hb5)
          (try have hlz := HK5.out _ _ (by first | with_reducible exact Lies.new _ _ _ | with_reducible exact (Lies.new _ _ _).al | with_reducible exact (Lies.new _ _ _).drew | with_reducible exact (Lies.new _ _ _).al.drew))
          (try simp only [World.size_alloc] at hlz)
          (try have HLZ := Lib.hid hlz)
          (try clear hlz)
          (try have z0 := HLZ.out.cell (j := 0) rfl)
          (try have z1 := HLZ.out.cell (j := 1) rfl)
          (try have f0 := HLZ.out.free 0)
          (try have f1 := HLZ.out.free 1)
          dsimp only))
      all_goals (
        go_wp2_with fail
        go_meet
        case rel => first | exact ⟨_, rfl, rfl, rfl, Lies.new _ _ _, below_al HS5.out.2.2.2⟩ | exact ⟨_, rfl, rfl, rfl, lies_put2 HLZ.out _ _, (HS5.out.2.2.2.setCell (p := ⟨W1.heap.size, 0, none⟩) (Nat.le_refl _) _).setCell (p := ⟨W1.heap.size, 1, none⟩) (Nat.le_refl _) _⟩)
    case rest =>
      obtain ⟨b5, rfl, rfl, rfl, hl5, hb5⟩ := hcut
      have P2 := Lib.hid (P0.out.next hb5)
      have L5 := Lib.hid hl5
      clear hl5 hb5 S0 P0
      have x9 : wc.cell? ⟨b, 9, none⟩ = some (.bool true) := by have := P2.out.at_.cell (j := 9) rfl; rwa [show (#[Value.int IntKind.i64 p.s.epoch, Value.int IntKind.i64 p.s.base, vb, Value.int IntKind.i64 p.s.timer, Value.int IntKind.i64 p.r.epoch, Value.int IntKind.i64 p.r.want, Value.slice WA n wc_, vp, vg, Value.bool p.ok, vs] : Array Value)[9] = .bool true by simp [hok]] at this
      have f9 := P2.out.at_.free 9
      have r0 := L5.out.cell (j := 0) rfl; have r1 := L5.out.cell (j := 1) rfl
      clear hok
      go_wp2_with fail
      go_end0
      refine ⟨rfl, ?_⟩
      rw [HF.out]
      exact ⟨_, _, _, _, _, P2.out.ok_ true⟩
end Lk
end Go.Proofs.Ytbdlmokgmgpbfaa
