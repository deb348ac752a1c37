/- Equal aligners: the reference's Like. -/
import Derived.Test.YtgbklmncfajcgaaAlignN
namespace Go.Proofs.Ytgbklmncfajcgaa
open Go.ChangeShapes Go.WideShapes Go.ChangeAt Go.RowKit
set_option linter.unusedVariables false
set_option maxRecDepth 8000
namespace Aln
open Gen (TellsB row_one flat_len flat_get)
open Itm
/-- The blocks of Like. -/
structure LkAt (w0 : World) (b0 b1 : Nat) (C C' : Array Value) (w : World) : Prop where
  l0 : Lies b0 C 25 w
  l1 : Lies b1 C' 25 w
  below : Below w0.heap.size w0 w
theorem LkAt.next {w0 : World} {b0 b1 : Nat} {C C' : Array Value} {w w' : World} (h : LkAt w0 b0 b1 C C' w) (hb : Below w.heap.size w w') : LkAt w0 b0 b1 C C' w' := ⟨h.l0.below hb, h.l1.below hb, below_next h.below hb⟩
theorem keepLk {w0 : World} {b0 b1 : Nat} {C C' : Array Value} {p1 p2 p3 p4 : Addr} {v1 v2 v3 v4 : Value} {w w' : World} (hb : Below w.heap.size w w') (h : w.cell? p1 = some v1 ∧ w.cell? p2 = some v2 ∧ w.cell? p3 = some v3 ∧ w.cell? p4 = some v4 ∧ LkAt w0 b0 b1 C C' w) :
    w'.cell? p1 = some v1 ∧ w'.cell? p2 = some v2 ∧ w'.cell? p3 = some v3 ∧ w'.cell? p4 = some v4 ∧ LkAt w0 b0 b1 C C' w' :=
  ⟨Gen.cell_below h.1 hb, Gen.cell_below h.2.1 hb, Gen.cell_below h.2.2.1 hb, Gen.cell_below h.2.2.2.1 hb, h.2.2.2.2.next hb⟩
theorem lkOf {w0 : World} {b0 b1 : Nat} {C C' : Array Value} {p1 p2 p3 p4 : Addr} {v1 v2 v3 v4 : Value} {w : World} (h : w.cell? p1 = some v1 ∧ w.cell? p2 = some v2 ∧ w.cell? p3 = some v3 ∧ w.cell? p4 = some v4 ∧ LkAt w0 b0 b1 C C' w) : LkAt w0 b0 b1 C C' w := h.2.2.2.2
set_option maxRecDepth 100000 in
set_option maxHeartbeats 2000000 in
theorem rfLikeA (n : Int) (gs : List Bool) (hs hs' : List Hd) (hh : hs.map (fun x => x.2.2) = hs'.map (fun x => x.2.2)) (ng nh : Nat) (hng : ng = gs.length) (hnh : nh = hs.length) (hl : ng ≤ 100000) (hl2 : nh ≤ 100000) (hl3 : ∀ x ∈ hs, x.2.2.length ≤ 100000)
    (G G' H H' : Option Addr) (cG cG' cH cH' : Nat) (w : World) (hG : Row w G (gcs gs)) (hG' : Row w G' (gcs gs)) (hH : HAt w H hs) (hH' : HAt w H' hs') :
    Calls Try.prog 14 #[alV n G ng cG H nh cH, alV n G' ng cG' H' nh cH'] w (TellsB true w) := by
  have HHS := Lib.hid hh
  have HNG := Lib.hid hng
  have HNH := Lib.hid hnh
  have HL3 := Lib.hid hl3
  have HG0 := Lib.hid hG
  have HG1 := Lib.hid hG'
  have HH0 := Lib.hid hH
  have HH1 := Lib.hid hH'
  have HL := Lib.hid hl
  have HL2 := Lib.hid hl2
  have HLE : Hid (hs'.length = nh) := Lib.hid (by have := congrArg List.length hh; simpa [hnh] using this.symm)
  have AT : Hid (LkAt w w.heap.size (w.heap.size + 1) (alC n G ng cG H nh cH) (alC n G' ng cG' H' nh cH') ((w.alloc (.cells (alC n G ng cG H nh cH) 25)).alloc (.cells (alC n G' ng cG' H' nh cH') 25))) := Lib.hid
    ⟨(Lies.new w _ _).al, Gen.lies_new1 w _ _ _, below_al (below_al (Below.refl _ _))⟩
  clear hh hng hnh hl3 hG hG' hH hH' hl hl2
  go_enter Try.func14, Try.ntmps14
  go_upto_region 1 with fail
  obtain ⟨W, hW⟩ : ∃ W, W = (w.alloc (.cells (alC n G ng cG H nh cH) 25)).alloc (.cells (alC n G' ng cG' H' nh cH') 25) := ⟨_, rfl⟩
  obtain ⟨b0, hb0⟩ : ∃ b, b = w.heap.size := ⟨_, rfl⟩
  obtain ⟨b1, hb1⟩ : ∃ b, b = w.heap.size + 1 := ⟨_, rfl⟩
  rw [← hW] at AT ⊢
  rw [← hb1, ← hb0] at AT ⊢
  clear hW hb0 hb1
  have x0 := AT.out.l0.cell (j := 0) rfl; have x1 := AT.out.l0.cell (j := 1) rfl; have x2 := AT.out.l0.cell (j := 2) rfl
  have y0 := AT.out.l1.cell (j := 0) rfl; have y1 := AT.out.l1.cell (j := 1) rfl; have y2 := AT.out.l1.cell (j := 2) rfl
  go_wp2_with fail
  clear x0 x1 x2 y0 y1 y2
  go_loopw [33] (fun i wr => ∃ k : Nat, i = .int .i64 k ∧ k ≤ ng ∧ LkAt w b0 b1 (alC n G ng cG H nh cH) (alC n G' ng cG' H' nh cH') wr) (fun i _ => ng - (intOf i).toNat)
  case atStart => exact ⟨0, rfl, Nat.zero_le _, AT.out⟩
  case round =>
    clear AT
    obtain ⟨k, rfl, hk, hAT⟩ := hrel
    have AT := Lib.hid hAT
    clear hAT
    by_cases hlt : k < ng
    · obtain ⟨g, hg⟩ : ∃ g, gs[k]? = some g := ⟨_, List.getElem?_eq_getElem (by rw [← HNG.out]; exact hlt)⟩
      obtain ⟨q, off, hG1, c0⟩ := got_row (HG0.out.below AT.out.below) hg
      obtain ⟨q', off', hG2, d0⟩ := got_row (HG1.out.below AT.out.below) hg
      subst hG1 hG2
      have hki : (k : Int) < (ng : Int) := by omega
      have hw := wrapKA (k := k) (by have := HL.out; omega)
      have HKM := Lib.hid hlt
      have x1 := AT.out.l0.cell (j := 1) rfl
      have y1 := AT.out.l1.cell (j := 1) rfl
      clear hg hlt hk
      go_wp2_with fail
      go_quiet (fail)
      go_wp2_with fail
      go_roundw
      case rel => exact ⟨k + 1, rfl, HKM.out, AT.out.next (below_drewN (Below.refl _ _))⟩
      case measure => simp [intOf]; have := HKM.out; omega
    · have hki : ¬ (k : Int) < (ng : Int) := by omega
      clear hlt hk
      have x2 := AT.out.l0.cell (j := 2) rfl
      go_wp2_with fail
      clear x2 hki
      go_loopw [51] (fun i wr => ∃ k : Nat, i = .int .i64 k ∧ k ≤ nh ∧ LkAt w b0 b1 (alC n G ng cG H nh cH) (alC n G' ng cG' H' nh cH') wr) (fun i _ => nh - (intOf i).toNat)
      case atStart => exact ⟨0, rfl, Nat.zero_le _, AT.out⟩
      case round =>
        clear AT
        obtain ⟨k, rfl, hk, hAT⟩ := hrel
        have AT := Lib.hid hAT
        clear hAT
        by_cases hlt : k < nh
        · obtain ⟨x, hx⟩ : ∃ x, hs[k]? = some x := ⟨_, List.getElem?_eq_getElem (by rw [← HNH.out]; exact hlt)⟩
          obtain ⟨y, hy⟩ : ∃ y, hs'[k]? = some y := ⟨_, List.getElem?_eq_getElem (by rw [HLE.out]; exact hlt)⟩
          have hxy : x.2.2 = y.2.2 := by
            have h1 : (hs.map (fun x => x.2.2))[k]? = some x.2.2 := by rw [List.getElem?_map, hx]; rfl
            rw [HHS.out, List.getElem?_map, hy] at h1
            simpa using h1.symm
          obtain ⟨q, off, hH1, c0⟩ := head_row (HH0.out.row.below AT.out.below) hx
          obtain ⟨q', off', hH2, d0⟩ := head_row (HH1.out.row.below AT.out.below) hy
          subst hH1 hH2
          have hki : (k : Int) < (nh : Int) := by omega
          have hw := wrapKA (k := k) (by have := HL2.out; omega)
          have HKM := Lib.hid hlt
          have R1 := HH0.out.each x (List.mem_of_getElem? hx)
          have R2 := HH1.out.each y (List.mem_of_getElem? hy)
          have h3 := HL3.out x (List.mem_of_getElem? hx)
          clear hx hy hlt hk
          obtain ⟨xA, xc, xl⟩ := x
          obtain ⟨yA, yc, yl⟩ := y
          simp only at hxy c0 d0 R1 R2 h3
          subst hxy
          obtain ⟨p, hp⟩ : ∃ p, p = xl.length := ⟨_, rfl⟩
          rw [← hp] at c0 d0 h3
          have HLI := Lib.hid (fun w' (hb : Below w.heap.size w w') => rfLikeItems xl p hp h3 xA yA xc yc w' (R1.below hb) (R2.below hb))
          clear hp R1 R2 h3
          have x2 := AT.out.l0.cell (j := 2) rfl
          have y2 := AT.out.l1.cell (j := 2) rfl
          have KX : Hid (wr.cell? ⟨b0, 2, none⟩ = some (.slice (some ⟨q, off, none⟩) nh cH) ∧ wr.cell? ⟨b1, 2, none⟩ = some (.slice (some ⟨q', off', none⟩) nh cH') ∧ wr.cell? ⟨q, off + k, none⟩ = some (.slice xA p xc) ∧ wr.cell? ⟨q', off' + k, none⟩ = some (.slice yA p yc) ∧ LkAt w b0 b1 (alC n G ng cG (some ⟨q, off, none⟩) nh cH) (alC n G' ng cG' (some ⟨q', off', none⟩) nh cH') wr) := Lib.hid ⟨x2, y2, c0, d0, AT.out⟩
          clear x2 y2 c0 d0 AT
          go_upto_region 12 with fail
          have S0 := keepLk (below_drewOf (Below.refl wr.heap.size wr)) KX.out
          clear KX
          go_wp2_with fail
          go_region_held3 (fun w' => w'.cell? ⟨b0, 2, none⟩ = some (.slice (some ⟨q, off, none⟩) nh cH) ∧ w'.cell? ⟨b1, 2, none⟩ = some (.slice (some ⟨q', off', none⟩) nh cH') ∧ w'.cell? ⟨q, off + k, none⟩ = some (.slice xA p xc) ∧ w'.cell? ⟨q', off' + k, none⟩ = some (.slice yA p yc) ∧ LkAt w b0 b1 (alC n G ng cG (some ⟨q, off, none⟩) nh cH) (alC n G' ng cG' (some ⟨q', off', none⟩) nh cH') w')
            (first | with_reducible assumption | ((with_reducible refine keepLk hb5 ?_); with_reducible assumption))
            (first
            | (go_at_call 23
               have HW9 := Lib.hid (lkOf (by with_reducible assumption))
               refine (HLI.out _ HW9.out.below).mono ?_
               rintro e5 w5 ⟨rfl, hb5⟩
               (try clear K5)
               have K5 := Lib.hid (HW9.out.next hb5)
               clear HW9
               dsimp only))
          all_goals (
            go_wp2_with fail
            go_roundw
            case rel => exact ⟨k + 1, rfl, HKM.out, K5.out⟩
            case measure => simp [intOf]; have := HKM.out; omega)
        · have hki : ¬ (k : Int) < (nh : Int) := by omega
          go_wp2_with fail
          go_ret
          exact ⟨rfl, AT.out.below⟩
end Aln
end Go.Proofs.Ytgbklmncfajcgaa
