/- The walk of SinkSteps. -/
import Derived.Test.YtmkbdlailffjeaaSinkB
import Derived.Test.YtmkbdlailffjeaaSinkN
namespace Go.Proofs.Ytmkbdlailffjeaa
open Go.ChangeShapes Go.WideShapes Go.ChangeAt Go.RowKit
set_option linter.unusedVariables false
set_option maxRecDepth 8000
namespace Sk
open Gen (TellsB row_one flat_len flat_get Mine)
/-- What lies still while SinkSteps goes on. -/
structure SpAt (M : Nat → Prop) (w0 : World) (ba : Nat) (s : Si) (noa nsa nua : Nat) (Oa : Option Addr) (cOa : Nat) (Sa : Option Addr) (cSa : Nat) (Ua : Option Addr) (cUa : Nat) (sg : List Sg) (b5 : Nat) (sx : Si) (no5 ns5 nu5 : Nat) (O5 : Option Addr) (cO5 : Nat) (S5 : Option Addr) (cS5 : Nat) (U5 : Option Addr) (cU5 : Nat) (w : World) : Prop where
  la : Lies ba (skC Oa noa cOa Sa nsa cSa s.last Ua nua cUa) 25 w
  raw : RawS w s noa nsa nua Oa cOa Sa cSa Ua cUa sg
  off : OffS M s Oa Sa Ua sg
  l5 : Lies b5 (skC O5 no5 cO5 S5 ns5 cS5 sx.last U5 nu5 cU5) 25 w
  k5 : SkM M w sx no5 ns5 nu5 O5 cO5 S5 cS5 U5 cU5
  na : ¬ M ba
  n5 : ¬ M b5
  below : Below w0.heap.size w0 w
section
variable {M : Nat → Prop} {w0 : World} {ba : Nat} {s : Si} {noa nsa nua : Nat} {Oa : Option Addr} {cOa : Nat} {Sa : Option Addr} {cSa : Nat} {Ua : Option Addr} {cUa : Nat} {sg : List Sg} {b5 : Nat} {sx : Si} {no5 ns5 nu5 : Nat} {O5 : Option Addr} {cO5 : Nat} {S5 : Option Addr} {cS5 : Nat} {U5 : Option Addr} {cU5 : Nat} {w w' : World}
theorem SpAt.next (h : SpAt M w0 ba s noa nsa nua Oa cOa Sa cSa Ua cUa sg b5 sx no5 ns5 nu5 O5 cO5 S5 cS5 U5 cU5 w) (hb : Below w.heap.size w w') : SpAt M w0 ba s noa nsa nua Oa cOa Sa cSa Ua cUa sg b5 sx no5 ns5 nu5 O5 cO5 S5 cS5 U5 cU5 w' :=
  ⟨h.la.below hb, h.raw.below hb, h.off, h.l5.below hb, h.k5.below hb, h.na, h.n5, below_next h.below hb⟩
theorem SpAt.mine (h : SpAt M w0 ba s noa nsa nua Oa cOa Sa cSa Ua cUa sg b5 sx no5 ns5 nu5 O5 cO5 S5 cS5 U5 cU5 w) (hm : Mine M w w') (hlo : ∀ k, M k → w0.heap.size ≤ k) : SpAt M w0 ba s noa nsa nua Oa cOa Sa cSa Ua cUa sg b5 sx no5 ns5 nu5 O5 cO5 S5 cS5 U5 cU5 w' :=
  ⟨hm.lies h.la h.na, h.raw.mine h.off hm, h.off, hm.lies h.l5 h.n5, h.k5.mine hm, h.na, h.n5, Mine.below h.below hm hlo h.below.size⟩
end
theorem mine_set4K (w : World) (b : Nat) (v0 v1 v2 v3 : Value) : Mine (· = b) w (set4K w b v0 v1 v2 v3) :=
  ((Mine.set (M := (· = b)) w (a := ⟨b, 0, none⟩) v0 rfl).trans (Mine.set (M := (· = b)) _ (a := ⟨b, 1, none⟩) v1 rfl)).trans ((Mine.set (M := (· = b)) _ (a := ⟨b, 2, none⟩) v2 rfl).trans (Mine.set (M := (· = b)) _ (a := ⟨b, 3, none⟩) v3 rfl))
theorem RawS.mk_off {w : World} {s : Si} {no ns nu : Nat} {O : Option Addr} {cO : Nat} {S : Option Addr} {cS : Nat} {U : Option Addr} {cU : Nat} {sg : List Sg} (h : RawS w s no ns nu O cO S cS U cU sg) (M : Nat → Prop) (hM : ∀ k, M k → w.heap.size ≤ k) : OffS M s O S U sg :=
  ⟨.old h.ro hM, .old h.rs.row hM, fun x hx => .old (h.rs.each x hx) hM, .old h.ru hM⟩
section
variable {W1 a c : World} {b g o : Nat} {v0 v1 v2 v3 u : Value}
theorem keepC (hb : Below a.heap.size a c) (h : a.cell? ⟨b, 0, none⟩ = some v0 ∧ a.cell? ⟨b, 1, none⟩ = some v1 ∧ a.cell? ⟨b, 2, none⟩ = some v2 ∧ a.cell? ⟨b, 3, none⟩ = some v3 ∧ a.cell? ⟨g, o, none⟩ = some u ∧ Below W1.heap.size W1 a) : c.cell? ⟨b, 0, none⟩ = some v0 ∧ c.cell? ⟨b, 1, none⟩ = some v1 ∧ c.cell? ⟨b, 2, none⟩ = some v2 ∧ c.cell? ⟨b, 3, none⟩ = some v3 ∧ c.cell? ⟨g, o, none⟩ = some u ∧ Below W1.heap.size W1 c :=
  ⟨Gen.cell_below h.1 hb, Gen.cell_below h.2.1 hb, Gen.cell_below h.2.2.1 hb, Gen.cell_below h.2.2.2.1 hb, Gen.cell_below h.2.2.2.2.1 hb, below_next h.2.2.2.2.2 hb⟩
theorem keepCd {ob : Obj} (h : a.drew.cell? ⟨b, 0, none⟩ = some v0 ∧ a.drew.cell? ⟨b, 1, none⟩ = some v1 ∧ a.drew.cell? ⟨b, 2, none⟩ = some v2 ∧ a.drew.cell? ⟨b, 3, none⟩ = some v3 ∧ a.drew.cell? ⟨g, o, none⟩ = some u ∧ Below W1.heap.size W1 a.drew) : (a.alloc ob).drew.cell? ⟨b, 0, none⟩ = some v0 ∧ (a.alloc ob).drew.cell? ⟨b, 1, none⟩ = some v1 ∧ (a.alloc ob).drew.cell? ⟨b, 2, none⟩ = some v2 ∧ (a.alloc ob).drew.cell? ⟨b, 3, none⟩ = some v3 ∧ (a.alloc ob).drew.cell? ⟨g, o, none⟩ = some u ∧ Below W1.heap.size W1 (a.alloc ob).drew := keepC (c := (a.alloc ob).drew) (a := a.drew) (below_al (b := a.drew) (o := ob) (Below.refl _ _)) h
theorem keepCs {k : Nat} {y0 y1 y2 y3 : Value} (h1 : k ≠ b) (h4 : k ≠ g) (h3 : W1.heap.size ≤ k) (h : a.cell? ⟨b, 0, none⟩ = some v0 ∧ a.cell? ⟨b, 1, none⟩ = some v1 ∧ a.cell? ⟨b, 2, none⟩ = some v2 ∧ a.cell? ⟨b, 3, none⟩ = some v3 ∧ a.cell? ⟨g, o, none⟩ = some u ∧ Below W1.heap.size W1 a) : ((((a.setCell ⟨k, 0, none⟩ y0).setCell ⟨k, 1, none⟩ y1).setCell ⟨k, 2, none⟩ y2).setCell ⟨k, 3, none⟩ y3).cell? ⟨b, 0, none⟩ = some v0 ∧ ((((a.setCell ⟨k, 0, none⟩ y0).setCell ⟨k, 1, none⟩ y1).setCell ⟨k, 2, none⟩ y2).setCell ⟨k, 3, none⟩ y3).cell? ⟨b, 1, none⟩ = some v1 ∧ ((((a.setCell ⟨k, 0, none⟩ y0).setCell ⟨k, 1, none⟩ y1).setCell ⟨k, 2, none⟩ y2).setCell ⟨k, 3, none⟩ y3).cell? ⟨b, 2, none⟩ = some v2 ∧ ((((a.setCell ⟨k, 0, none⟩ y0).setCell ⟨k, 1, none⟩ y1).setCell ⟨k, 2, none⟩ y2).setCell ⟨k, 3, none⟩ y3).cell? ⟨b, 3, none⟩ = some v3 ∧ ((((a.setCell ⟨k, 0, none⟩ y0).setCell ⟨k, 1, none⟩ y1).setCell ⟨k, 2, none⟩ y2).setCell ⟨k, 3, none⟩ y3).cell? ⟨g, o, none⟩ = some u ∧ Below W1.heap.size W1 ((((a.setCell ⟨k, 0, none⟩ y0).setCell ⟨k, 1, none⟩ y1).setCell ⟨k, 2, none⟩ y2).setCell ⟨k, 3, none⟩ y3) := by
  refine ⟨?_, ?_, ?_, ?_, ?_, Gen.below_set4 h.2.2.2.2.2 h3 _ _ _ _⟩
  · rw [World.cell?_setCell_far _ _ _ _ h1, World.cell?_setCell_far _ _ _ _ h1, World.cell?_setCell_far _ _ _ _ h1, World.cell?_setCell_far _ _ _ _ h1]; exact h.1
  · rw [World.cell?_setCell_far _ _ _ _ h1, World.cell?_setCell_far _ _ _ _ h1, World.cell?_setCell_far _ _ _ _ h1, World.cell?_setCell_far _ _ _ _ h1]; exact h.2.1
  · rw [World.cell?_setCell_far _ _ _ _ h1, World.cell?_setCell_far _ _ _ _ h1, World.cell?_setCell_far _ _ _ _ h1, World.cell?_setCell_far _ _ _ _ h1]; exact h.2.2.1
  · rw [World.cell?_setCell_far _ _ _ _ h1, World.cell?_setCell_far _ _ _ _ h1, World.cell?_setCell_far _ _ _ _ h1, World.cell?_setCell_far _ _ _ _ h1]; exact h.2.2.2.1
  · rw [World.cell?_setCell_far _ _ _ _ h4, World.cell?_setCell_far _ _ _ _ h4, World.cell?_setCell_far _ _ _ _ h4, World.cell?_setCell_far _ _ _ _ h4]; exact h.2.2.2.2.1
end
theorem keepLK {a c : World} (hb : Below a.heap.size a c) : ∀ k C, Lies k C 25 a → Lies k C 25 c := fun k C h => h.below hb
set_option maxRecDepth 100000 in
set_option maxHeartbeats 2000000 in
theorem walkSteps {w : World} {s : Si} {noa nsa nua : Nat} {Oa : Option Addr} {cOa : Nat} {Sa : Option Addr} {cSa : Nat} {Ua : Option Addr} {cUa : Nat} (h : SkAt w s noa nsa nua Oa cOa Sa cSa Ua cUa) (hl : nsa ≤ 20 → Lim s) (k : Int) :
    Calls Try.prog 7 #[skV Oa noa cOa Sa nsa cSa s.last Ua nua cUa, .int .i64 k] w (TellsB true w) := by
  obtain ⟨sg, hraw⟩ := h
  have VA : Hid (Lies w.heap.size (skC Oa noa cOa Sa nsa cSa s.last Ua nua cUa) 25 (w.alloc (.cells (skC Oa noa cOa Sa nsa cSa s.last Ua nua cUa) 25))) := Lib.hid (Lies.new w _ _)
  have B0 : Hid (Below w.heap.size w (w.alloc (.cells (skC Oa noa cOa Sa nsa cSa s.last Ua nua cUa) 25))) := Lib.hid (below_al (Below.refl _ _))
  have HRW := Lib.hid (hraw.below B0.out)
  have HSM := Lib.hid (fun w' => lawSmall noa nsa nua Oa cOa Sa cSa s.last Ua cUa w')
  have HAL := Lib.hid (fun w' => lawAlive w')
  obtain ⟨rt, hrt⟩ : ∃ r, r = rightS s := ⟨_, rfl⟩
  have HRT := Lib.hid hrt
  have HLS := Lib.hid hl
  clear hraw hl hrt
  go_enter Try.func7, Try.ntmps7
  go_upto_region 1 with fail
  obtain ⟨ba, hba⟩ : ∃ b, b = w.heap.size := ⟨_, rfl⟩
  obtain ⟨W, hW⟩ : ∃ W, W = w.alloc (.cells (skC Oa noa cOa Sa nsa cSa s.last Ua nua cUa) 25) := ⟨_, rfl⟩
  rw [← hW] at VA B0 HRW ⊢
  rw [← hba] at VA ⊢
  clear hW hba
  have x0 := VA.out.cell (j := 0) rfl; have x1 := VA.out.cell (j := 1) rfl; have x2 := VA.out.cell (j := 2) rfl; have x3 := VA.out.cell (j := 3) rfl
  go_wp2_with fail
  refine (HSM.out _).mono ?_
  rintro e w1 ⟨rfl, hb⟩
  have VA := Lib.hid (VA.out.below hb)
  have HRW := Lib.hid (HRW.out.below hb)
  have B0 := Lib.hid (below_next B0.out hb)
  clear hb x0 x1 x2 x3
  by_cases hsm : nsa ≤ 20
  · have HLIM := Lib.hid (HLS.out hsm)
    rw [decide_eq_true hsm]
    have x0 := VA.out.cell (j := 0) rfl; have x1 := VA.out.cell (j := 1) rfl; have x2 := VA.out.cell (j := 2) rfl; have x3 := VA.out.cell (j := 3) rfl
    go_wp2_with fail
    refine (show Calls Try.prog 14 #[skV Oa noa cOa Sa nsa cSa s.last Ua nua cUa] _ (TellsB rt _) from by rw [HRT.out]; exact ckRight ⟨sg, HRW.out⟩ HLIM.out).mono ?_
    rintro e w2 ⟨rfl, hb⟩
    have VA := Lib.hid (VA.out.below hb)
    have HRW := Lib.hid (HRW.out.below hb)
    have B0 := Lib.hid (below_next B0.out hb)
    clear hb x0 x1 x2 x3
    cases rt with
    | false =>
      go_wp2_with fail
      refine (HAL.out _).mono ?_
      rintro e w3 ⟨rfl, hb⟩
      have B0 := Lib.hid (below_next B0.out hb)
      clear hb
      go_wp2_with fail
      go_ret
      exact ⟨rfl, B0.out⟩
    | true =>
      have x1 := VA.out.cell (j := 1) rfl
      by_cases hz : nsa = 0
      · subst hz
        go_wp2_with fail
        refine (HAL.out _).mono ?_
        rintro e w3 ⟨rfl, hb⟩
        have B0 := Lib.hid (below_next B0.out hb)
        clear hb
        go_wp2_with fail
        go_ret
        exact ⟨rfl, B0.out⟩
      · have hz1 : ((nsa : Int) == 0) = false := by simp; omega
        have hz2 : ¬ ((nsa : Int) = 0) := by omega
        go_wp2_with fail
        refine (HAL.out _).mono ?_
        rintro e w3 ⟨rfl, hb⟩
        have VA := Lib.hid (VA.out.below hb)
        have HRW := Lib.hid (HRW.out.below hb)
        have B0 := Lib.hid (below_next B0.out hb)
        clear hb x1
        obtain ⟨q, hq⟩ : ∃ q, q = k.tmod nsa := ⟨_, rfl⟩
        have hq1 : -(nsa : Int) < q ∧ q < nsa := by
          rw [hq]
          constructor
          · have := Int.lt_tmod_of_pos k (show (0 : Int) < nsa by omega); omega
          · exact Int.tmod_lt_of_pos k (by omega)
        obtain ⟨K, hK⟩ : ∃ K : Nat, (q + nsa).tmod nsa = (K : Int) := ⟨((q + nsa).tmod nsa).toNat, by have := Int.tmod_nonneg (nsa : Int) (show (0 : Int) ≤ q + nsa by omega); omega⟩
        have hKN : K < nsa := by have := Int.tmod_lt_of_pos (q + nsa) (show (0 : Int) < nsa by omega); omega
        have hwq : IntKind.i64.wrap (q + nsa) = q + nsa := wrapS (by omega) (by omega)
        have hq' : k.tmod nsa = q := hq.symm
        clear hq
        have x1 := VA.out.cell (j := 1) rfl
        go_upto_region 3 with fail
        go_cut [1] from 31 to 43 (fun s1 wc => s1 = .int .i64 K ∧ Below w3.heap.size w3 wc)
        case first =>
          go_quiet (fail)
          go_wp2_with fail
          go_meet
          case rel => exact ⟨rfl, by first | exact below_drewN (Below.refl _ _) | exact below_drewOf (Below.refl _ _)⟩
        case rest =>
          obtain ⟨rfl, hb⟩ := hcut
          have VA := Lib.hid (VA.out.below hb)
          have HRW := Lib.hid (HRW.out.below hb)
          have B0 := Lib.hid (below_next B0.out hb)
          clear hb x1
          obtain ⟨⟨N, A, c, l⟩, hx⟩ : ∃ x, sg[K]? = some x := ⟨_, List.getElem?_eq_getElem (by have h1 := congrArg List.length HRW.out.map; rw [List.length_map, ← HRW.out.lns] at h1; omega)⟩
          have hxs : s.st[K]? = some (N, l) := by rw [← HRW.out.map, List.getElem?_map, hx]; rfl
          obtain ⟨qb, off, hS, c0, c1⟩ := stage_row HRW.out.rs.row hx
          subst hS
          simp only at c0 c1
          obtain ⟨sx, hsx⟩ : ∃ x, x = stp s (K + 1) := ⟨_, rfl⟩
          have HSX := Lib.hid hsx
          have HXS := Lib.hid hxs
          have HX := Lib.hid hx
          have hca : commitO s N = (sx, 0) := by rw [hsx]; exact stp_all HRT.out.symm hxs
          have HMK := Lib.hid (SkAt.mk_ ⟨sg, HRW.out⟩ (· = wc.heap.size) (fun k hk => by rw [hk]; exact Nat.le_refl _))
          have HCC := Lib.hid (fun w' (hS : w'.cell? ⟨ba, 0, none⟩ = some (.slice Oa noa cOa) ∧ w'.cell? ⟨ba, 1, none⟩ = some (.slice (some ⟨qb, off, none⟩) nsa cSa) ∧ w'.cell? ⟨ba, 2, none⟩ = some (.int .i64 s.last) ∧ w'.cell? ⟨ba, 3, none⟩ = some (.slice Ua nua cUa) ∧ w'.cell? ⟨qb, off + K * 2, none⟩ = some (.int .i64 N) ∧ Below wc.heap.size wc w') => show Calls Try.prog 17 #[skV Oa noa cOa (some ⟨qb, off, none⟩) nsa cSa s.last Ua nua cUa, .int .i64 N] w' (GivesSkM (fun k => k = wc.heap.size ∧ k < w'.heap.size) (sx, 0) w') from by rw [← hca]; exact ckCommitM ((HMK.out.below hS.2.2.2.2.2).more (fun k hk => .inl hk.1)) HLIM.out (fun k hk => hk.2) N)
          have HKN := Lib.hid hKN
          have hki : (K : Int) < nsa := by omega
          have hk0 : (0 : Int) ≤ (K : Int) := by omega
          clear hx hxs hca hsx c1 hK hq1 hwq hq' hz hz1 hz2 hKN
          have x0 := VA.out.cell (j := 0) rfl; have x1 := VA.out.cell (j := 1) rfl; have x2 := VA.out.cell (j := 2) rfl; have x3 := VA.out.cell (j := 3) rfl
          have HLT := Lib.hid (show ba < wc.heap.size ∧ qb < wc.heap.size from ⟨lt_of_block VA.out, lt_of_cell c0⟩)
          have S0 : wc.drew.cell? ⟨ba, 0, none⟩ = some (.slice Oa noa cOa) ∧ wc.drew.cell? ⟨ba, 1, none⟩ = some (.slice (some ⟨qb, off, none⟩) nsa cSa) ∧ wc.drew.cell? ⟨ba, 2, none⟩ = some (.int .i64 s.last) ∧ wc.drew.cell? ⟨ba, 3, none⟩ = some (.slice Ua nua cUa) ∧ wc.drew.cell? ⟨qb, off + K * 2, none⟩ = some (.int .i64 N) ∧ Below wc.heap.size wc wc.drew :=
            keepC (below_drewOf (Below.refl _ _)) (show wc.cell? ⟨ba, 0, none⟩ = some (.slice Oa noa cOa) ∧ wc.cell? ⟨ba, 1, none⟩ = some (.slice (some ⟨qb, off, none⟩) nsa cSa) ∧ wc.cell? ⟨ba, 2, none⟩ = some (.int .i64 s.last) ∧ wc.cell? ⟨ba, 3, none⟩ = some (.slice Ua nua cUa) ∧ wc.cell? ⟨qb, off + K * 2, none⟩ = some (.int .i64 N) ∧ Below wc.heap.size wc wc from ⟨x0, x1, x2, x3, c0, Below.refl _ _⟩)
          clear x0 x1 x2 x3 c0
          go_upto_region 4 with fail
          go_cut [5, 6] from 44 to 54 (fun s5 s6 wd => ∃ (b5 no5 ns5 nu5 : Nat) (O5 : Option Addr) (cO5 : Nat) (S5 : Option Addr) (cS5 : Nat) (U5 : Option Addr) (cU5 : Nat), s5 = .pointer (some ⟨b5, 0, none⟩) ∧ s6 = .int .i64 0 ∧ wc.heap.size ≤ b5 ∧ Lies b5 (skC O5 no5 cO5 S5 ns5 cS5 sx.last U5 nu5 cU5) 25 wd ∧ SkAt wd sx no5 ns5 nu5 O5 cO5 S5 cS5 U5 cU5 ∧ Below wc.heap.size wc wd)
          case first =>
            go_region_held3 (fun w' => w'.cell? ⟨ba, 0, none⟩ = some (.slice Oa noa cOa) ∧ w'.cell? ⟨ba, 1, none⟩ = some (.slice (some ⟨qb, off, none⟩) nsa cSa) ∧ w'.cell? ⟨ba, 2, none⟩ = some (.int .i64 s.last) ∧ w'.cell? ⟨ba, 3, none⟩ = some (.slice Ua nua cUa) ∧ w'.cell? ⟨qb, off + K * 2, none⟩ = some (.int .i64 N) ∧ Below wc.heap.size wc w')
              (first | with_reducible assumption | ((with_reducible refine keepCs ?_ ?_ ?_ ?_) <;> first | with_reducible assumption | (have := HLT.out; omega)) | ((with_reducible refine keepC hb5 ?_); with_reducible assumption) | ((with_reducible refine keepCd ?_); with_reducible assumption) | ((with_reducible refine keepC (below_al (Below.refl _ _)) ?_); with_reducible assumption) | ((with_reducible refine keepC (below_al (Below.refl _ _)) ?_); with_reducible exact HS5.out))
              ((go_at_call 17
                refine (HCC.out _ (by with_reducible assumption)).mono ?_
                rintro e w5 ⟨no5, ns5, nu5, O5, cO5, S5, cS5, U5, cU5, rfl, ha5, hb5⟩
                have HS5 := Lib.hid (keepC hb5 (by with_reducible assumption))
                have HA5 := Lib.hid ha5
                have HK5 := Lib.hid (keepLK hb5)
                (try have hlz := HK5.out _ _ (by first | with_reducible exact Lies.new _ _ _ | with_reducible exact (Lies.new _ _ _).al | with_reducible exact (Lies.new _ _ _).drew | with_reducible exact (Lies.new _ _ _).al.drew))
                (try simp only [World.size_alloc] at hlz)
                (try have HLZ := Lib.hid hlz)
                (try clear hlz)
                (try have z0 := HLZ.out.cell (j := 0) rfl)
                (try have z1 := HLZ.out.cell (j := 1) rfl)
                (try have z2 := HLZ.out.cell (j := 2) rfl)
                (try have z3 := HLZ.out.cell (j := 3) rfl)
                (try have f0 := HLZ.out.free 0)
                (try have f1 := HLZ.out.free 1)
                (try have f2 := HLZ.out.free 2)
                (try have f3 := HLZ.out.free 3)
                clear ha5
                dsimp only))
            all_goals (
              go_wp2_with fail
              go_meet
              case rel => first
                | exact ⟨_, _, _, _, _, _, _, _, _, _, rfl, rfl, HS5.out.2.2.2.2.2.size, Lies.new _ _ _, HA5.out.at_.below (below_al (Below.refl _ _)), below_al HS5.out.2.2.2.2.2⟩
                | exact ⟨_, _, _, _, _, _, _, _, _, _, rfl, rfl, Nat.le_refl _, Gen.Lies.set4 HLZ.out _ _ _ _, (HA5.out.mine ((mine_set4K _ _ _ _ _ _).sub (fun k hk => ⟨hk, by rw [hk]; show wc.heap.size < (wc.alloc _).heap.size; simp⟩))).at_, Gen.below_set4 HS5.out.2.2.2.2.2 (Nat.le_refl _) _ _ _ _⟩)
          case rest =>
            obtain ⟨b5, no5, ns5, nu5, O5, cO5, S5, cS5, U5, cU5, rfl, rfl, hlo5, hl5, hk5, hb5⟩ := hcut
            have VA := Lib.hid (VA.out.below hb5)
            have HRW := Lib.hid (HRW.out.below hb5)
            have B0 := Lib.hid (below_next B0.out hb5)
            have L5 := Lib.hid hl5
            have K5 := Lib.hid hk5
            clear hl5 hk5 hb5 S0 HMK HCC hlo5
            have x0 := VA.out.cell (j := 0) rfl; have x1 := VA.out.cell (j := 1) rfl; have x2 := VA.out.cell (j := 2) rfl; have x3 := VA.out.cell (j := 3) rfl
            go_upto_region 6 with fail
            have hb7 := below_al (o := .cells (skC Oa noa cOa (some ⟨qb, off, none⟩) nsa cSa s.last Ua nua cUa) 25) (Below.refl wc.heap.size wc)
            have SP := Lib.hid (show SpAt (· = wc.heap.size) w ba s noa nsa nua Oa cOa (some ⟨qb, off, none⟩) cSa Ua cUa sg b5 sx no5 ns5 nu5 O5 cO5 S5 cS5 U5 cU5 _ from ⟨VA.out.below hb7, HRW.out.below hb7, HRW.out.mk_off _ (fun k hk => by rw [hk]; exact Nat.le_refl _), L5.out.below hb7, (K5.out.mk_ _ (fun k hk => by rw [hk]; exact Nat.le_refl _)).below hb7, (by have := lt_of_block VA.out; omega), (by have := lt_of_block L5.out; omega), below_next B0.out hb7⟩)
            have L7 := Lib.hid (Lies.new wc (skC Oa noa cOa (some ⟨qb, off, none⟩) nsa cSa s.last Ua nua cUa) 25)
            have K7 := Lib.hid ((SkAt.mk_ ⟨sg, HRW.out⟩ (· = wc.heap.size) (fun k hk => by rw [hk]; exact Nat.le_refl _)).below hb7)
            have HLO := Lib.hid (show w.heap.size ≤ wc.heap.size from B0.out.size)
            obtain ⟨b7, hbk⟩ : ∃ b, b = wc.heap.size := ⟨_, rfl⟩
            obtain ⟨W7, hW⟩ : ∃ X, X = wc.alloc (.cells (skC Oa noa cOa (some ⟨qb, off, none⟩) nsa cSa s.last Ua nua cUa) 25) := ⟨_, rfl⟩
            rw [← hbk] at SP K7 HLO
            rw [← hW] at SP L7 K7 ⊢
            rw [← hbk] at L7 ⊢
            clear hW hbk hb7 x0 x1 x2 x3 VA B0 L5 K5
            have x1 := SP.out.la.cell (j := 1) rfl
            have HN20 := Lib.hid hsm
            have hk1 : IntKind.i64.wrap ((K : Int) + 1) = ((K + 1 : Nat) : Int) := by rw [wrapS (by omega) (by omega)]; rfl
            have hk2 : ((K + 1 : Nat) : Int) ≤ (cSa : Int) := by have := HRW.out.cs; have := HKN.out; omega
            have hk3 : K + 1 ≤ cSa := by have := HRW.out.cs; have := HKN.out; omega
            have hk4 : (0 : Int) ≤ ((K + 1 : Nat) : Int) := by omega
            have HCS := Lib.hid HRW.out.cs
            clear hsm HRW
            obtain ⟨m, hm⟩ : ∃ m, m = K + 1 := ⟨_, rfl⟩
            rw [← hm] at hk1 hk2 hk3 hk4
            have HM := Lib.hid hm
            clear hm
            go_wp2_with fail
            clear x1 hk1 hk2 hk3 hk4 hki hk0
            go_loopw [62] (fun s62 wr => ∃ i : Nat, s62 = .int .i64 i ∧ i ≤ m ∧ ∃ (no7 ns7 nu7 : Nat) (O7 : Option Addr) (cO7 : Nat) (S7 : Option Addr) (cS7 : Nat) (U7 : Option Addr) (cU7 : Nat), SpAt (· = b7) w ba s noa nsa nua Oa cOa (some ⟨qb, off, none⟩) cSa Ua cUa sg b5 sx no5 ns5 nu5 O5 cO5 S5 cS5 U5 cU5 wr ∧ Lies b7 (skC O7 no7 cO7 S7 ns7 cS7 (stp s i).last U7 nu7 cU7) 25 wr ∧ SkM (· = b7) wr (stp s i) no7 ns7 nu7 O7 cO7 S7 cS7 U7 cU7) (fun s62 _ => m - (intOf s62).toNat)
            case atStart => exact ⟨0, rfl, Nat.zero_le _, _, _, _, _, _, _, _, _, _, SP.out, L7.out, K7.out⟩
            case round =>
              clear SP L7 K7
              obtain ⟨i, rfl, him, no7, ns7, nu7, O7, cO7, S7, cS7, U7, cU7, hsp, hl7, hk7⟩ := hrel
              have SP := Lib.hid hsp
              have L7 := Lib.hid hl7
              have K7 := Lib.hid hk7
              clear hsp hl7 hk7
              by_cases hlt : i < m
              · obtain ⟨⟨N', A', c', l'⟩, hx⟩ : ∃ x, sg[i]? = some x := ⟨_, List.getElem?_eq_getElem (by have h1 := congrArg List.length SP.out.raw.map; rw [List.length_map, ← SP.out.raw.lns] at h1; have := HKN.out; have := HM.out; omega)⟩
                have hxs : s.st[i]? = some (N', l') := by rw [← SP.out.raw.map, List.getElem?_map, hx]; rfl
                obtain ⟨qb', off', hS, c0, c1⟩ := stage_row SP.out.raw.rs.row hx
                cases hS
                simp only at c0 c1
                obtain ⟨s2, hs2⟩ : ∃ x, x = stp s (i + 1) := ⟨_, rfl⟩
                obtain ⟨s1, hs1⟩ : ∃ x, x = stp s i := ⟨_, rfl⟩
                have hst := stp_step HRT.out.symm hxs
                rw [← hs2, ← hs1] at hst
                have HST := Lib.hid hst
                have HS2 := Lib.hid hs2
                have HL1 := Lib.hid (show Lim s1 from by rw [hs1]; exact (right_fit (stp_right HRT.out.symm (by have := (List.getElem?_eq_some_iff.1 hxs).1; omega))).bd.lim)
                have HB1 := Lib.hid (show s1.out.length ≤ 20000 from by rw [hs1]; exact (right_fit (stp_right HRT.out.symm (by have := (List.getElem?_eq_some_iff.1 hxs).1; omega))).u)
                rw [← hs1] at L7 K7
                have HI := Lib.hid hlt
                have HLL := Lib.hid (show l'.length ≤ 20000 from (right_fit HRT.out.symm).e (N', l') (List.mem_of_getElem? hxs))
                obtain ⟨lm, hlm⟩ : ∃ lm, lm = l'.length := ⟨_, rfl⟩
                rw [← hlm] at c1 HLL
                have HLM := Lib.hid hlm
                have hki : (i : Int) < (m : Int) := by omega
                have hk0 : (0 : Int) ≤ (i : Int) := by omega
                have hwi := wrapKS (k := i) (by have := HM.out; have := HKN.out; have := HN20.out; omega)
                clear hx hxs hst hs2 hs1 hlt him hlm
                go_upto_region 9 with fail
                have hb9 := below_al (o := .cells #[.int .i64 N', .slice A' lm c'] 50) (Below.refl wr.heap.size wr)
                have L9 := Lib.hid (Lies.new wr #[.int .i64 N', .slice A' lm c'] 50)
                have SP := Lib.hid (SP.out.next hb9)
                have L7 := Lib.hid (L7.out.below hb9)
                have K7 := Lib.hid (K7.out.below hb9)
                obtain ⟨b9, hbk⟩ : ∃ b, b = wr.heap.size := ⟨_, rfl⟩
                obtain ⟨W9, hW⟩ : ∃ X, X = wr.alloc (.cells #[.int .i64 N', .slice A' lm c'] 50) := ⟨_, rfl⟩
                rw [← hW] at SP L7 K7 L9 ⊢
                have HN9 := Lib.hid (show b9 ≠ b7 from by have := lt_of_block ‹Hid (Lies b7 _ _ wr)›.out; omega)
                rw [← hbk] at L9 ⊢
                clear hW hbk hb9 c0 c1
                have y0 := L7.out.cell (j := 0) rfl; have y1 := L7.out.cell (j := 1) rfl; have y2 := L7.out.cell (j := 2) rfl; have y3 := L7.out.cell (j := 3) rfl
                have v0 := L9.out.cell (j := 0) rfl
                go_wp2_with fail
                refine (show Calls Try.prog 17 #[skV O7 no7 cO7 S7 ns7 cS7 s1.last U7 nu7 cU7, .int .i64 N'] _ (GivesSkM (· = b7) (s2, 0) _) from by rw [← HST.out.1]; exact ckCommitM K7.out HL1.out (fun k hk => by rw [hk]; exact lt_of_block L7.out) N').mono ?_
                rintro e w5 ⟨no8, ns8, nu8, O8, cO8, S8, cS8, U8, cU8, rfl, ha, hb⟩
                simp only at ha ⊢
                have SP := Lib.hid (SP.out.next hb)
                have L7 := Lib.hid (L7.out.below hb)
                have K7 := Lib.hid (K7.out.below hb)
                have L9 := Lib.hid (L9.out.below hb)
                have K8 := Lib.hid ha
                clear ha hb y0 y1 y2 y3 v0
                go_upto_region 10 with fail
                have hb := below_al (o := .cells (skC O8 no8 cO8 S8 ns8 cS8 s2.last U8 nu8 cU8) 25) (Below.refl w5.heap.size w5)
                have L8 := Lib.hid (Lies.new w5 (skC O8 no8 cO8 S8 ns8 cS8 s2.last U8 nu8 cU8) 25)
                have HN8 := Lib.hid (show w5.heap.size ≠ b7 from by have := lt_of_block L7.out; omega)
                have SP := Lib.hid (SP.out.next hb)
                have L7 := Lib.hid (L7.out.below hb)
                have K7 := Lib.hid (K7.out.below hb)
                have L9 := Lib.hid (L9.out.below hb)
                have K8 := Lib.hid (K8.out.below hb)
                obtain ⟨b8, hbk⟩ : ∃ b, b = w5.heap.size := ⟨_, rfl⟩
                obtain ⟨W8, hW⟩ : ∃ X, X = w5.alloc (.cells (skC O8 no8 cO8 S8 ns8 cS8 s2.last U8 nu8 cU8) 25) := ⟨_, rfl⟩
                rw [← hbk] at HN8
                rw [← hW] at SP L7 K7 L9 K8 L8 ⊢
                rw [← hbk] at L8 ⊢
                clear hW hbk hb
                have hnu : nu8 = nu7 + lm := by rw [K8.out.at_.len.2.2, HST.out.2, K7.out.at_.len.2.2, HLM.out]
                have hwn : IntKind.i64.wrap ((nu7 : Int) + (lm : Int)) = (nu8 : Int) := by have h1 := K7.out.at_.len.2.2; have := HB1.out; have := HLL.out; rw [wrapS (by omega) (by omega)]; omega
                have hne : ((nu8 : Int) != (nu8 : Int)) = false := by simp
                clear hnu
                have z0 := L8.out.cell (j := 0) rfl; have z1 := L8.out.cell (j := 1) rfl; have z2 := L8.out.cell (j := 2) rfl; have z3 := L8.out.cell (j := 3) rfl
                have y0 := L7.out.cell (j := 0) rfl; have y1 := L7.out.cell (j := 1) rfl; have y2 := L7.out.cell (j := 2) rfl; have y3 := L7.out.cell (j := 3) rfl
                have v1 := L9.out.cell (j := 1) rfl
                have f0 := L7.out.free 0; have f1 := L7.out.free 1; have f2 := L7.out.free 2; have f3 := L7.out.free 3
                go_wp2_with fail
                go_roundw
                case rel =>
                  have hmm := mine_set4K W8 b7 (.slice O8 no8 cO8) (.slice S8 ns8 cS8) (.int .i64 s2.last) (.slice U8 nu8 cU8)
                  refine ⟨i + 1, rfl, HI.out, no8, ns8, nu8, O8, cO8, S8, cS8, U8, cU8, SP.out.mine hmm (fun k hk => by rw [hk]; exact HLO.out), ?_, ?_⟩
                  · rw [← HS2.out]; exact lies_set4K L7.out _ _ _ _
                  · rw [← HS2.out]; exact K8.out.mine hmm
                case measure => simp [intOf]; have := HI.out; omega
              · have hki : ¬ (i : Int) < (m : Int) := by omega
                have hie : i = K + 1 := by have := HM.out; omega
                subst hie
                rw [← HSX.out] at L7 K7
                have hn5 := SP.out.k5.at_.len.2.1
                have hn0 := SP.out.raw.lns
                have hkn := HKN.out
                have e5 : ns5 + (K + 1) = nsa := by rw [hn5, HSX.out, stp_st, List.length_drop, hn0]; omega
                have hn20 := HN20.out
                have hw1 : IntKind.i64.wrap ((nsa : Int) - (K : Int)) = ((nsa - K : Nat) : Int) := by rw [wrapS (by omega) (by omega)]; omega
                have hw2 : IntKind.i64.wrap (((nsa - K : Nat) : Int) - 1) = (ns5 : Int) := by rw [wrapS (by omega) (by omega)]; omega
                have hq1 : ((ns5 : Int) == (ns5 : Int)) = true := by simp
                have hq2 : (sx.last == N) = true := by rw [HSX.out, stp_last HXS.out]; simp
                have hk0 : (0 : Int) ≤ (K : Int) := by omega
                have hkj : (K : Int) < (nsa : Int) := by omega
                obtain ⟨qb', off', hS, c0, c1⟩ := stage_row SP.out.raw.rs.row HX.out
                cases hS
                simp only at c0 c1
                have HBX := Lib.hid (show Bd sx from by rw [HSX.out]; exact (right_fit (stp_right HRT.out.symm (by omega))).bd)
                obtain ⟨dn, hdn⟩ : ∃ d, d = nsa - K := ⟨_, rfl⟩
                rw [← hdn] at hw1 hw2
                clear hn5 hn0 hkn e5 hn20 hdn c1 him hki
                have K0 := Lib.hid (show SpAt (· = b7) w ba s noa nsa nua Oa cOa (some ⟨qb, off, none⟩) cSa Ua cUa sg b5 sx no5 ns5 nu5 O5 cO5 S5 cS5 U5 cU5 wr ∧ Lies b7 (skC O7 no7 cO7 S7 ns7 cS7 sx.last U7 nu7 cU7) 25 wr ∧ SkM (· = b7) wr sx no7 ns7 nu7 O7 cO7 S7 cS7 U7 cU7 ∧ wr.cell? ⟨qb, off + K * 2, none⟩ = some (.int .i64 N) from ⟨SP.out, L7.out, K7.out, c0⟩)
                have HNX := Lib.hid (fun (w5 w6 : World) (h5 : SpAt (· = b7) w ba s noa nsa nua Oa cOa (some ⟨qb, off, none⟩) cSa Ua cUa sg b5 sx no5 ns5 nu5 O5 cO5 S5 cS5 U5 cU5 w5 ∧ Lies b7 (skC O7 no7 cO7 S7 ns7 cS7 sx.last U7 nu7 cU7) 25 w5 ∧ SkM (· = b7) w5 sx no7 ns7 nu7 O7 cO7 S7 cS7 U7 cU7 ∧ w5.cell? ⟨qb, off + K * 2, none⟩ = some (.int .i64 N)) (hb : Below w5.heap.size w5 w6) => show SpAt (· = b7) w ba s noa nsa nua Oa cOa (some ⟨qb, off, none⟩) cSa Ua cUa sg b5 sx no5 ns5 nu5 O5 cO5 S5 cS5 U5 cU5 w6 ∧ Lies b7 (skC O7 no7 cO7 S7 ns7 cS7 sx.last U7 nu7 cU7) 25 w6 ∧ SkM (· = b7) w6 sx no7 ns7 nu7 O7 cO7 S7 cS7 U7 cU7 ∧ w6.cell? ⟨qb, off + K * 2, none⟩ = some (.int .i64 N) from ⟨h5.1.next hb, h5.2.1.below hb, h5.2.2.1.below hb, Gen.cell_below h5.2.2.2 hb⟩)
                have HLK := Lib.hid (fun (w5 : World) (h5 : SpAt (· = b7) w ba s noa nsa nua Oa cOa (some ⟨qb, off, none⟩) cSa Ua cUa sg b5 sx no5 ns5 nu5 O5 cO5 S5 cS5 U5 cU5 w5 ∧ Lies b7 (skC O7 no7 cO7 S7 ns7 cS7 sx.last U7 nu7 cU7) 25 w5 ∧ SkM (· = b7) w5 sx no7 ns7 nu7 O7 cO7 S7 cS7 U7 cU7 ∧ w5.cell? ⟨qb, off + K * 2, none⟩ = some (.int .i64 N)) => rfLikeS HBX.out h5.1.k5.at_ h5.2.2.1.at_)
                have HBL := Lib.hid (fun (w5 : World) (h5 : SpAt (· = b7) w ba s noa nsa nua Oa cOa (some ⟨qb, off, none⟩) cSa Ua cUa sg b5 sx no5 ns5 nu5 O5 cO5 S5 cS5 U5 cU5 w5 ∧ Lies b7 (skC O7 no7 cO7 S7 ns7 cS7 sx.last U7 nu7 cU7) 25 w5 ∧ SkM (· = b7) w5 sx no7 ns7 nu7 O7 cO7 S7 cS7 U7 cU7 ∧ w5.cell? ⟨qb, off + K * 2, none⟩ = some (.int .i64 N)) => h5.1.below)
                clear SP L7 K7 c0
                go_upto_region 14 with fail
                refine wide_all (fun w5 => SpAt (· = b7) w ba s noa nsa nua Oa cOa (some ⟨qb, off, none⟩) cSa Ua cUa sg b5 sx no5 ns5 nu5 O5 cO5 S5 cS5 U5 cU5 w5 ∧ Lies b7 (skC O7 no7 cO7 S7 ns7 cS7 sx.last U7 nu7 cU7) 25 w5 ∧ SkM (· = b7) w5 sx no7 ns7 nu7 O7 cO7 S7 cS7 U7 cU7 ∧ w5.cell? ⟨qb, off + K * 2, none⟩ = some (.int .i64 N)) (by kernel_rfl) (by kernel_rfl) (HNX.out _ _ K0.out (below_drewOf (Below.refl _ _))) ?_
                (try simp only [List.append_eq, List.cons_append, List.nil_append])
                repeat (first
                  | go_big_quiet_skip
                  | (go_big_quiet_want
                     apply wide_op
                     · (intro w5 h5; have x1 := h5.1.la.cell (j := 1) rfl; have z0 := h5.1.l5.cell (j := 0) rfl; have z1 := h5.1.l5.cell (j := 1) rfl; have z2 := h5.1.l5.cell (j := 2) rfl; have z3 := h5.1.l5.cell (j := 3) rfl; have y0 := h5.2.1.cell (j := 0) rfl; have y1 := h5.2.1.cell (j := 1) rfl; have y2 := h5.2.1.cell (j := 2) rfl; have y3 := h5.2.1.cell (j := 3) rfl; have c0 := h5.2.2.2; go_simp; first | done | with_reducible rfl | (go_at_call 16; refine (HLK.out _ h5).mono ?_; rintro e w6 ⟨rfl, hb6⟩; exact ⟨rfl, HNX.out _ _ h5 hb6⟩))
                     (try simp only [Act.put, List.setIfInBounds_toArray, List.set_cons_zero, List.set_cons_succ])
                     go_big_quiet_on))
                refine wpQuiet_nil ?_
                intro w6 h6
                have H6 := Lib.hid (HBL.out _ h6)
                clear h6 K0
                go_wp2_with fail
                go_ret
                exact ⟨rfl, H6.out⟩
  · rw [decide_eq_false hsm]
    clear hsm
    go_wp2_with fail
    refine (HAL.out _).mono ?_
    rintro e w3 ⟨rfl, hb⟩
    have B0 := Lib.hid (below_next B0.out hb)
    clear hb
    go_wp2_with fail
    go_ret
    exact ⟨rfl, B0.out⟩
end Sk
end Go.Proofs.Ytmkbdlailffjeaa
