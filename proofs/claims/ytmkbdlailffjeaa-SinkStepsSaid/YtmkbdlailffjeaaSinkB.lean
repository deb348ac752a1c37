/- The walks of SinkAdds, SinkCommits. -/
import Derived.Test.YtmkbdlailffjeaaSinkA
namespace Go.Proofs.Ytmkbdlailffjeaa
open Go.ChangeShapes Go.WideShapes Go.ChangeAt Go.RowKit
set_option linter.unusedVariables false
set_option maxRecDepth 8000
namespace Sk
open Gen (TellsB row_one flat_len flat_get Mine)
theorem rfRightA {w : World} {s : Si} {no ns nu : Nat} {O : Option Addr} {cO : Nat} {S : Option Addr} {cS : Nat} {U : Option Addr} {cU : Nat} (h : SkAt w s no ns nu O cO S cS U cU) :
    Calls Try.prog 15 #[skV O no cO S ns cS s.last U nu cU] w (TellsB (rightS s) w) := by
  obtain ⟨sg, h1⟩ := h
  exact rfRightS s sg h1.map no ns nu h1.lno h1.lns h1.lnu _ rfl O cO S cS U cU w h1.ro h1.rs h1.ru
/-- What the end of SinkAdds reads. -/
structure SaAt (w0 : World) (ba : Nat) (s : Si) (noa nsa nua : Nat) (Oa : Option Addr) (cOa : Nat) (Sa : Option Addr) (cSa : Nat) (Ua : Option Addr) (cUa : Nat) (b0 : Nat) (s0 : Si) (no0 ns0 nu0 : Nat) (O0 : Option Addr) (cO0 : Nat) (S0 : Option Addr) (cS0 : Nat) (U0 : Option Addr) (cU0 : Nat) (b1 : Nat) (s1 : Si) (no1 ns1 nu1 : Nat) (O1 : Option Addr) (cO1 : Nat) (S1 : Option Addr) (cS1 : Nat) (U1 : Option Addr) (cU1 : Nat) (b2 : Nat) (s2 : Si) (no2 ns2 nu2 : Nat) (O2 : Option Addr) (cO2 : Nat) (S2 : Option Addr) (cS2 : Nat) (U2 : Option Addr) (cU2 : Nat) (b3 : Nat) (s3 : Si) (no3 ns3 nu3 : Nat) (O3 : Option Addr) (cO3 : Nat) (S3 : Option Addr) (cS3 : Nat) (U3 : Option Addr) (cU3 : Nat) (w : World) : Prop where
  va : Var w ba s noa nsa nua Oa cOa Sa cSa Ua cUa
  v0 : Var w b0 s0 no0 ns0 nu0 O0 cO0 S0 cS0 U0 cU0
  v1 : Var w b1 s1 no1 ns1 nu1 O1 cO1 S1 cS1 U1 cU1
  v2 : Var w b2 s2 no2 ns2 nu2 O2 cO2 S2 cS2 U2 cU2
  v3 : Var w b3 s3 no3 ns3 nu3 O3 cO3 S3 cS3 U3 cU3
  below : Below w0.heap.size w0 w
theorem SaAt.next {w0 : World} {ba : Nat} {s : Si} {noa nsa nua : Nat} {Oa : Option Addr} {cOa : Nat} {Sa : Option Addr} {cSa : Nat} {Ua : Option Addr} {cUa : Nat} {b0 : Nat} {s0 : Si} {no0 ns0 nu0 : Nat} {O0 : Option Addr} {cO0 : Nat} {S0 : Option Addr} {cS0 : Nat} {U0 : Option Addr} {cU0 : Nat} {b1 : Nat} {s1 : Si} {no1 ns1 nu1 : Nat} {O1 : Option Addr} {cO1 : Nat} {S1 : Option Addr} {cS1 : Nat} {U1 : Option Addr} {cU1 : Nat} {b2 : Nat} {s2 : Si} {no2 ns2 nu2 : Nat} {O2 : Option Addr} {cO2 : Nat} {S2 : Option Addr} {cS2 : Nat} {U2 : Option Addr} {cU2 : Nat} {b3 : Nat} {s3 : Si} {no3 ns3 nu3 : Nat} {O3 : Option Addr} {cO3 : Nat} {S3 : Option Addr} {cS3 : Nat} {U3 : Option Addr} {cU3 : Nat} {w w' : World} (h : SaAt w0 ba s noa nsa nua Oa cOa Sa cSa Ua cUa b0 s0 no0 ns0 nu0 O0 cO0 S0 cS0 U0 cU0 b1 s1 no1 ns1 nu1 O1 cO1 S1 cS1 U1 cU1 b2 s2 no2 ns2 nu2 O2 cO2 S2 cS2 U2 cU2 b3 s3 no3 ns3 nu3 O3 cO3 S3 cS3 U3 cU3 w) (hb : Below w.heap.size w w') : SaAt w0 ba s noa nsa nua Oa cOa Sa cSa Ua cUa b0 s0 no0 ns0 nu0 O0 cO0 S0 cS0 U0 cU0 b1 s1 no1 ns1 nu1 O1 cO1 S1 cS1 U1 cU1 b2 s2 no2 ns2 nu2 O2 cO2 S2 cS2 U2 cU2 b3 s3 no3 ns3 nu3 O3 cO3 S3 cS3 U3 cU3 w' :=
  ⟨h.va.next hb, h.v0.next hb, h.v1.next hb, h.v2.next hb, h.v3.next hb, below_next h.below hb⟩
set_option maxRecDepth 100000 in
set_option maxHeartbeats 4000000 in
theorem walkAdds {w : World} {s : Si} {noa nsa nua : Nat} {Oa : Option Addr} {cOa : Nat} {Sa : Option Addr} {cSa : Nat} {Ua : Option Addr} {cUa : Nat} (h : SkAt w s noa nsa nua Oa cOa Sa cSa Ua cUa) (hl : nsa ≤ 20 → Lim s) (r : Re) (n : Int) :
    Calls Try.prog 3 #[skV Oa noa cOa Sa nsa cSa s.last Ua nua cUa, reV r, .int .i64 n] w (TellsB true w) := by
  have VA : Hid (Var ((w.alloc (.cells (skC Oa noa cOa Sa nsa cSa s.last Ua nua cUa) 25)).alloc (.cells (reC r) 29)) w.heap.size s noa nsa nua Oa cOa Sa cSa Ua cUa) := Lib.hid ⟨(Lies.new w _ _).al, h.below (below_al (below_al (Below.refl _ _)))⟩
  have B0 : Hid (Below w.heap.size w ((w.alloc (.cells (skC Oa noa cOa Sa nsa cSa s.last Ua nua cUa) 25)).alloc (.cells (reC r) 29))) := Lib.hid (below_al (below_al (Below.refl _ _)))
  have LR := Lib.hid (Gen.lies_new1 w (.cells (skC Oa noa cOa Sa nsa cSa s.last Ua nua cUa) 25) (reC r) 29)
  have HSM := Lib.hid (fun w' => lawSmall noa nsa nua Oa cOa Sa cSa s.last Ua cUa w')
  obtain ⟨oA, hoA⟩ : ∃ o, o = addO s r := ⟨_, rfl⟩
  have HOA := Lib.hid hoA
  obtain ⟨oB, hoB⟩ : ∃ o, o = stageO s n := ⟨_, rfl⟩
  have HOB := Lib.hid hoB
  have HLS := Lib.hid hl
  clear h hl hoA hoB
  go_enter Try.func3, Try.ntmps3
  go_upto_region 1 with fail
  obtain ⟨ba, hba⟩ : ∃ b, b = w.heap.size := ⟨_, rfl⟩
  obtain ⟨br, hbr⟩ : ∃ b, b = w.heap.size + 1 := ⟨_, rfl⟩
  obtain ⟨W, hW⟩ : ∃ W, W = (w.alloc (.cells (skC Oa noa cOa Sa nsa cSa s.last Ua nua cUa) 25)).alloc (.cells (reC r) 29) := ⟨_, rfl⟩
  rw [← hW] at VA B0 LR ⊢
  rw [← hbr] at LR ⊢
  clear hbr
  rw [← hba] at VA ⊢
  clear hW hba
  have x0 := VA.out.l.cell (j := 0) rfl; have x1 := VA.out.l.cell (j := 1) rfl; have x2 := VA.out.l.cell (j := 2) rfl; have x3 := VA.out.l.cell (j := 3) rfl
  go_wp2_with fail
  refine (HSM.out _).mono ?_
  rintro e w1 ⟨rfl, hb⟩
  have VA := Lib.hid (VA.out.next hb)
  have B0 := Lib.hid (below_next B0.out hb)
  have LR := Lib.hid (LR.out.below hb)
  clear hb x0 x1 x2 x3
  by_cases hsm : nsa ≤ 20
  · have HLIM := Lib.hid (HLS.out hsm)
    rw [decide_eq_true hsm]
    clear hsm
    have x0 := VA.out.l.cell (j := 0) rfl; have x1 := VA.out.l.cell (j := 1) rfl; have x2 := VA.out.l.cell (j := 2) rfl; have x3 := VA.out.l.cell (j := 3) rfl
    have y0 := LR.out.cell (j := 0) rfl; have y1 := LR.out.cell (j := 1) rfl; have y2 := LR.out.cell (j := 2) rfl; have y3 := LR.out.cell (j := 3) rfl; have y4 := LR.out.cell (j := 4) rfl
    go_wp2_with fail
    refine (show Calls Try.prog 9 #[skV Oa noa cOa Sa nsa cSa s.last Ua nua cUa, reV r] _ (GivesSk oA _) from by rw [HOA.out]; exact ckAdd VA.out.at_ HLIM.out r).mono ?_
    rintro e w2 ⟨no0, ns0, nu0, O0, cO0, S0, cS0, U0, cU0, rfl, ha, hb⟩
    have VA := Lib.hid (VA.out.next hb)
    have LR := Lib.hid (LR.out.below hb)
    have B0 := Lib.hid (below_next B0.out hb)
    have HAK := Lib.hid ha
    clear ha hb x0 x1 x2 x3 y0 y1 y2 y3 y4
    go_upto_region 4 with fail
    have hb := below_al (o := .cells (skC O0 no0 cO0 S0 ns0 cS0 oA.1.last U0 nu0 cU0) 25) (Below.refl w2.heap.size w2)
    have V0 := Lib.hid (show Var _ w2.heap.size oA.1 no0 ns0 nu0 O0 cO0 S0 cS0 U0 cU0 from ⟨Lies.new w2 (skC O0 no0 cO0 S0 ns0 cS0 oA.1.last U0 nu0 cU0) _, HAK.out.below hb⟩)
    have VA := Lib.hid (VA.out.next hb)
    have LR := Lib.hid (LR.out.below hb)
    have B0 := Lib.hid (below_next B0.out hb)
    obtain ⟨b0, hbk⟩ : ∃ b, b = w2.heap.size := ⟨_, rfl⟩
    obtain ⟨W0, hW⟩ : ∃ X, X = w2.alloc (.cells (skC O0 no0 cO0 S0 ns0 cS0 oA.1.last U0 nu0 cU0) 25) := ⟨_, rfl⟩
    rw [← hW] at V0 B0 VA LR ⊢
    rw [← hbk] at V0 ⊢
    clear hW hbk hb HAK
    have x0 := VA.out.l.cell (j := 0) rfl; have x1 := VA.out.l.cell (j := 1) rfl; have x2 := VA.out.l.cell (j := 2) rfl; have x3 := VA.out.l.cell (j := 3) rfl
    have y0 := LR.out.cell (j := 0) rfl; have y1 := LR.out.cell (j := 1) rfl; have y2 := LR.out.cell (j := 2) rfl; have y3 := LR.out.cell (j := 3) rfl; have y4 := LR.out.cell (j := 4) rfl
    go_wp2_with fail
    refine (rfAdd VA.out.at_ r oA HOA.out).mono ?_
    rintro e w3 ⟨no1, ns1, nu1, O1, cO1, S1, cS1, U1, cU1, rfl, ha, hb⟩
    have VA := Lib.hid (VA.out.next hb)
    have V0 := Lib.hid (V0.out.next hb)
    have LR := Lib.hid (LR.out.below hb)
    have B0 := Lib.hid (below_next B0.out hb)
    have HAK := Lib.hid ha
    clear ha hb x0 x1 x2 x3 y0 y1 y2 y3 y4
    go_upto_region 5 with fail
    have hb := below_al (o := .cells (skC O1 no1 cO1 S1 ns1 cS1 oA.1.last U1 nu1 cU1) 25) (Below.refl w3.heap.size w3)
    have V1 := Lib.hid (show Var _ w3.heap.size oA.1 no1 ns1 nu1 O1 cO1 S1 cS1 U1 cU1 from ⟨Lies.new w3 (skC O1 no1 cO1 S1 ns1 cS1 oA.1.last U1 nu1 cU1) _, HAK.out.below hb⟩)
    have VA := Lib.hid (VA.out.next hb)
    have V0 := Lib.hid (V0.out.next hb)
    have LR := Lib.hid (LR.out.below hb)
    have B0 := Lib.hid (below_next B0.out hb)
    obtain ⟨b1, hbk⟩ : ∃ b, b = w3.heap.size := ⟨_, rfl⟩
    obtain ⟨W1, hW⟩ : ∃ X, X = w3.alloc (.cells (skC O1 no1 cO1 S1 ns1 cS1 oA.1.last U1 nu1 cU1) 25) := ⟨_, rfl⟩
    rw [← hW] at V1 B0 VA V0 LR ⊢
    rw [← hbk] at V1 ⊢
    clear hW hbk hb HAK
    have x0 := VA.out.l.cell (j := 0) rfl; have x1 := VA.out.l.cell (j := 1) rfl; have x2 := VA.out.l.cell (j := 2) rfl; have x3 := VA.out.l.cell (j := 3) rfl
    have y0 := LR.out.cell (j := 0) rfl; have y1 := LR.out.cell (j := 1) rfl; have y2 := LR.out.cell (j := 2) rfl; have y3 := LR.out.cell (j := 3) rfl; have y4 := LR.out.cell (j := 4) rfl
    go_wp2_with fail
    refine (show Calls Try.prog 11 #[skV Oa noa cOa Sa nsa cSa s.last Ua nua cUa, .int .i64 n] _ (GivesSk oB _) from by rw [HOB.out]; exact ckStage VA.out.at_ HLIM.out n).mono ?_
    rintro e w4 ⟨no2, ns2, nu2, O2, cO2, S2, cS2, U2, cU2, rfl, ha, hb⟩
    have VA := Lib.hid (VA.out.next hb)
    have V0 := Lib.hid (V0.out.next hb)
    have V1 := Lib.hid (V1.out.next hb)
    have LR := Lib.hid (LR.out.below hb)
    have B0 := Lib.hid (below_next B0.out hb)
    have HAK := Lib.hid ha
    clear ha hb x0 x1 x2 x3 y0 y1 y2 y3 y4
    go_upto_region 6 with fail
    have hb := below_al (o := .cells (skC O2 no2 cO2 S2 ns2 cS2 oB.1.last U2 nu2 cU2) 25) (Below.refl w4.heap.size w4)
    have V2 := Lib.hid (show Var _ w4.heap.size oB.1 no2 ns2 nu2 O2 cO2 S2 cS2 U2 cU2 from ⟨Lies.new w4 (skC O2 no2 cO2 S2 ns2 cS2 oB.1.last U2 nu2 cU2) _, HAK.out.below hb⟩)
    have VA := Lib.hid (VA.out.next hb)
    have V0 := Lib.hid (V0.out.next hb)
    have V1 := Lib.hid (V1.out.next hb)
    have LR := Lib.hid (LR.out.below hb)
    have B0 := Lib.hid (below_next B0.out hb)
    obtain ⟨b2, hbk⟩ : ∃ b, b = w4.heap.size := ⟨_, rfl⟩
    obtain ⟨W2, hW⟩ : ∃ X, X = w4.alloc (.cells (skC O2 no2 cO2 S2 ns2 cS2 oB.1.last U2 nu2 cU2) 25) := ⟨_, rfl⟩
    rw [← hW] at V2 B0 VA V0 V1 LR ⊢
    rw [← hbk] at V2 ⊢
    clear hW hbk hb HAK
    have x0 := VA.out.l.cell (j := 0) rfl; have x1 := VA.out.l.cell (j := 1) rfl; have x2 := VA.out.l.cell (j := 2) rfl; have x3 := VA.out.l.cell (j := 3) rfl
    have y0 := LR.out.cell (j := 0) rfl; have y1 := LR.out.cell (j := 1) rfl; have y2 := LR.out.cell (j := 2) rfl; have y3 := LR.out.cell (j := 3) rfl; have y4 := LR.out.cell (j := 4) rfl
    go_wp2_with fail
    refine (rfStage VA.out.at_ n oB HOB.out).mono ?_
    rintro e w5 ⟨no3, ns3, nu3, O3, cO3, S3, cS3, U3, cU3, rfl, ha, hb⟩
    have VA := Lib.hid (VA.out.next hb)
    have V0 := Lib.hid (V0.out.next hb)
    have V1 := Lib.hid (V1.out.next hb)
    have V2 := Lib.hid (V2.out.next hb)
    have LR := Lib.hid (LR.out.below hb)
    have B0 := Lib.hid (below_next B0.out hb)
    have HAK := Lib.hid ha
    clear ha hb x0 x1 x2 x3 y0 y1 y2 y3 y4
    go_upto_region 7 with fail
    have hb := below_al (o := .cells (skC O3 no3 cO3 S3 ns3 cS3 oB.1.last U3 nu3 cU3) 25) (Below.refl w5.heap.size w5)
    have V3 := Lib.hid (show Var _ w5.heap.size oB.1 no3 ns3 nu3 O3 cO3 S3 cS3 U3 cU3 from ⟨Lies.new w5 (skC O3 no3 cO3 S3 ns3 cS3 oB.1.last U3 nu3 cU3) _, HAK.out.below hb⟩)
    have VA := Lib.hid (VA.out.next hb)
    have V0 := Lib.hid (V0.out.next hb)
    have V1 := Lib.hid (V1.out.next hb)
    have V2 := Lib.hid (V2.out.next hb)
    have LR := Lib.hid (LR.out.below hb)
    have B0 := Lib.hid (below_next B0.out hb)
    obtain ⟨b3, hbk⟩ : ∃ b, b = w5.heap.size := ⟨_, rfl⟩
    obtain ⟨W3, hW⟩ : ∃ X, X = w5.alloc (.cells (skC O3 no3 cO3 S3 ns3 cS3 oB.1.last U3 nu3 cU3) 25) := ⟨_, rfl⟩
    rw [← hW] at V3 B0 VA V0 V1 V2 LR ⊢
    rw [← hbk] at V3 ⊢
    clear hW hbk hb HAK
    have K0 := Lib.hid (show SaAt w ba s noa nsa nua Oa cOa Sa cSa Ua cUa b0 oA.1 no0 ns0 nu0 O0 cO0 S0 cS0 U0 cU0 b1 oA.1 no1 ns1 nu1 O1 cO1 S1 cS1 U1 cU1 b2 oB.1 no2 ns2 nu2 O2 cO2 S2 cS2 U2 cU2 b3 oB.1 no3 ns3 nu3 O3 cO3 S3 cS3 U3 cU3 W3.drew from SaAt.next ⟨VA.out, V0.out, V1.out, V2.out, V3.out, B0.out⟩ (below_drewOf (Below.refl _ _)))
    have HLIKE : Hid (∀ w5, SaAt w ba s noa nsa nua Oa cOa Sa cSa Ua cUa b0 oA.1 no0 ns0 nu0 O0 cO0 S0 cS0 U0 cU0 b1 oA.1 no1 ns1 nu1 O1 cO1 S1 cS1 U1 cU1 b2 oB.1 no2 ns2 nu2 O2 cO2 S2 cS2 U2 cU2 b3 oB.1 no3 ns3 nu3 O3 cO3 S3 cS3 U3 cU3 w5 → ∀ a b : Value, (a = skV O0 no0 cO0 S0 ns0 cS0 oA.1.last U0 nu0 cU0 ∧ b = skV O1 no1 cO1 S1 ns1 cS1 oA.1.last U1 nu1 cU1) ∨ (a = skV O2 no2 cO2 S2 ns2 cS2 oB.1.last U2 nu2 cU2 ∧ b = skV O3 no3 cO3 S3 ns3 cS3 oB.1.last U3 nu3 cU3) → Calls Try.prog 16 #[a, b] w5 (TellsB true w5)) := Lib.hid (by
      rintro w5 h5 a b (⟨rfl, rfl⟩ | ⟨rfl, rfl⟩)
      · exact rfLikeS (by rw [HOA.out]; exact add_bd s r) h5.v0.at_ h5.v1.at_
      · exact rfLikeS (by rw [HOB.out]; exact stage_bd s n) h5.v2.at_ h5.v3.at_)
    obtain ⟨rt, hrt⟩ : ∃ r, r = rightS s := ⟨_, rfl⟩
    have HCR := Lib.hid (fun w5 (h5 : SaAt w ba s noa nsa nua Oa cOa Sa cSa Ua cUa b0 oA.1 no0 ns0 nu0 O0 cO0 S0 cS0 U0 cU0 b1 oA.1 no1 ns1 nu1 O1 cO1 S1 cS1 U1 cU1 b2 oB.1 no2 ns2 nu2 O2 cO2 S2 cS2 U2 cU2 b3 oB.1 no3 ns3 nu3 O3 cO3 S3 cS3 U3 cU3 w5) => ckRight h5.va.at_ HLIM.out)
    have HRR := Lib.hid (fun w5 (h5 : SaAt w ba s noa nsa nua Oa cOa Sa cSa Ua cUa b0 oA.1 no0 ns0 nu0 O0 cO0 S0 cS0 U0 cU0 b1 oA.1 no1 ns1 nu1 O1 cO1 S1 cS1 U1 cU1 b2 oB.1 no2 ns2 nu2 O2 cO2 S2 cS2 U2 cU2 b3 oB.1 no3 ns3 nu3 O3 cO3 S3 cS3 U3 cU3 w5) => rfRightA h5.va.at_)
    rw [← hrt] at HCR HRR
    clear hrt
    have eqoA : (oA.2 == oA.2) = true := by simp
    have eqoB : (oB.2 == oB.2) = true := by simp
    have HAL := Lib.hid (fun w5 => lawAlive w5)
    clear VA V0 V1 V2 V3 LR B0
    refine wide_all (SaAt w ba s noa nsa nua Oa cOa Sa cSa Ua cUa b0 oA.1 no0 ns0 nu0 O0 cO0 S0 cS0 U0 cU0 b1 oA.1 no1 ns1 nu1 O1 cO1 S1 cS1 U1 cU1 b2 oB.1 no2 ns2 nu2 O2 cO2 S2 cS2 U2 cU2 b3 oB.1 no3 ns3 nu3 O3 cO3 S3 cS3 U3 cU3) (by kernel_rfl) (by kernel_rfl) K0.out ?_
    (try simp only [List.append_eq, List.cons_append, List.nil_append])
    repeat (first
      | go_big_quiet_skip
      | (go_big_quiet_want
         apply wide_op
         · (intro w5 h5; have x0 := h5.va.l.cell (j := 0) rfl; have x1 := h5.va.l.cell (j := 1) rfl; have x2 := h5.va.l.cell (j := 2) rfl; have x3 := h5.va.l.cell (j := 3) rfl; have z00 := h5.v0.l.cell (j := 0) rfl; have z01 := h5.v0.l.cell (j := 1) rfl; have z02 := h5.v0.l.cell (j := 2) rfl; have z03 := h5.v0.l.cell (j := 3) rfl; have z10 := h5.v1.l.cell (j := 0) rfl; have z11 := h5.v1.l.cell (j := 1) rfl; have z12 := h5.v1.l.cell (j := 2) rfl; have z13 := h5.v1.l.cell (j := 3) rfl; have z20 := h5.v2.l.cell (j := 0) rfl; have z21 := h5.v2.l.cell (j := 1) rfl; have z22 := h5.v2.l.cell (j := 2) rfl; have z23 := h5.v2.l.cell (j := 3) rfl; have z30 := h5.v3.l.cell (j := 0) rfl; have z31 := h5.v3.l.cell (j := 1) rfl; have z32 := h5.v3.l.cell (j := 2) rfl; have z33 := h5.v3.l.cell (j := 3) rfl; go_simp; first | done | with_reducible rfl | (go_at_call 13; refine (HAL.out _).mono ?_; rintro e w6 ⟨rfl, hb6⟩; exact ⟨rfl, h5.next hb6⟩) | (go_at_call 14; refine (HCR.out _ h5).mono ?_; rintro e w6 ⟨rfl, hb6⟩; exact ⟨rfl, h5.next hb6⟩) | (go_at_call 15; refine (HRR.out _ h5).mono ?_; rintro e w6 ⟨rfl, hb6⟩; exact ⟨rfl, h5.next hb6⟩) | (go_at_call 16; refine (HLIKE.out _ h5 _ _ (by first | exact Or.inl ⟨rfl, rfl⟩ | exact Or.inr (⟨rfl, rfl⟩))).mono ?_; rintro e w6 ⟨rfl, hb6⟩; exact ⟨rfl, h5.next hb6⟩))
         (try simp only [Act.put, List.setIfInBounds_toArray, List.set_cons_zero, List.set_cons_succ])
         go_big_quiet_on))
    refine wpQuiet_nil ?_
    intro w6 h6
    have H6 := Lib.hid h6.below
    clear h6 K0
    go_wp2_with fail
    go_ret
    exact ⟨rfl, H6.out⟩
  · rw [decide_eq_false hsm]
    clear hsm
    go_wp2_with fail
    go_ret
    exact ⟨rfl, B0.out⟩
/-- What the end of SinkCommits reads. -/
structure ScAt (w0 : World) (ba : Nat) (s : Si) (noa nsa nua : Nat) (Oa : Option Addr) (cOa : Nat) (Sa : Option Addr) (cSa : Nat) (Ua : Option Addr) (cUa : Nat) (b0 : Nat) (s0 : Si) (no0 ns0 nu0 : Nat) (O0 : Option Addr) (cO0 : Nat) (S0 : Option Addr) (cS0 : Nat) (U0 : Option Addr) (cU0 : Nat) (b1 : Nat) (s1 : Si) (no1 ns1 nu1 : Nat) (O1 : Option Addr) (cO1 : Nat) (S1 : Option Addr) (cS1 : Nat) (U1 : Option Addr) (cU1 : Nat) (b2 : Nat) (s2 : Si) (no2 ns2 nu2 : Nat) (O2 : Option Addr) (cO2 : Nat) (S2 : Option Addr) (cS2 : Nat) (U2 : Option Addr) (cU2 : Nat) (b3 : Nat) (s3 : Si) (no3 ns3 nu3 : Nat) (O3 : Option Addr) (cO3 : Nat) (S3 : Option Addr) (cS3 : Nat) (U3 : Option Addr) (cU3 : Nat) (w : World) : Prop where
  va : Var w ba s noa nsa nua Oa cOa Sa cSa Ua cUa
  v0 : Var w b0 s0 no0 ns0 nu0 O0 cO0 S0 cS0 U0 cU0
  v1 : Var w b1 s1 no1 ns1 nu1 O1 cO1 S1 cS1 U1 cU1
  v2 : Var w b2 s2 no2 ns2 nu2 O2 cO2 S2 cS2 U2 cU2
  v3 : Var w b3 s3 no3 ns3 nu3 O3 cO3 S3 cS3 U3 cU3
  below : Below w0.heap.size w0 w
theorem ScAt.next {w0 : World} {ba : Nat} {s : Si} {noa nsa nua : Nat} {Oa : Option Addr} {cOa : Nat} {Sa : Option Addr} {cSa : Nat} {Ua : Option Addr} {cUa : Nat} {b0 : Nat} {s0 : Si} {no0 ns0 nu0 : Nat} {O0 : Option Addr} {cO0 : Nat} {S0 : Option Addr} {cS0 : Nat} {U0 : Option Addr} {cU0 : Nat} {b1 : Nat} {s1 : Si} {no1 ns1 nu1 : Nat} {O1 : Option Addr} {cO1 : Nat} {S1 : Option Addr} {cS1 : Nat} {U1 : Option Addr} {cU1 : Nat} {b2 : Nat} {s2 : Si} {no2 ns2 nu2 : Nat} {O2 : Option Addr} {cO2 : Nat} {S2 : Option Addr} {cS2 : Nat} {U2 : Option Addr} {cU2 : Nat} {b3 : Nat} {s3 : Si} {no3 ns3 nu3 : Nat} {O3 : Option Addr} {cO3 : Nat} {S3 : Option Addr} {cS3 : Nat} {U3 : Option Addr} {cU3 : Nat} {w w' : World} (h : ScAt w0 ba s noa nsa nua Oa cOa Sa cSa Ua cUa b0 s0 no0 ns0 nu0 O0 cO0 S0 cS0 U0 cU0 b1 s1 no1 ns1 nu1 O1 cO1 S1 cS1 U1 cU1 b2 s2 no2 ns2 nu2 O2 cO2 S2 cS2 U2 cU2 b3 s3 no3 ns3 nu3 O3 cO3 S3 cS3 U3 cU3 w) (hb : Below w.heap.size w w') : ScAt w0 ba s noa nsa nua Oa cOa Sa cSa Ua cUa b0 s0 no0 ns0 nu0 O0 cO0 S0 cS0 U0 cU0 b1 s1 no1 ns1 nu1 O1 cO1 S1 cS1 U1 cU1 b2 s2 no2 ns2 nu2 O2 cO2 S2 cS2 U2 cU2 b3 s3 no3 ns3 nu3 O3 cO3 S3 cS3 U3 cU3 w' :=
  ⟨h.va.next hb, h.v0.next hb, h.v1.next hb, h.v2.next hb, h.v3.next hb, below_next h.below hb⟩
set_option maxRecDepth 100000 in
set_option maxHeartbeats 4000000 in
theorem walkCommits {w : World} {s : Si} {noa nsa nua : Nat} {Oa : Option Addr} {cOa : Nat} {Sa : Option Addr} {cSa : Nat} {Ua : Option Addr} {cUa : Nat} (h : SkAt w s noa nsa nua Oa cOa Sa cSa Ua cUa) (hl : nsa ≤ 20 → Lim s) (n : Int) :
    Calls Try.prog 4 #[skV Oa noa cOa Sa nsa cSa s.last Ua nua cUa, .int .i64 n] w (TellsB true w) := by
  have VA : Hid (Var (w.alloc (.cells (skC Oa noa cOa Sa nsa cSa s.last Ua nua cUa) 25)) w.heap.size s noa nsa nua Oa cOa Sa cSa Ua cUa) := Lib.hid ⟨Lies.new w _ _, h.below (below_al (Below.refl _ _))⟩
  have B0 : Hid (Below w.heap.size w (w.alloc (.cells (skC Oa noa cOa Sa nsa cSa s.last Ua nua cUa) 25))) := Lib.hid (below_al (Below.refl _ _))
  have HSM := Lib.hid (fun w' => lawSmall noa nsa nua Oa cOa Sa cSa s.last Ua cUa w')
  obtain ⟨oA, hoA⟩ : ∃ o, o = commitO s n := ⟨_, rfl⟩
  have HOA := Lib.hid hoA
  obtain ⟨oB, hoB⟩ : ∃ o, o = abortO s := ⟨_, rfl⟩
  have HOB := Lib.hid hoB
  have HLS := Lib.hid hl
  clear h hl hoA hoB
  go_enter Try.func4, Try.ntmps4
  go_upto_region 1 with fail
  obtain ⟨ba, hba⟩ : ∃ b, b = w.heap.size := ⟨_, rfl⟩
  obtain ⟨W, hW⟩ : ∃ W, W = w.alloc (.cells (skC Oa noa cOa Sa nsa cSa s.last Ua nua cUa) 25) := ⟨_, rfl⟩
  rw [← hW] at VA B0  ⊢
  rw [← hba] at VA ⊢
  clear hW hba
  have x0 := VA.out.l.cell (j := 0) rfl; have x1 := VA.out.l.cell (j := 1) rfl; have x2 := VA.out.l.cell (j := 2) rfl; have x3 := VA.out.l.cell (j := 3) rfl
  go_wp2_with fail
  refine (HSM.out _).mono ?_
  rintro e w1 ⟨rfl, hb⟩
  have VA := Lib.hid (VA.out.next hb)
  have B0 := Lib.hid (below_next B0.out hb)
  clear hb x0 x1 x2 x3
  by_cases hsm : nsa ≤ 20
  · have HLIM := Lib.hid (HLS.out hsm)
    rw [decide_eq_true hsm]
    clear hsm
    have x0 := VA.out.l.cell (j := 0) rfl; have x1 := VA.out.l.cell (j := 1) rfl; have x2 := VA.out.l.cell (j := 2) rfl; have x3 := VA.out.l.cell (j := 3) rfl
    go_wp2_with fail
    refine (show Calls Try.prog 17 #[skV Oa noa cOa Sa nsa cSa s.last Ua nua cUa, .int .i64 n] _ (GivesSk oA _) from by rw [HOA.out]; exact ckCommit VA.out.at_ HLIM.out n).mono ?_
    rintro e w2 ⟨no0, ns0, nu0, O0, cO0, S0, cS0, U0, cU0, rfl, ha, hb⟩
    have VA := Lib.hid (VA.out.next hb)
    have B0 := Lib.hid (below_next B0.out hb)
    have HAK := Lib.hid ha
    clear ha hb x0 x1 x2 x3
    go_upto_region 4 with fail
    have hb := below_al (o := .cells (skC O0 no0 cO0 S0 ns0 cS0 oA.1.last U0 nu0 cU0) 25) (Below.refl w2.heap.size w2)
    have V0 := Lib.hid (show Var _ w2.heap.size oA.1 no0 ns0 nu0 O0 cO0 S0 cS0 U0 cU0 from ⟨Lies.new w2 (skC O0 no0 cO0 S0 ns0 cS0 oA.1.last U0 nu0 cU0) _, HAK.out.below hb⟩)
    have VA := Lib.hid (VA.out.next hb)
    have B0 := Lib.hid (below_next B0.out hb)
    obtain ⟨b0, hbk⟩ : ∃ b, b = w2.heap.size := ⟨_, rfl⟩
    obtain ⟨W0, hW⟩ : ∃ X, X = w2.alloc (.cells (skC O0 no0 cO0 S0 ns0 cS0 oA.1.last U0 nu0 cU0) 25) := ⟨_, rfl⟩
    rw [← hW] at V0 B0 VA ⊢
    rw [← hbk] at V0 ⊢
    clear hW hbk hb HAK
    have x0 := VA.out.l.cell (j := 0) rfl; have x1 := VA.out.l.cell (j := 1) rfl; have x2 := VA.out.l.cell (j := 2) rfl; have x3 := VA.out.l.cell (j := 3) rfl
    go_wp2_with fail
    refine (rfCommit VA.out.at_ n oA HOA.out).mono ?_
    rintro e w3 ⟨no1, ns1, nu1, O1, cO1, S1, cS1, U1, cU1, rfl, ha, hb⟩
    have VA := Lib.hid (VA.out.next hb)
    have V0 := Lib.hid (V0.out.next hb)
    have B0 := Lib.hid (below_next B0.out hb)
    have HAK := Lib.hid ha
    clear ha hb x0 x1 x2 x3
    go_upto_region 5 with fail
    have hb := below_al (o := .cells (skC O1 no1 cO1 S1 ns1 cS1 oA.1.last U1 nu1 cU1) 25) (Below.refl w3.heap.size w3)
    have V1 := Lib.hid (show Var _ w3.heap.size oA.1 no1 ns1 nu1 O1 cO1 S1 cS1 U1 cU1 from ⟨Lies.new w3 (skC O1 no1 cO1 S1 ns1 cS1 oA.1.last U1 nu1 cU1) _, HAK.out.below hb⟩)
    have VA := Lib.hid (VA.out.next hb)
    have V0 := Lib.hid (V0.out.next hb)
    have B0 := Lib.hid (below_next B0.out hb)
    obtain ⟨b1, hbk⟩ : ∃ b, b = w3.heap.size := ⟨_, rfl⟩
    obtain ⟨W1, hW⟩ : ∃ X, X = w3.alloc (.cells (skC O1 no1 cO1 S1 ns1 cS1 oA.1.last U1 nu1 cU1) 25) := ⟨_, rfl⟩
    rw [← hW] at V1 B0 VA V0 ⊢
    rw [← hbk] at V1 ⊢
    clear hW hbk hb HAK
    have x0 := VA.out.l.cell (j := 0) rfl; have x1 := VA.out.l.cell (j := 1) rfl; have x2 := VA.out.l.cell (j := 2) rfl; have x3 := VA.out.l.cell (j := 3) rfl
    go_wp2_with fail
    refine (show Calls Try.prog 19 #[skV Oa noa cOa Sa nsa cSa s.last Ua nua cUa] _ (GivesSk oB _) from by rw [HOB.out]; exact ckAbort VA.out.at_ HLIM.out).mono ?_
    rintro e w4 ⟨no2, ns2, nu2, O2, cO2, S2, cS2, U2, cU2, rfl, ha, hb⟩
    have VA := Lib.hid (VA.out.next hb)
    have V0 := Lib.hid (V0.out.next hb)
    have V1 := Lib.hid (V1.out.next hb)
    have B0 := Lib.hid (below_next B0.out hb)
    have HAK := Lib.hid ha
    clear ha hb x0 x1 x2 x3
    go_upto_region 6 with fail
    have hb := below_al (o := .cells (skC O2 no2 cO2 S2 ns2 cS2 oB.1.last U2 nu2 cU2) 25) (Below.refl w4.heap.size w4)
    have V2 := Lib.hid (show Var _ w4.heap.size oB.1 no2 ns2 nu2 O2 cO2 S2 cS2 U2 cU2 from ⟨Lies.new w4 (skC O2 no2 cO2 S2 ns2 cS2 oB.1.last U2 nu2 cU2) _, HAK.out.below hb⟩)
    have VA := Lib.hid (VA.out.next hb)
    have V0 := Lib.hid (V0.out.next hb)
    have V1 := Lib.hid (V1.out.next hb)
    have B0 := Lib.hid (below_next B0.out hb)
    obtain ⟨b2, hbk⟩ : ∃ b, b = w4.heap.size := ⟨_, rfl⟩
    obtain ⟨W2, hW⟩ : ∃ X, X = w4.alloc (.cells (skC O2 no2 cO2 S2 ns2 cS2 oB.1.last U2 nu2 cU2) 25) := ⟨_, rfl⟩
    rw [← hW] at V2 B0 VA V0 V1 ⊢
    rw [← hbk] at V2 ⊢
    clear hW hbk hb HAK
    have x0 := VA.out.l.cell (j := 0) rfl; have x1 := VA.out.l.cell (j := 1) rfl; have x2 := VA.out.l.cell (j := 2) rfl; have x3 := VA.out.l.cell (j := 3) rfl
    go_wp2_with fail
    refine (rfAbort VA.out.at_ oB HOB.out).mono ?_
    rintro e w5 ⟨no3, ns3, nu3, O3, cO3, S3, cS3, U3, cU3, rfl, ha, hb⟩
    have VA := Lib.hid (VA.out.next hb)
    have V0 := Lib.hid (V0.out.next hb)
    have V1 := Lib.hid (V1.out.next hb)
    have V2 := Lib.hid (V2.out.next hb)
    have B0 := Lib.hid (below_next B0.out hb)
    have HAK := Lib.hid ha
    clear ha hb x0 x1 x2 x3
    go_upto_region 7 with fail
    have hb := below_al (o := .cells (skC O3 no3 cO3 S3 ns3 cS3 oB.1.last U3 nu3 cU3) 25) (Below.refl w5.heap.size w5)
    have V3 := Lib.hid (show Var _ w5.heap.size oB.1 no3 ns3 nu3 O3 cO3 S3 cS3 U3 cU3 from ⟨Lies.new w5 (skC O3 no3 cO3 S3 ns3 cS3 oB.1.last U3 nu3 cU3) _, HAK.out.below hb⟩)
    have VA := Lib.hid (VA.out.next hb)
    have V0 := Lib.hid (V0.out.next hb)
    have V1 := Lib.hid (V1.out.next hb)
    have V2 := Lib.hid (V2.out.next hb)
    have B0 := Lib.hid (below_next B0.out hb)
    obtain ⟨b3, hbk⟩ : ∃ b, b = w5.heap.size := ⟨_, rfl⟩
    obtain ⟨W3, hW⟩ : ∃ X, X = w5.alloc (.cells (skC O3 no3 cO3 S3 ns3 cS3 oB.1.last U3 nu3 cU3) 25) := ⟨_, rfl⟩
    rw [← hW] at V3 B0 VA V0 V1 V2 ⊢
    rw [← hbk] at V3 ⊢
    clear hW hbk hb HAK
    have K0 := Lib.hid (show ScAt w ba s noa nsa nua Oa cOa Sa cSa Ua cUa b0 oA.1 no0 ns0 nu0 O0 cO0 S0 cS0 U0 cU0 b1 oA.1 no1 ns1 nu1 O1 cO1 S1 cS1 U1 cU1 b2 oB.1 no2 ns2 nu2 O2 cO2 S2 cS2 U2 cU2 b3 oB.1 no3 ns3 nu3 O3 cO3 S3 cS3 U3 cU3 W3 from ⟨VA.out, V0.out, V1.out, V2.out, V3.out, B0.out⟩)
    have HLIKE : Hid (∀ w5, ScAt w ba s noa nsa nua Oa cOa Sa cSa Ua cUa b0 oA.1 no0 ns0 nu0 O0 cO0 S0 cS0 U0 cU0 b1 oA.1 no1 ns1 nu1 O1 cO1 S1 cS1 U1 cU1 b2 oB.1 no2 ns2 nu2 O2 cO2 S2 cS2 U2 cU2 b3 oB.1 no3 ns3 nu3 O3 cO3 S3 cS3 U3 cU3 w5 → ∀ a b : Value, (a = skV O0 no0 cO0 S0 ns0 cS0 oA.1.last U0 nu0 cU0 ∧ b = skV O1 no1 cO1 S1 ns1 cS1 oA.1.last U1 nu1 cU1) ∨ (a = skV O2 no2 cO2 S2 ns2 cS2 oB.1.last U2 nu2 cU2 ∧ b = skV O3 no3 cO3 S3 ns3 cS3 oB.1.last U3 nu3 cU3) → Calls Try.prog 16 #[a, b] w5 (TellsB true w5)) := Lib.hid (by
      rintro w5 h5 a b (⟨rfl, rfl⟩ | ⟨rfl, rfl⟩)
      · exact rfLikeS (by rw [HOA.out]; exact commit_bd s n) h5.v0.at_ h5.v1.at_
      · exact rfLikeS (by rw [HOB.out]; exact abort_bd s) h5.v2.at_ h5.v3.at_)
    have eqoA : (oA.2 == oA.2) = true := by simp
    have eqoB : (oB.2 == oB.2) = true := by simp
    have HAL := Lib.hid (fun w5 => lawAlive w5)
    clear VA V0 V1 V2 V3 B0
    have z00 := K0.out.v0.l.cell (j := 0) rfl; have z01 := K0.out.v0.l.cell (j := 1) rfl; have z02 := K0.out.v0.l.cell (j := 2) rfl; have z03 := K0.out.v0.l.cell (j := 3) rfl; have z10 := K0.out.v1.l.cell (j := 0) rfl; have z11 := K0.out.v1.l.cell (j := 1) rfl; have z12 := K0.out.v1.l.cell (j := 2) rfl; have z13 := K0.out.v1.l.cell (j := 3) rfl; have z20 := K0.out.v2.l.cell (j := 0) rfl; have z21 := K0.out.v2.l.cell (j := 1) rfl; have z22 := K0.out.v2.l.cell (j := 2) rfl; have z23 := K0.out.v2.l.cell (j := 3) rfl; have z30 := K0.out.v3.l.cell (j := 0) rfl; have z31 := K0.out.v3.l.cell (j := 1) rfl; have z32 := K0.out.v3.l.cell (j := 2) rfl; have z33 := K0.out.v3.l.cell (j := 3) rfl
    go_wp2_with fail
    refine (HAL.out _).mono ?_
    rintro e w6 ⟨rfl, hb6⟩
    have K0 := Lib.hid (K0.out.next hb6)
    clear hb6 z00 z01 z02 z03 z10 z11 z12 z13 z20 z21 z22 z23 z30 z31 z32 z33
    have z00 := K0.out.v0.l.cell (j := 0) rfl; have z01 := K0.out.v0.l.cell (j := 1) rfl; have z02 := K0.out.v0.l.cell (j := 2) rfl; have z03 := K0.out.v0.l.cell (j := 3) rfl; have z10 := K0.out.v1.l.cell (j := 0) rfl; have z11 := K0.out.v1.l.cell (j := 1) rfl; have z12 := K0.out.v1.l.cell (j := 2) rfl; have z13 := K0.out.v1.l.cell (j := 3) rfl; have z20 := K0.out.v2.l.cell (j := 0) rfl; have z21 := K0.out.v2.l.cell (j := 1) rfl; have z22 := K0.out.v2.l.cell (j := 2) rfl; have z23 := K0.out.v2.l.cell (j := 3) rfl; have z30 := K0.out.v3.l.cell (j := 0) rfl; have z31 := K0.out.v3.l.cell (j := 1) rfl; have z32 := K0.out.v3.l.cell (j := 2) rfl; have z33 := K0.out.v3.l.cell (j := 3) rfl
    go_wp2_with fail
    refine (HLIKE.out _ K0.out _ _ (Or.inl ⟨rfl, rfl⟩)).mono ?_
    rintro e w6 ⟨rfl, hb6⟩
    have K0 := Lib.hid (K0.out.next hb6)
    clear hb6 z00 z01 z02 z03 z10 z11 z12 z13 z20 z21 z22 z23 z30 z31 z32 z33
    have z00 := K0.out.v0.l.cell (j := 0) rfl; have z01 := K0.out.v0.l.cell (j := 1) rfl; have z02 := K0.out.v0.l.cell (j := 2) rfl; have z03 := K0.out.v0.l.cell (j := 3) rfl; have z10 := K0.out.v1.l.cell (j := 0) rfl; have z11 := K0.out.v1.l.cell (j := 1) rfl; have z12 := K0.out.v1.l.cell (j := 2) rfl; have z13 := K0.out.v1.l.cell (j := 3) rfl; have z20 := K0.out.v2.l.cell (j := 0) rfl; have z21 := K0.out.v2.l.cell (j := 1) rfl; have z22 := K0.out.v2.l.cell (j := 2) rfl; have z23 := K0.out.v2.l.cell (j := 3) rfl; have z30 := K0.out.v3.l.cell (j := 0) rfl; have z31 := K0.out.v3.l.cell (j := 1) rfl; have z32 := K0.out.v3.l.cell (j := 2) rfl; have z33 := K0.out.v3.l.cell (j := 3) rfl
    go_wp2_with fail
    refine (HLIKE.out _ K0.out _ _ (Or.inr (⟨rfl, rfl⟩))).mono ?_
    rintro e w6 ⟨rfl, hb6⟩
    have K0 := Lib.hid (K0.out.next hb6)
    clear hb6 z00 z01 z02 z03 z10 z11 z12 z13 z20 z21 z22 z23 z30 z31 z32 z33
    go_wp2_with fail
    go_ret
    exact ⟨rfl, K0.out.below⟩
  · rw [decide_eq_false hsm]
    clear hsm
    go_wp2_with fail
    go_ret
    exact ⟨rfl, B0.out⟩
end Sk
end Go.Proofs.Ytmkbdlailffjeaa
