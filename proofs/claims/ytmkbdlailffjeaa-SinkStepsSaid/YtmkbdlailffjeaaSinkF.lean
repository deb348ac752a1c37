/- The walk of SinkAgain. -/
import Derived.Test.YtmkbdlailffjeaaSinkB
import Derived.Test.YtmkbdlailffjeaaSinkN
namespace Go.Proofs.Ytmkbdlailffjeaa
open Go.ChangeShapes Go.WideShapes Go.ChangeAt Go.RowKit
set_option linter.unusedVariables false
set_option maxRecDepth 8000
namespace Sk
open Gen (TellsB row_one flat_len flat_get Mine)
theorem rfLikeO {w : World} {s s' : Si} (hB : Bd s) (he : s'.out = s.out) {no ns nu : Nat} {O : Option Addr} {cO : Nat} {S : Option Addr} {cS : Nat} {U : Option Addr} {cU : Nat} {no' ns' : Nat} {O' : Option Addr} {cO' : Nat} {S' : Option Addr} {cS' : Nat} {U' : Option Addr} {cU' : Nat} (h : SkAt w s no ns nu O cO S cS U cU) (k : SkAt w s' no' ns' nu O' cO' S' cS' U' cU') :
    Calls Try.prog 21 #[.slice U' nu cU', .slice U nu cU] w (TellsB true w) := by
  obtain ⟨sg, h1⟩ := h
  obtain ⟨sg', k1⟩ := k
  have := hB.u
  have := h1.lnu
  exact rfLikeRes s.out nu h1.lnu (by omega) U' U cU' cU w (by rw [← he]; exact k1.ru) h1.ru
/-- What the end of SinkAgain reads. -/
structure AgAt (w0 : World) (sa sx : Si) (b0 : Nat) (no0 ns0 nu0 : Nat) (O0 : Option Addr) (cO0 : Nat) (S0 : Option Addr) (cS0 : Nat) (U0 : Option Addr) (cU0 : Nat) (b1 : Nat) (no1 ns1 nu1 : Nat) (O1 : Option Addr) (cO1 : Nat) (S1 : Option Addr) (cS1 : Nat) (U1 : Option Addr) (cU1 : Nat) (b2 : Nat) (no2 ns2 nu2 : Nat) (O2 : Option Addr) (cO2 : Nat) (S2 : Option Addr) (cS2 : Nat) (U2 : Option Addr) (cU2 : Nat) (b3 : Nat) (O3 : Option Addr) (cO3 : Nat) (S3 : Option Addr) (cS3 : Nat) (U3 : Option Addr) (cU3 : Nat) (b4 : Nat) (no4 ns4 nu4 : Nat) (O4 : Option Addr) (cO4 : Nat) (S4 : Option Addr) (cS4 : Nat) (U4 : Option Addr) (cU4 : Nat) (w : World) : Prop where
  v0 : Var w b0 sa no0 ns0 nu0 O0 cO0 S0 cS0 U0 cU0
  v1 : Var w b1 sa no1 ns1 nu1 O1 cO1 S1 cS1 U1 cU1
  v2 : Var w b2 sa no2 ns2 nu2 O2 cO2 S2 cS2 U2 cU2
  v3 : Var w b3 sx 0 0 nu0 O3 cO3 S3 cS3 U3 cU3
  v4 : Var w b4 sx no4 ns4 nu4 O4 cO4 S4 cS4 U4 cU4
  below : Below w0.heap.size w0 w
theorem AgAt.next {w0 : World} {sa sx : Si} {b0 : Nat} {no0 ns0 nu0 : Nat} {O0 : Option Addr} {cO0 : Nat} {S0 : Option Addr} {cS0 : Nat} {U0 : Option Addr} {cU0 : Nat} {b1 : Nat} {no1 ns1 nu1 : Nat} {O1 : Option Addr} {cO1 : Nat} {S1 : Option Addr} {cS1 : Nat} {U1 : Option Addr} {cU1 : Nat} {b2 : Nat} {no2 ns2 nu2 : Nat} {O2 : Option Addr} {cO2 : Nat} {S2 : Option Addr} {cS2 : Nat} {U2 : Option Addr} {cU2 : Nat} {b3 : Nat} {O3 : Option Addr} {cO3 : Nat} {S3 : Option Addr} {cS3 : Nat} {U3 : Option Addr} {cU3 : Nat} {b4 : Nat} {no4 ns4 nu4 : Nat} {O4 : Option Addr} {cO4 : Nat} {S4 : Option Addr} {cS4 : Nat} {U4 : Option Addr} {cU4 : Nat} {w w' : World} (h : AgAt w0 sa sx b0 no0 ns0 nu0 O0 cO0 S0 cS0 U0 cU0 b1 no1 ns1 nu1 O1 cO1 S1 cS1 U1 cU1 b2 no2 ns2 nu2 O2 cO2 S2 cS2 U2 cU2 b3 O3 cO3 S3 cS3 U3 cU3 b4 no4 ns4 nu4 O4 cO4 S4 cS4 U4 cU4 w) (hb : Below w.heap.size w w') : AgAt w0 sa sx b0 no0 ns0 nu0 O0 cO0 S0 cS0 U0 cU0 b1 no1 ns1 nu1 O1 cO1 S1 cS1 U1 cU1 b2 no2 ns2 nu2 O2 cO2 S2 cS2 U2 cU2 b3 O3 cO3 S3 cS3 U3 cU3 b4 no4 ns4 nu4 O4 cO4 S4 cS4 U4 cU4 w' :=
  ⟨h.v0.next hb, h.v1.next hb, h.v2.next hb, h.v3.next hb, h.v4.next hb, below_next h.below hb⟩
set_option maxRecDepth 100000 in
set_option maxHeartbeats 4000000 in
theorem walkAgain {w : World} {s : Si} {noa nsa nua : Nat} {Oa : Option Addr} {cOa : Nat} {Sa : Option Addr} {cSa : Nat} {Ua : Option Addr} {cUa : Nat} (h : SkAt w s noa nsa nua Oa cOa Sa cSa Ua cUa) (hl : nsa ≤ 20 → Lim s) (n m : Int) :
    Calls Try.prog 6 #[skV Oa noa cOa Sa nsa cSa s.last Ua nua cUa, .int .i64 n, .int .i64 m] w (TellsB true w) := by
  have VA : Hid (Var (w.alloc (.cells (skC Oa noa cOa Sa nsa cSa s.last Ua nua cUa) 25)) w.heap.size s noa nsa nua Oa cOa Sa cSa Ua cUa) := Lib.hid ⟨Lies.new w _ _, h.below (below_al (Below.refl _ _))⟩
  have B0 : Hid (Below w.heap.size w (w.alloc (.cells (skC Oa noa cOa Sa nsa cSa s.last Ua nua cUa) 25))) := Lib.hid (below_al (Below.refl _ _))
  have HSM := Lib.hid (fun w' => lawSmall noa nsa nua Oa cOa Sa cSa s.last Ua cUa w')
  have HAL := Lib.hid (fun w' => lawAlive w')
  obtain ⟨oA, hoA⟩ : ∃ o, o = commitO s n := ⟨_, rfl⟩
  have HOA := Lib.hid hoA
  have HLS := Lib.hid hl
  clear h hl hoA
  go_enter Try.func6, Try.ntmps6
  go_upto_region 1 with fail
  obtain ⟨ba, hba⟩ : ∃ b, b = w.heap.size := ⟨_, rfl⟩
  obtain ⟨W, hW⟩ : ∃ W, W = w.alloc (.cells (skC Oa noa cOa Sa nsa cSa s.last Ua nua cUa) 25) := ⟨_, rfl⟩
  rw [← hW] at VA B0 ⊢
  rw [← hba] at VA ⊢
  clear hW hba
  have x0 := VA.out.l.cell (j := 0) rfl; have x1 := VA.out.l.cell (j := 1) rfl; have x2 := VA.out.l.cell (j := 2) rfl; have x3 := VA.out.l.cell (j := 3) rfl
  go_wp2_with fail
  refine (HSM.out _).mono ?_
  rintro e w1 ⟨rfl, hb⟩
  have VA := Lib.hid (VA.out.next hb)
  have B0 := Lib.hid (below_next B0.out hb)
  clear hb x0 x1 x2 x3
  by_cases hsm : nsa ≤ 20
  · have HLIM := Lib.hid (HLS.out hsm)
    rw [decide_eq_true hsm]
    clear hsm
    have x0 := VA.out.l.cell (j := 0) rfl; have x1 := VA.out.l.cell (j := 1) rfl; have x2 := VA.out.l.cell (j := 2) rfl; have x3 := VA.out.l.cell (j := 3) rfl
    go_wp2_with fail
    refine (show Calls Try.prog 17 #[skV Oa noa cOa Sa nsa cSa s.last Ua nua cUa, .int .i64 n] _ (GivesSk oA _) from by rw [HOA.out]; exact ckCommit VA.out.at_ HLIM.out n).mono ?_
    rintro e w2 ⟨no0, ns0, nu0, O0, cO0, S0, cS0, U0, cU0, rfl, ha, hb⟩
    have B0 := Lib.hid (below_next B0.out hb)
    have HAK := Lib.hid ha
    clear ha hb x0 x1 x2 x3 VA HLIM HLS HSM
    obtain ⟨sa, ea⟩ := oA
    simp only at HAK ⊢
    go_upto_region 4 with fail
    have hb := below_al (o := .cells (skC O0 no0 cO0 S0 ns0 cS0 sa.last U0 nu0 cU0) 25) (Below.refl w2.heap.size w2)
    have V0 := Lib.hid (show Var _ w2.heap.size sa no0 ns0 nu0 O0 cO0 S0 cS0 U0 cU0 from ⟨Lies.new w2 (skC O0 no0 cO0 S0 ns0 cS0 sa.last U0 nu0 cU0) _, HAK.out.below hb⟩)
    have B0 := Lib.hid (below_next B0.out hb)
    obtain ⟨b0, hbk⟩ : ∃ b, b = w2.heap.size := ⟨_, rfl⟩
    obtain ⟨W0, hW⟩ : ∃ X, X = w2.alloc (.cells (skC O0 no0 cO0 S0 ns0 cS0 sa.last U0 nu0 cU0) 25) := ⟨_, rfl⟩
    rw [← hW] at V0 B0 ⊢
    rw [← hbk] at V0 ⊢
    clear hW hbk hb HAK
    by_cases he : ea = 0
    · subst he
      have HCK := Lib.hid (commit_ok (s := s) (n := n) (by rw [← HOA.out]))
      rw [← HOA.out] at HCK
      simp only at HCK
      have HBD := Lib.hid (show Bd sa from by have := commit_bd s n; rw [← HOA.out] at this; exact this)
      clear HOA
      have x0 := V0.out.l.cell (j := 0) rfl; have x1 := V0.out.l.cell (j := 1) rfl; have x2 := V0.out.l.cell (j := 2) rfl; have x3 := V0.out.l.cell (j := 3) rfl
      go_wp2_with fail
      refine (show Calls Try.prog 17 #[skV O0 no0 cO0 S0 ns0 cS0 sa.last U0 nu0 cU0, .int .i64 n] _ (GivesSk (sa, 0) _) from by rw [← commit_old HCK.out.2.1 HCK.out.2.2.1]; exact ckCommit V0.out.at_ HBD.out.lim n).mono ?_
      rintro e w3 ⟨no1, ns1, nu1, O1, cO1, S1, cS1, U1, cU1, rfl, ha, hb⟩
      simp only at ha ⊢
      have V0 := Lib.hid (V0.out.next hb)
      have B0 := Lib.hid (below_next B0.out hb)
      have HAK := Lib.hid ha
      clear ha hb x0 x1 x2 x3
      go_upto_region 7 with fail
      have hb := below_al (o := .cells (skC O1 no1 cO1 S1 ns1 cS1 sa.last U1 nu1 cU1) 25) (Below.refl w3.heap.size w3)
      have V1 := Lib.hid (show Var _ w3.heap.size sa no1 ns1 nu1 O1 cO1 S1 cS1 U1 cU1 from ⟨Lies.new w3 (skC O1 no1 cO1 S1 ns1 cS1 sa.last U1 nu1 cU1) _, HAK.out.below hb⟩)
      have V0 := Lib.hid (V0.out.next hb)
      have B0 := Lib.hid (below_next B0.out hb)
      obtain ⟨b1, hbk⟩ : ∃ b, b = w3.heap.size := ⟨_, rfl⟩
      obtain ⟨W1, hW⟩ : ∃ X, X = w3.alloc (.cells (skC O1 no1 cO1 S1 ns1 cS1 sa.last U1 nu1 cU1) 25) := ⟨_, rfl⟩
      rw [← hW] at V1 B0 V0 ⊢
      rw [← hbk] at V1 ⊢
      clear hW hbk hb HAK
      have HCM := Lib.hid (fun (k : Int) (w' : World) (hk : k ≤ n) (v : Var w' b0 sa no0 ns0 nu0 O0 cO0 S0 cS0 U0 cU0) => show Calls Try.prog 17 #[skV O0 no0 cO0 S0 ns0 cS0 sa.last U0 nu0 cU0, .int .i64 k] w' (GivesSk (sa, 0) w') from by rw [← commit_old (n := k) HCK.out.2.1 (Int.le_trans hk HCK.out.2.2.1)]; exact ckCommit v.at_ HBD.out.lim k)
      have x0 := V0.out.l.cell (j := 0) rfl; have x1 := V0.out.l.cell (j := 1) rfl; have x2 := V0.out.l.cell (j := 2) rfl; have x3 := V0.out.l.cell (j := 3) rfl
      go_wp2_with fail
      all_goals
        refine (HCM.out _ _ (by first | omega | (split <;> omega) | exact Int.min_le_right _ _) V0.out).mono ?_
        rintro e w4 ⟨no2, ns2, nu2, O2, cO2, S2, cS2, U2, cU2, rfl, ha, hb⟩
        simp only at ha ⊢
        have V0 := Lib.hid (V0.out.next hb)
        have V1 := Lib.hid (V1.out.next hb)
        have B0 := Lib.hid (below_next B0.out hb)
        have HAK := Lib.hid ha
        clear ha hb x0 x1 x2 x3
        go_upto_region 8 with fail
        have hb := below_al (o := .cells (skC O2 no2 cO2 S2 ns2 cS2 sa.last U2 nu2 cU2) 25) (Below.refl w4.heap.size w4)
        have V2 := Lib.hid (show Var _ w4.heap.size sa no2 ns2 nu2 O2 cO2 S2 cS2 U2 cU2 from ⟨Lies.new w4 (skC O2 no2 cO2 S2 ns2 cS2 sa.last U2 nu2 cU2) _, HAK.out.below hb⟩)
        have V0 := Lib.hid (V0.out.next hb)
        have V1 := Lib.hid (V1.out.next hb)
        have B0 := Lib.hid (below_next B0.out hb)
        obtain ⟨b2, hbk⟩ : ∃ b, b = w4.heap.size := ⟨_, rfl⟩
        obtain ⟨W2, hW⟩ : ∃ X, X = w4.alloc (.cells (skC O2 no2 cO2 S2 ns2 cS2 sa.last U2 nu2 cU2) 25) := ⟨_, rfl⟩
        rw [← hW] at V2 B0 V0 V1 ⊢
        rw [← hbk] at V2 ⊢
        clear hW hbk hb HAK
        obtain ⟨sx, hsx⟩ : ∃ x, x = (⟨[], [], sa.last, sa.out⟩ : Si) := ⟨_, rfl⟩
        have HSX := Lib.hid hsx
        have HXA := Lib.hid (show abortO sx = (sx, 0) from by rw [hsx]; exact abort_eq (abort_right HCK.out.2.1))
        have HXB := Lib.hid (show Bd sx from by have := abort_bd sa; rw [abort_eq HCK.out.2.1, ← hsx] at this; exact this)
        have HXO := Lib.hid (show sx.op = [] ∧ sx.st = [] ∧ sx.out = sa.out from by rw [hsx]; exact ⟨rfl, rfl, rfl⟩)
        clear hsx
        have x0 := V0.out.l.cell (j := 0) rfl; have x1 := V0.out.l.cell (j := 1) rfl; have x2 := V0.out.l.cell (j := 2) rfl; have x3 := V0.out.l.cell (j := 3) rfl
        go_wp2_with fail
        refine (show Calls Try.prog 19 #[skV O0 no0 cO0 S0 ns0 cS0 sa.last U0 nu0 cU0] _ (GivesSk (sx, 0) _) from by rw [HSX.out, ← abort_eq HCK.out.2.1]; exact ckAbort V0.out.at_ HBD.out.lim).mono ?_
        rintro e w5 ⟨no3, ns3, nu3, O3, cO3, S3, cS3, U3, cU3, rfl, ha, hb⟩
        simp only at ha ⊢
        have hln := ha.len
        have hl0 := V0.out.at_.len
        rw [HXO.out.1, HXO.out.2.1, HXO.out.2.2, ← hl0.2.2] at hln
        obtain ⟨e1, e2, e3⟩ := hln
        subst e1 e2
        have e3 := e3.symm
        subst e3
        clear hl0
        simp only [List.length_nil] at ha ⊢
        have V0 := Lib.hid (V0.out.next hb)
        have V1 := Lib.hid (V1.out.next hb)
        have V2 := Lib.hid (V2.out.next hb)
        have B0 := Lib.hid (below_next B0.out hb)
        have HAK := Lib.hid ha
        clear ha hb x0 x1 x2 x3
        go_upto_region 9 with fail
        have hb := below_al (o := .cells (skC O3 0 cO3 S3 0 cS3 sx.last U3 nu0 cU3) 25) (Below.refl w5.heap.size w5)
        have V3 := Lib.hid (show Var _ w5.heap.size sx 0 0 nu0 O3 cO3 S3 cS3 U3 cU3 from ⟨Lies.new w5 (skC O3 0 cO3 S3 0 cS3 sx.last U3 nu0 cU3) _, HAK.out.below hb⟩)
        have V0 := Lib.hid (V0.out.next hb)
        have V1 := Lib.hid (V1.out.next hb)
        have V2 := Lib.hid (V2.out.next hb)
        have B0 := Lib.hid (below_next B0.out hb)
        obtain ⟨b3, hbk⟩ : ∃ b, b = w5.heap.size := ⟨_, rfl⟩
        obtain ⟨W3, hW⟩ : ∃ X, X = w5.alloc (.cells (skC O3 0 cO3 S3 0 cS3 sx.last U3 nu0 cU3) 25) := ⟨_, rfl⟩
        rw [← hW] at V3 B0 V0 V1 V2 ⊢
        rw [← hbk] at V3 ⊢
        clear hW hbk hb HAK
        have x0 := V3.out.l.cell (j := 0) rfl; have x1 := V3.out.l.cell (j := 1) rfl; have x2 := V3.out.l.cell (j := 2) rfl; have x3 := V3.out.l.cell (j := 3) rfl
        go_wp2_with fail
        refine (show Calls Try.prog 19 #[skV O3 0 cO3 S3 0 cS3 sx.last U3 nu0 cU3] _ (GivesSk (sx, 0) _) from by rw [← HXA.out]; exact ckAbort V3.out.at_ HXB.out.lim).mono ?_
        rintro e w6 ⟨no4, ns4, nu4, O4, cO4, S4, cS4, U4, cU4, rfl, ha, hb⟩
        simp only at ha ⊢
        have V0 := Lib.hid (V0.out.next hb)
        have V1 := Lib.hid (V1.out.next hb)
        have V2 := Lib.hid (V2.out.next hb)
        have V3 := Lib.hid (V3.out.next hb)
        have B0 := Lib.hid (below_next B0.out hb)
        have HAK := Lib.hid ha
        clear ha hb x0 x1 x2 x3
        go_upto_region 10 with fail
        have hb := below_al (o := .cells (skC O4 no4 cO4 S4 ns4 cS4 sx.last U4 nu4 cU4) 25) (Below.refl w6.heap.size w6)
        have V4 := Lib.hid (show Var _ w6.heap.size sx no4 ns4 nu4 O4 cO4 S4 cS4 U4 cU4 from ⟨Lies.new w6 (skC O4 no4 cO4 S4 ns4 cS4 sx.last U4 nu4 cU4) _, HAK.out.below hb⟩)
        have V0 := Lib.hid (V0.out.next hb)
        have V1 := Lib.hid (V1.out.next hb)
        have V2 := Lib.hid (V2.out.next hb)
        have V3 := Lib.hid (V3.out.next hb)
        have B0 := Lib.hid (below_next B0.out hb)
        obtain ⟨b4, hbk⟩ : ∃ b, b = w6.heap.size := ⟨_, rfl⟩
        obtain ⟨W4, hW⟩ : ∃ X, X = w6.alloc (.cells (skC O4 no4 cO4 S4 ns4 cS4 sx.last U4 nu4 cU4) 25) := ⟨_, rfl⟩
        rw [← hW] at V4 B0 V0 V1 V2 V3 ⊢
        rw [← hbk] at V4 ⊢
        clear hW hbk hb HAK
        have K0 := Lib.hid (show AgAt w sa sx b0 no0 ns0 nu0 O0 cO0 S0 cS0 U0 cU0 b1 no1 ns1 nu1 O1 cO1 S1 cS1 U1 cU1 b2 no2 ns2 nu2 O2 cO2 S2 cS2 U2 cU2 b3 O3 cO3 S3 cS3 U3 cU3 b4 no4 ns4 nu4 O4 cO4 S4 cS4 U4 cU4 W4 from ⟨V0.out, V1.out, V2.out, V3.out, V4.out, B0.out⟩)
        have HLIKE : Hid (∀ w5, AgAt w sa sx b0 no0 ns0 nu0 O0 cO0 S0 cS0 U0 cU0 b1 no1 ns1 nu1 O1 cO1 S1 cS1 U1 cU1 b2 no2 ns2 nu2 O2 cO2 S2 cS2 U2 cU2 b3 O3 cO3 S3 cS3 U3 cU3 b4 no4 ns4 nu4 O4 cO4 S4 cS4 U4 cU4 w5 → ∀ a b : Value, (a = skV O0 no0 cO0 S0 ns0 cS0 sa.last U0 nu0 cU0 ∧ b = skV O1 no1 cO1 S1 ns1 cS1 sa.last U1 nu1 cU1) ∨ (a = skV O0 no0 cO0 S0 ns0 cS0 sa.last U0 nu0 cU0 ∧ b = skV O2 no2 cO2 S2 ns2 cS2 sa.last U2 nu2 cU2) ∨ (a = skV O3 0 cO3 S3 0 cS3 sx.last U3 nu0 cU3 ∧ b = skV O4 no4 cO4 S4 ns4 cS4 sx.last U4 nu4 cU4) → Calls Try.prog 16 #[a, b] w5 (TellsB true w5)) := Lib.hid (by
          rintro w5 h5 a b (⟨rfl, rfl⟩ | ⟨rfl, rfl⟩ | ⟨rfl, rfl⟩)
          · exact rfLikeS HBD.out h5.v0.at_ h5.v1.at_
          · exact rfLikeS HBD.out h5.v0.at_ h5.v2.at_
          · exact rfLikeS HXB.out h5.v3.at_ h5.v4.at_)
        have HLO := Lib.hid (fun w5 (h5 : AgAt w sa sx b0 no0 ns0 nu0 O0 cO0 S0 cS0 U0 cU0 b1 no1 ns1 nu1 O1 cO1 S1 cS1 U1 cU1 b2 no2 ns2 nu2 O2 cO2 S2 cS2 U2 cU2 b3 O3 cO3 S3 cS3 U3 cU3 b4 no4 ns4 nu4 O4 cO4 S4 cS4 U4 cU4 w5) => rfLikeO HBD.out HXO.out.2.2 h5.v0.at_ h5.v3.at_)
        clear V0 V1 V2 V3 V4 B0
        have z00 := K0.out.v0.l.cell (j := 0) rfl; have z01 := K0.out.v0.l.cell (j := 1) rfl; have z02 := K0.out.v0.l.cell (j := 2) rfl; have z03 := K0.out.v0.l.cell (j := 3) rfl; have z10 := K0.out.v1.l.cell (j := 0) rfl; have z11 := K0.out.v1.l.cell (j := 1) rfl; have z12 := K0.out.v1.l.cell (j := 2) rfl; have z13 := K0.out.v1.l.cell (j := 3) rfl; have z20 := K0.out.v2.l.cell (j := 0) rfl; have z21 := K0.out.v2.l.cell (j := 1) rfl; have z22 := K0.out.v2.l.cell (j := 2) rfl; have z23 := K0.out.v2.l.cell (j := 3) rfl; have z30 := K0.out.v3.l.cell (j := 0) rfl; have z31 := K0.out.v3.l.cell (j := 1) rfl; have z32 := K0.out.v3.l.cell (j := 2) rfl; have z33 := K0.out.v3.l.cell (j := 3) rfl; have z40 := K0.out.v4.l.cell (j := 0) rfl; have z41 := K0.out.v4.l.cell (j := 1) rfl; have z42 := K0.out.v4.l.cell (j := 2) rfl; have z43 := K0.out.v4.l.cell (j := 3) rfl
        go_wp2_with fail
        refine (HAL.out _).mono ?_
        rintro e w6 ⟨rfl, hb6⟩
        have K0 := Lib.hid (K0.out.next hb6)
        clear hb6 z00 z01 z02 z03 z10 z11 z12 z13 z20 z21 z22 z23 z30 z31 z32 z33 z40 z41 z42 z43
        have z00 := K0.out.v0.l.cell (j := 0) rfl; have z01 := K0.out.v0.l.cell (j := 1) rfl; have z02 := K0.out.v0.l.cell (j := 2) rfl; have z03 := K0.out.v0.l.cell (j := 3) rfl; have z10 := K0.out.v1.l.cell (j := 0) rfl; have z11 := K0.out.v1.l.cell (j := 1) rfl; have z12 := K0.out.v1.l.cell (j := 2) rfl; have z13 := K0.out.v1.l.cell (j := 3) rfl; have z20 := K0.out.v2.l.cell (j := 0) rfl; have z21 := K0.out.v2.l.cell (j := 1) rfl; have z22 := K0.out.v2.l.cell (j := 2) rfl; have z23 := K0.out.v2.l.cell (j := 3) rfl; have z30 := K0.out.v3.l.cell (j := 0) rfl; have z31 := K0.out.v3.l.cell (j := 1) rfl; have z32 := K0.out.v3.l.cell (j := 2) rfl; have z33 := K0.out.v3.l.cell (j := 3) rfl; have z40 := K0.out.v4.l.cell (j := 0) rfl; have z41 := K0.out.v4.l.cell (j := 1) rfl; have z42 := K0.out.v4.l.cell (j := 2) rfl; have z43 := K0.out.v4.l.cell (j := 3) rfl
        go_wp2_with fail
        refine (HLIKE.out _ K0.out _ _ (Or.inl ⟨rfl, rfl⟩)).mono ?_
        rintro e w6 ⟨rfl, hb6⟩
        have K0 := Lib.hid (K0.out.next hb6)
        clear hb6 z00 z01 z02 z03 z10 z11 z12 z13 z20 z21 z22 z23 z30 z31 z32 z33 z40 z41 z42 z43
        have z00 := K0.out.v0.l.cell (j := 0) rfl; have z01 := K0.out.v0.l.cell (j := 1) rfl; have z02 := K0.out.v0.l.cell (j := 2) rfl; have z03 := K0.out.v0.l.cell (j := 3) rfl; have z10 := K0.out.v1.l.cell (j := 0) rfl; have z11 := K0.out.v1.l.cell (j := 1) rfl; have z12 := K0.out.v1.l.cell (j := 2) rfl; have z13 := K0.out.v1.l.cell (j := 3) rfl; have z20 := K0.out.v2.l.cell (j := 0) rfl; have z21 := K0.out.v2.l.cell (j := 1) rfl; have z22 := K0.out.v2.l.cell (j := 2) rfl; have z23 := K0.out.v2.l.cell (j := 3) rfl; have z30 := K0.out.v3.l.cell (j := 0) rfl; have z31 := K0.out.v3.l.cell (j := 1) rfl; have z32 := K0.out.v3.l.cell (j := 2) rfl; have z33 := K0.out.v3.l.cell (j := 3) rfl; have z40 := K0.out.v4.l.cell (j := 0) rfl; have z41 := K0.out.v4.l.cell (j := 1) rfl; have z42 := K0.out.v4.l.cell (j := 2) rfl; have z43 := K0.out.v4.l.cell (j := 3) rfl
        go_wp2_with fail
        refine (HLIKE.out _ K0.out _ _ (Or.inr (Or.inl ⟨rfl, rfl⟩))).mono ?_
        rintro e w6 ⟨rfl, hb6⟩
        have K0 := Lib.hid (K0.out.next hb6)
        clear hb6 z00 z01 z02 z03 z10 z11 z12 z13 z20 z21 z22 z23 z30 z31 z32 z33 z40 z41 z42 z43
        have z00 := K0.out.v0.l.cell (j := 0) rfl; have z01 := K0.out.v0.l.cell (j := 1) rfl; have z02 := K0.out.v0.l.cell (j := 2) rfl; have z03 := K0.out.v0.l.cell (j := 3) rfl; have z10 := K0.out.v1.l.cell (j := 0) rfl; have z11 := K0.out.v1.l.cell (j := 1) rfl; have z12 := K0.out.v1.l.cell (j := 2) rfl; have z13 := K0.out.v1.l.cell (j := 3) rfl; have z20 := K0.out.v2.l.cell (j := 0) rfl; have z21 := K0.out.v2.l.cell (j := 1) rfl; have z22 := K0.out.v2.l.cell (j := 2) rfl; have z23 := K0.out.v2.l.cell (j := 3) rfl; have z30 := K0.out.v3.l.cell (j := 0) rfl; have z31 := K0.out.v3.l.cell (j := 1) rfl; have z32 := K0.out.v3.l.cell (j := 2) rfl; have z33 := K0.out.v3.l.cell (j := 3) rfl; have z40 := K0.out.v4.l.cell (j := 0) rfl; have z41 := K0.out.v4.l.cell (j := 1) rfl; have z42 := K0.out.v4.l.cell (j := 2) rfl; have z43 := K0.out.v4.l.cell (j := 3) rfl
        go_wp2_with fail
        refine (HLIKE.out _ K0.out _ _ (Or.inr (Or.inr (⟨rfl, rfl⟩)))).mono ?_
        rintro e w6 ⟨rfl, hb6⟩
        have K0 := Lib.hid (K0.out.next hb6)
        clear hb6 z00 z01 z02 z03 z10 z11 z12 z13 z20 z21 z22 z23 z30 z31 z32 z33 z40 z41 z42 z43
        have z00 := K0.out.v0.l.cell (j := 0) rfl; have z01 := K0.out.v0.l.cell (j := 1) rfl; have z02 := K0.out.v0.l.cell (j := 2) rfl; have z03 := K0.out.v0.l.cell (j := 3) rfl; have z10 := K0.out.v1.l.cell (j := 0) rfl; have z11 := K0.out.v1.l.cell (j := 1) rfl; have z12 := K0.out.v1.l.cell (j := 2) rfl; have z13 := K0.out.v1.l.cell (j := 3) rfl; have z20 := K0.out.v2.l.cell (j := 0) rfl; have z21 := K0.out.v2.l.cell (j := 1) rfl; have z22 := K0.out.v2.l.cell (j := 2) rfl; have z23 := K0.out.v2.l.cell (j := 3) rfl; have z30 := K0.out.v3.l.cell (j := 0) rfl; have z31 := K0.out.v3.l.cell (j := 1) rfl; have z32 := K0.out.v3.l.cell (j := 2) rfl; have z33 := K0.out.v3.l.cell (j := 3) rfl; have z40 := K0.out.v4.l.cell (j := 0) rfl; have z41 := K0.out.v4.l.cell (j := 1) rfl; have z42 := K0.out.v4.l.cell (j := 2) rfl; have z43 := K0.out.v4.l.cell (j := 3) rfl
        go_wp2_with fail
        refine (HLO.out _ K0.out).mono ?_
        rintro e w6 ⟨rfl, hb6⟩
        have K0 := Lib.hid (K0.out.next hb6)
        clear hb6 z00 z01 z02 z03 z10 z11 z12 z13 z20 z21 z22 z23 z30 z31 z32 z33 z40 z41 z42 z43
        have z00 := K0.out.v0.l.cell (j := 0) rfl; have z01 := K0.out.v0.l.cell (j := 1) rfl; have z02 := K0.out.v0.l.cell (j := 2) rfl; have z03 := K0.out.v0.l.cell (j := 3) rfl; have z10 := K0.out.v1.l.cell (j := 0) rfl; have z11 := K0.out.v1.l.cell (j := 1) rfl; have z12 := K0.out.v1.l.cell (j := 2) rfl; have z13 := K0.out.v1.l.cell (j := 3) rfl; have z20 := K0.out.v2.l.cell (j := 0) rfl; have z21 := K0.out.v2.l.cell (j := 1) rfl; have z22 := K0.out.v2.l.cell (j := 2) rfl; have z23 := K0.out.v2.l.cell (j := 3) rfl; have z30 := K0.out.v3.l.cell (j := 0) rfl; have z31 := K0.out.v3.l.cell (j := 1) rfl; have z32 := K0.out.v3.l.cell (j := 2) rfl; have z33 := K0.out.v3.l.cell (j := 3) rfl; have z40 := K0.out.v4.l.cell (j := 0) rfl; have z41 := K0.out.v4.l.cell (j := 1) rfl; have z42 := K0.out.v4.l.cell (j := 2) rfl; have z43 := K0.out.v4.l.cell (j := 3) rfl
        go_wp2_with fail
        go_ret
        exact ⟨rfl, K0.out.below⟩
    · have HZ := Lib.hid (show sa = zS from by have := commit_no (s := s) (n := n) (by rw [← HOA.out]; exact he); rw [← HOA.out] at this; exact this)
      have g1 : (ea == 0) = false := by simpa using he
      have g2 : (ea != 0) = true := by simpa using he
      have g3 : decide (ea = 0) = false := decide_eq_false he
      clear HOA
      have x0 := V0.out.l.cell (j := 0) rfl; have x1 := V0.out.l.cell (j := 1) rfl; have x2 := V0.out.l.cell (j := 2) rfl; have x3 := V0.out.l.cell (j := 3) rfl
      go_wp2_with fail
      refine (HAL.out _).mono ?_
      rintro e w3 ⟨rfl, hb⟩
      have V0 := Lib.hid (V0.out.next hb)
      have B0 := Lib.hid (below_next B0.out hb)
      clear hb x0 x1 x2 x3
      have x0 := V0.out.l.cell (j := 0) rfl; have x1 := V0.out.l.cell (j := 1) rfl; have x2 := V0.out.l.cell (j := 2) rfl; have x3 := V0.out.l.cell (j := 3) rfl
      go_wp2_with fail
      refine (show Calls Try.prog 16 #[skV O0 no0 cO0 S0 ns0 cS0 sa.last U0 nu0 cU0, skV none 0 0 none 0 0 0 none 0 0] _ (TellsB true _) from by have h0 := V0.out.at_; rw [HZ.out] at h0 ⊢; exact rfLikeS bd_z h0 (zero_at (fun _ => False) _).at_).mono ?_
      rintro e w4 ⟨rfl, hb⟩
      have B0 := Lib.hid (below_next B0.out hb)
      clear hb x0 x1 x2 x3
      go_wp2_with fail
      go_ret
      exact ⟨rfl, B0.out⟩
  · rw [decide_eq_false hsm]
    clear hsm
    go_wp2_with fail
    go_ret
    exact ⟨rfl, B0.out⟩
end Sk
end Go.Proofs.Ytmkbdlailffjeaa
