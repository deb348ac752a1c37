/- The walk of the law ModelMore. -/
import Derived.Test.YtipmphkmeiogoaaZ35
import Derived.Test.YtipmphkmeiogoaaZ30
import Derived.Deep.RegionHeld3
import Derived.Deep.CutBlock
import Derived.RegionTactic
import Derived.BigRegion
import Derived.BigQuiet
import Derived.Test.YtipmphkmeiogoaaZ4
import Derived.Lib.MinMax
namespace Go.Proofs.Ytipmphkmeiogoaa
open Go.ChangeShapes Go.WideShapes Go.ChangeAt Go.RowKit Go.Shelf Go.Maps Tick
set_option linter.unusedVariables false
set_option maxRecDepth 8000
namespace Mo
open Gen (TellsI TellsB SaysI lies_new1)
open Jo (Jb Ev Sr evIs srcOk insOk jbC jbV srV evL Srs)
open Pan (Pl Pn Rs adds)
set_option maxRecDepth 100000 in
set_option maxHeartbeats 4000000 in
theorem walkModelMore (j : Jb) (hlim : Lp.inI j.limit) (ls : List Sr) (A : Option Addr) (c : Nat) (t : Sr) (hl : ls.length ≤ c) (hc : c ≤ maxLen) (w : World) (h : Row w A (lsC ls)) (hok : ∀ s ∈ ls, SrOk w s) (ht : SrOk w t) :
    Calls Try.prog 8 #[jbV j, .slice A ls.length c, .slice t.A t.l.length t.c] w (TellsB true w) := by
  have hb0 := below_al (o := .cells (jbC j) 23) (Below.refl w.heap.size w)
  have HF := Lib.hid (lawFewM ls A c hl hc _ (h.below hb0) (fun s hs => (hok s hs).below hb0))
  have hfo := fews_ok hok
  have hso := cutM_ok ht
  have hbd := fews_bd j ls
  have hbd2 := more_bd j ls (cutM_len t)
  obtain ⟨L, hL⟩ : ∃ L, L = fews ls := ⟨_, rfl⟩
  have hL6 : L.length ≤ 6 := by rw [hL]; unfold fews; rw [List.length_map, List.length_take]; omega
  obtain ⟨s, hs⟩ : ∃ s, s = cutM t := ⟨_, rfl⟩
  obtain ⟨n, hn⟩ : ∃ n, n = s.l.length := ⟨_, rfl⟩
  have hsA : s.A = t.A := by rw [hs]; unfold cutM; split <;> rfl
  have hsc : s.c = t.c := by rw [hs]; unfold cutM; split <;> rfl
  have hnn : n = if 30 < t.l.length then 30 else t.l.length := by rw [hn, hs]; unfold cutM; split <;> simp <;> omega
  have hsome : 30 < t.l.length → ∃ b off, t.A = some ⟨b, off, none⟩ := fun h1 => some_of ht (by omega)
  have hfewt := ht.few
  rw [← hs] at hso hbd2
  rw [← hL] at HF hfo hbd hbd2
  have hfo2 : ∀ x ∈ L ++ [s], SrOk w x := fun x hx => by
    rcases List.mem_append.1 hx with h1 | h1
    · exact hfo x h1
    · simp only [List.mem_singleton] at h1
      subst h1
      exact hso
  have HRUN := Lib.hid (fun (A1 : Option Addr) (c1 : Nat) w' (hr : Row w' A1 (lsC L)) (hb : Below w.heap.size w w') => mdRun j hlim L A1 c1 w' hr (srs_of fun s hs => (hfo s hs).below hb) (fun s hs => (hfo s hs).fit) hbd)
  have HRUN2 := Lib.hid (fun (A1 : Option Addr) (c1 : Nat) w' (hr : Row w' A1 (lsC (L ++ [s]))) (hb : Below w.heap.size w w') => mdRun j hlim (L ++ [s]) A1 c1 w' hr (srs_of fun s hs => (hfo2 s hs).below hb) (fun s hs => (hfo2 s hs).fit) hbd2)
  have HA := Lib.hid (fun w => lawAliveM w)
  have LJ := Lib.hid (Lies.new w (jbC j) 23)
  have HB0 := Lib.hid hb0
  -- what comes out
  have HBOTH : Hid (chk j L = 0 → chk j (L ++ [s]) = 0 → (∀ x ∈ (runOut j L).1, x.n ≤ nAt (runOut j (L ++ [s])).1 x.p) ∧ (runOut j L).1.length ≤ (runOut j (L ++ [s])).1.length ∧ (runOut j (L ++ [s])).1.length ≤ 1920 ∧
      (∀ x ∈ (runOut j L).1, wf64 x.p.lo ∧ wf64 x.p.hi ∧ x.p.key.length ≤ maxLen ∧ wf64 x.n) ∧ (∀ x ∈ (runOut j (L ++ [s])).1, wf64 x.p.lo ∧ wf64 x.p.hi ∧ x.p.key.length ≤ maxLen ∧ wf64 x.n)) := Lib.hid (by
    intro h1 h2
    obtain ⟨hr, hi1⟩ := chk_ok h1
    obtain ⟨_, hi2⟩ := chk_ok h2
    have k1 := hbd hi1
    have k2 := hbd2 hi2
    rw [runOut_ok h1, runOut_ok h2]
    have hw1 := res_wf hr (keptAll_is hi1) k1
    have hw2 := res_wf hr (keptAll_is hi2) k2
    have hml : ∀ l : List Ev, l.length ≤ 120 → (res j l).length ≤ 1920 := fun l hl => by
      unfold res
      rw [List.length_map]
      have := panes_len j l
      omega
    have hm2 := hml _ k2
    rw [all_push] at k2 hw2 hm2 ⊢
    obtain ⟨e1, e2⟩ := res_more hr k2
    exact ⟨e1, e2, hm2, fun x hx => ⟨(hw1 x hx).1, (hw1 x hx).2.1, (hw1 x hx).2.2.1, (hw1 x hx).2.2.2.1⟩, fun x hx => ⟨(hw2 x hx).1, (hw2 x hx).2.1, (hw2 x hx).2.2.1, (hw2 x hx).2.2.2.1⟩⟩)
  have HO1 : Hid ((runOut j L).2 = 0 → chk j L = 0) := Lib.hid (by intro e; by_cases hz : chk j L = 0; exact hz; rw [runOut_not hz] at e; exact absurd e hz)
  have HO2 : Hid ((runOut j (L ++ [s])).2 = 0 → chk j (L ++ [s]) = 0) := Lib.hid (by intro e; by_cases hz : chk j (L ++ [s]) = 0; exact hz; rw [runOut_not hz] at e; exact absurd e hz)
  obtain ⟨r1, hr1⟩ : ∃ r, r = runOut j L := ⟨_, rfl⟩
  obtain ⟨r2, hr2⟩ : ∃ r, r = runOut j (L ++ [s]) := ⟨_, rfl⟩
  rw [← hr1, ← hr2] at HBOTH
  rw [← hr1] at HO1 HRUN
  rw [← hr2] at HO2 HRUN2
  obtain ⟨rs1, z1⟩ := r1
  obtain ⟨rs2, z2⟩ := r2
  have HNN := Lib.hid hnn
  have HSA := Lib.hid hsA
  have HSC := Lib.hid hsc
  have HSO := Lib.hid hso
  have HN := Lib.hid hn
  have HS6 := Lib.hid hL6
  obtain ⟨n2, hn2⟩ : ∃ n2, n2 = (L ++ [s]).length := ⟨_, rfl⟩
  rw [← hn2] at HRUN2
  have HLEN : Hid (([] ++ L ++ [s]).length = n2) := Lib.hid (by rw [List.nil_append, hn2])
  have HLB : Hid (([] : List Sr).length + L.length ≤ 100000) := Lib.hid (by simp; omega)
  have HLB2 : Hid (([] ++ L : List Sr).length + 1 ≤ 100000) := Lib.hid (by simp; omega)
  have HNIL : Hid (([] ++ L ++ [s] : List Sr) = L ++ [s]) := Lib.hid (by rw [List.nil_append])
  have HSV : Hid (srV s = .slice s.A n s.c) := Lib.hid (by rw [srV, hn])
  have hq : ∀ (w : World) (r : Option Nat), (binOp .eql 52 (.map r) (.map none)).run Try.prog w = .ok (.bool r.isNone) w := fun w r => run_eql_map_nil w _ _ _ r Try.underlying52
  have hmm := @run_makeMap Try.prog
  clear hn2 hL hs hn hsA hsc hnn hso hfo hfo2 hbd hbd2 hlim h hok hl hc hb0 hr1 hr2 hL6
  obtain ⟨tA, tc, tl⟩ := t
  simp only at hsome hfewt HNN HSA HSC ⊢
  go_enter Try.func8, Try.ntmps8
  go_wp2_with fail
  refine HF.out.mono ?_
  rintro e w1 ⟨A1, c1, rfl, l1, l2, r1, hb1⟩
  have HB1 := Lib.hid (below_next HB0.out hb1)
  have LJ1 := Lib.hid (LJ.out.below hb1)
  have R1 := Lib.hid r1
  clear hb1 r1 l1 l2
  go_upto_if 20 with fail
  go_cut [2] from 21 (fun v wc => v = .slice s.A n s.c ∧ wc = w1)
  case first =>
    by_cases h : 30 < tl.length
    · have h1 : (30 : Int) < tl.length := by omega
      have h2 : (30 : Int) ≤ tc := by omega
      obtain ⟨b0, off0, hA0⟩ := hsome h
      have hn := HNN.out
      rw [if_pos h] at hn
      subst hA0
      go_wp2_with fail
      go_meet
      case rel => exact ⟨by rw [hn, HSA.out, HSC.out], rfl⟩
    · have h1 : ¬ (30 : Int) < tl.length := by omega
      have hn := HNN.out
      rw [if_neg h] at hn
      go_wp2_with fail
      go_meet
      case rel => exact ⟨by rw [hn, HSA.out, HSC.out], rfl⟩
  case rest =>
    obtain ⟨rfl, rfl⟩ := hcut
    clear hsome hfewt HNN
    have x0 := LJ1.out.cell (j := 0) rfl; have x1 := LJ1.out.cell (j := 1) rfl; have x2 := LJ1.out.cell (j := 2) rfl; have x3 := LJ1.out.cell (j := 3) rfl; have x4 := LJ1.out.cell (j := 4) rfl; have x5 := LJ1.out.cell (j := 5) rfl; have x6 := LJ1.out.cell (j := 6) rfl; have x7 := LJ1.out.cell (j := 7) rfl
    rw [← HSV.out]
    go_wp2_with fail
    refine (HRUN.out A1 c1 _ R1.out HB1.out).mono ?_
    rintro e w2 ⟨A2, c2, rfl, m1, m2, r2, hb2⟩
    simp only at m1 r2
    have HB2 := Lib.hid (below_next HB1.out hb2)
    have LJ2 := LJ1.out.below hb2
    have R2 := Lib.hid (R1.out.below hb2)
    have RR2 := Lib.hid r2
    clear hb2 r2 m1 m2 x0 x1 x2 x3 x4 x5 x6 x7
    go_upto_region 5 with fail
    go_cut [9, 10] from 30 to 39 (fun s9 s10 wx => ∃ A3 c3, s9 = .slice A3 rs2.length c3 ∧ s10 = .int .i64 z2 ∧ Row wx A3 (rc rs2) ∧ Below w2.heap.size w2 wx)
    case first =>
      have S3 : w2.cell? ⟨w.heap.size, 0, none⟩ = some (.int .i64 j.groups) ∧ w2.cell? ⟨w.heap.size, 1, none⟩ = some (.int .i64 j.size) ∧ w2.cell? ⟨w.heap.size, 2, none⟩ = some (.int .i64 j.slide) ∧ w2.cell? ⟨w.heap.size, 3, none⟩ = some (.int .i64 j.fold) ∧ w2.cell? ⟨w.heap.size, 4, none⟩ = some (.int .i64 j.fuel) ∧ w2.cell? ⟨w.heap.size, 5, none⟩ = some (.int .i64 j.limit) ∧ w2.cell? ⟨w.heap.size, 6, none⟩ = some (.int .i64 j.delay) ∧ w2.cell? ⟨w.heap.size, 7, none⟩ = some (.int .i64 j.idle) ∧ Below w2.heap.size w2 w2 := ⟨LJ2.cell (j := 0) rfl, LJ2.cell (j := 1) rfl, LJ2.cell (j := 2) rfl, LJ2.cell (j := 3) rfl, LJ2.cell (j := 4) rfl, LJ2.cell (j := 5) rfl, LJ2.cell (j := 6) rfl, LJ2.cell (j := 7) rfl, Below.refl _ _⟩
      have S0 := keep9 (below_drewOf (Below.refl _ _)) S3
      clear LJ2
      go_region_held3 (fun w' => w'.cell? ⟨w.heap.size, 0, none⟩ = some (.int .i64 j.groups) ∧ w'.cell? ⟨w.heap.size, 1, none⟩ = some (.int .i64 j.size) ∧ w'.cell? ⟨w.heap.size, 2, none⟩ = some (.int .i64 j.slide) ∧ w'.cell? ⟨w.heap.size, 3, none⟩ = some (.int .i64 j.fold) ∧ w'.cell? ⟨w.heap.size, 4, none⟩ = some (.int .i64 j.fuel) ∧ w'.cell? ⟨w.heap.size, 5, none⟩ = some (.int .i64 j.limit) ∧ w'.cell? ⟨w.heap.size, 6, none⟩ = some (.int .i64 j.delay) ∧ w'.cell? ⟨w.heap.size, 7, none⟩ = some (.int .i64 j.idle) ∧ Below w2.heap.size w2 w')
        (first | with_reducible assumption | with_reducible exact keep9 (builtE w2).below S3 | with_reducible exact keep9 (below_drewOf (below_al (Below.refl _ _))) S3 | with_reducible exact keep9 (builtEX w2 (srV s)).below S3 | with_reducible exact keep9 (builtXE w2 (srV s)).below S3 | with_reducible exact keep9 B2.out.below S3 | with_reducible exact keep9 B1.out.below S3 | (with_reducible refine keep9 (below_al (Below.refl _ _)) ?_; with_reducible assumption) | (with_reducible refine keep9 (below_al (Below.refl _ _)) ?_; with_reducible exact S4.out) | (with_reducible exact keep9 (below_next B2.out.below hb5) S3))
        (first
          | (go_at_call 18
             refine (HRUN2.out A5 c5 _ (HNIL.out ▸ Q4.out) (below_next HB2.out B2.out.below)).mono ?_
             rintro e w6 ⟨A6, c6, rfl, m1, m2, r6, hb5⟩
             have R6 := Lib.hid r6
             clear m1 m2 r6
             dsimp only)
          | (refine step_pushLo rfl (.tmp 31) (.tmp 32) rfl (.slice (some ⟨w2.heap.size, 0, none⟩) 0 0) [] (by simp [Act.eval]) (by with_reducible exact builtE w2) A1 L.length c1 L (by simp [Act.eval]) rfl (R2.out.below (builtE w2).below) HLB.out ?_
             intro v1 w4 b1 g1
             have B1 := Lib.hid b1
             have S4 := Lib.hid (keep9 b1.below S3)
             clear b1 g1)
          | (refine step_pushLo rfl (.tmp 31) (.tmp 32) rfl (.slice (some ⟨w2.heap.size, 0, none⟩) 0 0) [] (by simp [Act.eval]) (by with_reducible exact builtEX w2 (srV s)) A1 L.length c1 L (by simp [Act.eval]) rfl (R2.out.below (builtEX w2 (srV s)).below) HLB.out ?_
             intro v1 w4 b1 g1
             have B1 := Lib.hid b1
             have S4 := Lib.hid (keep9 b1.below S3)
             have X4 := Lib.hid (rowEXs g1)
             clear b1 g1)
          | (refine step_pushLo rfl (.tmp 31) (.tmp 32) rfl (.slice (some ⟨w2.heap.size + 1, 0, none⟩) 0 0) [] (by simp [Act.eval]) (by with_reducible exact builtXE w2 (srV s)) A1 L.length c1 L (by simp [Act.eval]) rfl (R2.out.below (builtXE w2 (srV s)).below) HLB.out ?_
             intro v1 w4 b1 g1
             have B1 := Lib.hid b1
             have S4 := Lib.hid (keep9 b1.below S3)
             have X4 := Lib.hid (rowXEs g1)
             clear b1 g1)
          | (refine step_pushLo rfl (.tmp 33) (.tmp 35) rfl v1 ([] ++ L) (by simp [Act.eval]) (by with_reducible exact B1.out.up (below_al (Below.refl _ _))) (some ⟨w4.heap.size, 0, none⟩) 1 1 [s] (by simp [Act.eval]) rfl (by with_reducible exact rowS1 w4 s) HLB2.out ?_
             intro v2 w5 b2 g2
             have B2 := Lib.hid b2
             obtain ⟨A5, c5, hv, q1, q2, q3, q4, q5⟩ := own_form b2.own (by omega)
             have Q4 := Lib.hid q4
             clear b2 g2 q1 q2 q3 q4 q5
             rw [HLEN.out] at hv
             subst hv)
          | (refine step_pushLo rfl (.tmp 33) (.tmp 35) rfl v1 ([] ++ L) (by simp [Act.eval]) (by with_reducible exact B1.out) (some ⟨w2.heap.size + 1, 0, none⟩) 1 1 [s] (by simp [Act.eval]) rfl (by with_reducible exact X4.out) HLB2.out ?_
             intro v2 w5 b2 g2
             have B2 := Lib.hid b2
             obtain ⟨A5, c5, hv, q1, q2, q3, q4, q5⟩ := own_form b2.own (by omega)
             have Q4 := Lib.hid q4
             clear b2 g2 q1 q2 q3 q4 q5
             rw [HLEN.out] at hv
             subst hv)
          | (refine step_pushLo rfl (.tmp 33) (.tmp 35) rfl v1 ([] ++ L) (by simp [Act.eval]) (by with_reducible exact B1.out) (some ⟨w2.heap.size, 0, none⟩) 1 1 [s] (by simp [Act.eval]) rfl (by with_reducible exact X4.out) HLB2.out ?_
             intro v2 w5 b2 g2
             have B2 := Lib.hid b2
             obtain ⟨A5, c5, hv, q1, q2, q3, q4, q5⟩ := own_form b2.own (by omega)
             have Q4 := Lib.hid q4
             clear b2 g2 q1 q2 q3 q4 q5
             rw [HLEN.out] at hv
             subst hv))
      all_goals
        rename_i hs9
        go_wp2_with fail
        go_meet
        case rel => exact ⟨A6, c6, rfl, rfl, R6.out, below9 hs9⟩
    case rest =>
      obtain ⟨A3, c3, rfl, rfl, r3, hb3⟩ := hcut
      obtain ⟨w3, hw3⟩ : ∃ w3, w3 = wc := ⟨_, rfl⟩
      subst hw3
      have HB3 := Lib.hid (below_next HB2.out hb3)
      have R3 := Lib.hid r3
      have RR3 := Lib.hid (RR2.out.below hb3)
      clear hb3 r3 LJ2
      by_cases hz1 : z1 = 0
      · by_cases hz2 : z2 = 0
        · obtain ⟨p1, p2, p3, p4, p5⟩ := HBOTH.out (HO1.out hz1) (HO2.out hz2)
          have P1 := Lib.hid p1
          have P2 := Lib.hid (show (rs1.length : Int) ≤ (rs2.length : Int) by omega)
          have P3 := Lib.hid p3
          have P4 := Lib.hid p4
          have P5 := Lib.hid p5
          have P6 : Hid (rs1.length ≤ 1920) := Lib.hid (by omega)
          subst hz1
          subst hz2
          have N0 := Lib.hid (Nest.start (base := w3.heap.size) w3 (Nat.le_refl _))
          have BM := Lib.hid (below_al (o := .map #[] 0) (Below.refl w3.heap.size w3))
          obtain ⟨m, hm⟩ : ∃ m, m = w3.heap.size := ⟨_, rfl⟩
          have HM := Lib.hid hm
          clear p1 p2 p3 p4 p5 HBOTH HO1 HO2
          go_wp2_with fail
          rw [← hm] at N0 BM ⊢
          clear hm
          go_loopw [50] (fun i wr => ∃ (k n : Nat) (f : Int → Int → Option Nat), i = .int .i64 k ∧ k ≤ rs2.length ∧ n ≤ 2 * k ∧ Nest m wr m n (rs2.take k) f ∧ Below m w3 wr) (fun i _ => rs2.length - (intOf i).toNat)
          case atStart => exact ⟨0, 0, _, rfl, Nat.zero_le _, Nat.le_refl _, N0.out, BM.out⟩
          case round =>
            clear N0 BM
            obtain ⟨k, n, f, rfl, hk, hn, hN, hb⟩ := hrel
            have NE := Lib.hid hN
            have BB := Lib.hid (show Below w3.heap.size w3 wr from HM.out ▸ hb)
            clear hN hb
            by_cases hlt : k < rs2.length
            · obtain ⟨x, hx⟩ : ∃ x, rs2[k]? = some x := ⟨_, List.getElem?_eq_getElem hlt⟩
              obtain ⟨b, off, rfl, d0, d1, d2, d3, d4⟩ := (R3.out.below BB.out).rs hx
              have HPU : Hid (rs2.take (k + 1) = rs2.take k ++ [x]) := Lib.hid (take_push hx)
              obtain ⟨f1, f2, f3, f4⟩ := P5.out x (List.mem_of_getElem? hx)
              have hw := wrapM (k := k) (by have := P3.out; omega)
              obtain ⟨W, hW⟩ : ∃ W, W = wr.alloc (.cells (rsC x) 50) := ⟨_, rfl⟩
              have hbW : Below wr.heap.size wr W := by rw [hW]; exact below_al (Below.refl _ _)
              have N1 := Lib.hid (NE.out.below hbW)
              have LX := Lib.hid (hW ▸ Lies.new wr (rsC x) 50)
              have BW := Lib.hid (below_next BB.out hbW)
              have hmb : m ≤ W.heap.size := by have := NE.out.lt; have := hbW.size; omega
              have hxb : m < wr.heap.size := NE.out.lt
              have HXB := Lib.hid hxb
              have hWs : W.heap.size = wr.heap.size + 1 := by rw [hW]; simp
              have HWS := Lib.hid hWs
              obtain ⟨xb, hxbe⟩ : ∃ xb, xb = wr.heap.size := ⟨_, rfl⟩
              have HXE := Lib.hid hxbe
              rw [← hxbe] at LX
              have e0 := N1.out.look f1 f2
              have hn2 : n + 1 < maxLen := by have := P3.out; unfold maxLen; omega
              have F3 := Lib.hid f3
              have F4 := Lib.hid f4
              have HN2 := Lib.hid hn2
              obtain ⟨v, hv⟩ : ∃ v, v = f x.p.lo x.p.hi := ⟨_, rfl⟩
              have HV := Lib.hid hv.symm
              rw [← hv] at e0
              have HW := Lib.hid hW
              have HMB := Lib.hid hmb
              clear hbW hWs hmb hxb hv hx hn2 f3 f4
              go_upto_region 12 with fail
              rw [← HW.out, ← HXE.out]
              clear hW hxbe d0 d1 d2 d3 d4
              have c0 := LX.out.cell (j := 0) rfl; have c1 := LX.out.cell (j := 1) rfl; have c2 := LX.out.cell (j := 2) rfl; have c3 := LX.out.cell (j := 3) rfl; have c4 := LX.out.cell (j := 4) rfl
              rcases v with _ | b2
              · obtain ⟨w4, e1, g4, N4⟩ := N1.out.open_ (by have := HN2.out; omega) HMB.out f1 f2 HV.out
                have hne : m ≠ xb := by rw [HXE.out]; have := HXB.out; omega
                have hal : Below xb (W.alloc (.map #[] 0)) (W.alloc (.map #[] 0)) := Below.refl _ _
                have L4 := Lib.hid (lies_grown (LX.out.al) g4 (fun e => hne (Option.some.inj e)))
                have B4 := Lib.hid ((below_al (o := .map #[] 0) BW.out).grown g4 (Nat.le_of_lt (by have := BW.out.size; have := N1.out.lt; rw [World.size_alloc]; omega)) (fun q hq => by have := Option.some.inj hq; rw [← this, HM.out]; exact Nat.le_refl _))
                have NN := Lib.hid N4
                clear g4 N4 hne hal
                go_wp2_with fail
                clear c0 c1 c2 c3 c4 e0 e1
                have c0 := L4.out.cell (j := 0) rfl; have c1 := L4.out.cell (j := 1) rfl; have c2 := L4.out.cell (j := 2) rfl; have c3 := L4.out.cell (j := 3) rfl; have c4 := L4.out.cell (j := 4) rfl
                have e2 := (NN.out.below (below_drewOf (Below.refl _ _))).look f1 f2
                rw [if_pos ⟨rfl, rfl⟩] at e2
                obtain ⟨w5, e3, g5, N5⟩ := (NN.out.below (below_drewOf (Below.refl _ _))).put (by have := HN2.out; omega) x F3.out F4.out (b := W.heap.size) (if_pos ⟨rfl, rfl⟩)
                have N6 := Lib.hid (HPU.out ▸ N5)
                have B6 := Lib.hid ((below_drewOf B4.out).grown g5 (by have := B4.out.size; simpa using this) (fun q hq => by have := Option.some.inj hq; have := BW.out.size; omega))
                clear g5 N5
                go_region
                clear c0 c1 c2 c3 c4 e2 e3
                go_wp2_with fail
                go_roundw
                case rel => exact ⟨k + 1, n + 1 + 1, _, rfl, by omega, by omega, N6.out, HM.out ▸ B6.out⟩
                case measure => simp [intOf]; omega
              · have e2 := (N1.out.below (below_drewOf (Below.refl _ _))).look f1 f2
                rw [HV.out] at e2
                obtain ⟨w5, e3, g5, N5⟩ := (N1.out.below (below_drewOf (Below.refl _ _))).put (by have := HN2.out; omega) x F3.out F4.out HV.out
                have N6 := Lib.hid (HPU.out ▸ N5)
                have hfar := (N1.out.inn _ _ _ HV.out).1
                have B6 := Lib.hid ((below_drewOf BW.out).grown g5 (by have := BW.out.size; simpa using this) (fun q hq => by have := Option.some.inj hq; rw [← this, ← HM.out]; exact hfar))
                clear g5 N5 hfar
                go_wp2_with fail
                go_region
                clear c0 c1 c2 c3 c4 e0 e2 e3
                go_wp2_with fail
                go_roundw
                case rel => exact ⟨k + 1, n + 1, _, rfl, by omega, by omega, N6.out, HM.out ▸ B6.out⟩
                case measure => simp [intOf]; omega
            · have hge : rs2.length ≤ k := by omega
              have HTK : Hid (rs2.take k = rs2) := Lib.hid (List.take_of_length_le hge)
              have hdd : decide (k < rs2.length) = false := by rw [decide_eq_false_iff_not]; omega
              have NF := Lib.hid (HTK.out ▸ NE.out)
              have RA := Lib.hid (RR3.out.below BB.out)
              clear NE hlt
              obtain ⟨we, hwe⟩ : ∃ we, we = wr := ⟨_, rfl⟩
              subst hwe
              go_wp2_with fail
              go_loopw [74] (fun i wr => ∃ k : Nat, i = .int .i64 k ∧ k ≤ rs1.length ∧ Below we.heap.size we wr) (fun i _ => rs1.length - (intOf i).toNat)
              case atStart => exact ⟨0, rfl, Nat.zero_le _, Below.refl _ _⟩
              case round =>
                obtain ⟨q, rfl, hk2, hb⟩ := hrel
                have BE := Lib.hid hb
                clear hb
                by_cases hlt2 : q < rs1.length
                · obtain ⟨x, hx⟩ : ∃ x, rs1[q]? = some x := ⟨_, List.getElem?_eq_getElem hlt2⟩
                  obtain ⟨b, off, rfl, d0, d1, d2, d3, d4⟩ := (RA.out.below BE.out).rs hx
                  obtain ⟨f1, f2, f3, f4⟩ := P4.out x (List.mem_of_getElem? hx)
                  have hw := wrapM (k := q) (by have := P6.out; omega)
                  obtain ⟨W, hW⟩ : ∃ W, W = wr.alloc (.cells (rsC x) 50) := ⟨_, rfl⟩
                  have hbW : Below wr.heap.size wr W := by rw [hW]; exact below_al (Below.refl _ _)
                  have LX := Lib.hid (hW ▸ Lies.new wr (rsC x) 50)
                  have BW := Lib.hid (below_next BE.out hbW)
                  have N1 := NF.out.below (below_drewOf BW.out)
                  have e0 := N1.look f1 f2
                  have e1 := N1.get x.p.lo x.p.hi f3
                  have HW := Lib.hid hW
                  obtain ⟨xb, hxbe⟩ : ∃ xb, xb = wr.heap.size := ⟨_, rfl⟩
                  have HXE := Lib.hid hxbe
                  rw [← hxbe] at LX
                  obtain ⟨v, hv⟩ : ∃ v, v = f x.p.lo x.p.hi := ⟨_, rfl⟩
                  rw [← hv] at e0 e1
                  obtain ⟨g, hg⟩ : ∃ g, g = nAt rs2 ⟨x.p.lo, x.p.hi, x.p.key⟩ := ⟨_, rfl⟩
                  have hge1 : x.n ≤ g := by rw [hg]; exact P1.out x (List.mem_of_getElem? hx)
                  rw [← hg] at e1
                  have hno : ¬ g < x.n := by omega
                  have hno2 : decide (g < x.n) = false := by rw [decide_eq_false_iff_not]; omega
                  clear hx hbW N1 hv hg hge1
                  go_upto_region 19 with fail
                  rw [← HW.out, ← HXE.out]
                  clear hW hxbe d0 d1 d2 d3 d4
                  have c0 := LX.out.cell (j := 0) rfl; have c1 := LX.out.cell (j := 1) rfl; have c2 := LX.out.cell (j := 2) rfl; have c3 := LX.out.cell (j := 3) rfl; have c4 := LX.out.cell (j := 4) rfl
                  go_region
                  clear c0 c1 c2 c3 c4 e0 e1
                  go_wp2_with fail
                  go_roundw
                  case rel => exact ⟨q + 1, rfl, by omega, below_drewOf BW.out⟩
                  case measure => simp [intOf]; omega
                · have hge2 : rs1.length ≤ q := by omega
                  have hle := P2.out
                  go_wp2_with fail
                  refine (HA.out _).mono ?_
                  rintro e w9 ⟨rfl, hb9⟩
                  have HB9 := Lib.hid (below_next (below_next (below_next HB3.out BB.out) BE.out) hb9)
                  clear hb9
                  go_wp2_with fail
                  go_ret
                  exact ⟨rfl, HB9.out⟩
        · have g1 : (z2 == 0) = false := ne_b hz2
          have g2 := nb hz2
          subst hz1
          go_wp2_with fail
          refine (HA.out _).mono ?_
          rintro e w4 ⟨rfl, hb4⟩
          have HB4 := Lib.hid (below_next HB3.out hb4)
          clear hb4
          go_wp2_with fail
          go_ret
          exact ⟨rfl, HB4.out⟩
      · have g1 : (z1 == 0) = false := ne_b hz1
        have g2 := nb hz1
        go_wp2_with fail
        refine (HA.out _).mono ?_
        rintro e w4 ⟨rfl, hb4⟩
        have HB4 := Lib.hid (below_next HB3.out hb4)
        clear hb4
        go_wp2_with fail
        go_ret
        exact ⟨rfl, HB4.out⟩
theorem lawModelMore : Lift.Owes 8 [23, 29, 24] := by
  intro H enc W base args ds ps hval hA _ _
  obtain ⟨v0, v1, v2, d0, d1, d2, p0, p1, p2, rfl, rfl, rfl, h0, h1, h2⟩ := trodAll_three hA
  obtain ⟨j, rfl, hl⟩ := Jo.openJb (hval 0 _ v0 rfl rfl) h0
  obtain ⟨A, c, ls, rfl, hc1, hc2, hrow, hs⟩ := openInsM (hval 1 _ v1 rfl rfl) h1
  obtain ⟨t, rfl, ht⟩ := openEvsM (hval 2 _ v2 rfl rfl) h2
  exact walkModelMore j hl ls A c t hc1 hc2 W hrow hs ht
end Mo
theorem lawModelMore : Lift.Owes 8 [23, 29, 24] := Mo.lawModelMore
end Go.Proofs.Ytipmphkmeiogoaa
