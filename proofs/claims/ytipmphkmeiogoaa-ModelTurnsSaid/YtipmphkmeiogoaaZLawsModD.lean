/- Rows of sources put together; the walk of the law ModelTurns. -/
import Derived.Test.YtipmphkmeiogoaaZ30
import Derived.Deep.RegionHeld3
import Derived.Test.YtipmphkmeiogoaaZ4
import Derived.Lib.MinMax
namespace Go.Proofs.Ytipmphkmeiogoaa
open Go.ChangeShapes Go.WideShapes Go.ChangeAt Go.RowKit Go.Shelf Tick
set_option linter.unusedVariables false
set_option maxRecDepth 8000
namespace Mo
open Gen (TellsI TellsB SaysI lies_new1)
open Jo (Jb Ev Sr evIs srcOk insOk jbC jbV srV evL Srs)
open Pan (Pl Pn Rs adds)
set_option maxRecDepth 100000 in
set_option maxHeartbeats 1000000 in
theorem walkModelTurns (j : Jb) (hlim : Lp.inI j.limit) (ls : List Sr) (A : Option Addr) (c : Nat) (by_ g i : Int) (hl : ls.length ≤ c) (hc : c ≤ maxLen) (w : World) (h : Row w A (lsC ls)) (hok : ∀ s ∈ ls, SrOk w s) :
    Calls Try.prog 5 #[jbV j, .slice A ls.length c, .int .i64 by_, .int .i64 g, .int .i64 i] w (TellsB true w) := by
  have hb0 := below_al (o := .cells (jbC j) 23) (Below.refl w.heap.size w)
  have HF := Lib.hid (lawFewM ls A c hl hc _ (h.below hb0) (fun s hs => (hok s hs).below hb0))
  have hfo := fews_ok hok
  have hbd := fews_bd j ls
  obtain ⟨L, hL⟩ : ∃ L, L = fews ls := ⟨_, rfl⟩
  rw [← hL] at HF hfo hbd
  have HRUN := Lib.hid (fun (A1 : Option Addr) (c1 : Nat) w' (hr : Row w' A1 (lsC L)) (hb : Below w.heap.size w w') => mdRun j hlim L A1 c1 w' hr (srs_of fun s hs => (hfo s hs).below hb) (fun s hs => (hfo s hs).fit) hbd)
  obtain ⟨G, hG⟩ : ∃ G, G = min (max g 1) 32 := ⟨_, rfl⟩
  obtain ⟨I, hI⟩ : ∃ I, I = min (max i 0) 1048576 := ⟨_, rfl⟩
  have hG1 : 1 ≤ G ∧ G ≤ 32 := by omega
  have hI1 : 0 ≤ I ∧ I ≤ 1048576 := by omega
  have HRUK := Lib.hid (fun (p : Nat) (hbk : insOk (L.drop p ++ L.take p) = true → (keptAll (⟨G, j.size, j.slide, j.fold, j.fuel, j.limit, j.delay, I⟩ : Jb) ((L.drop p ++ L.take p).map (·.l))).length ≤ 120) (A1 : Option Addr) (c1 : Nat) w' (hr : Row w' A1 (lsC (L.drop p ++ L.take p))) (hb : Below w.heap.size w w') =>
    mdRun (⟨G, j.size, j.slide, j.fold, j.fuel, j.limit, j.delay, I⟩ : Jb) hlim (L.drop p ++ L.take p) A1 c1 w' hr (srs_of fun s hs => (hfo s (by rcases List.mem_append.1 hs with h | h; exact List.mem_of_mem_drop h; exact List.mem_of_mem_take h)).below hb) (fun s hs => (hfo s (by rcases List.mem_append.1 hs with h | h; exact List.mem_of_mem_drop h; exact List.mem_of_mem_take h)).fit) hbk)
  have HA := Lib.hid (fun w => lawAliveM w)
  have HLR := Lib.hid (fun (xs : List Rs) A A' c c' w (hl : xs.length ≤ 9223372036854775807) h1 h2 => paLikeR xs hl A A' c c' w h1 h2)
  have LJ := Lib.hid (Lies.new w (jbC j) 23)
  have HB0 := Lib.hid hb0
  have hG' := hG.symm
  have hI' := hI.symm
  obtain ⟨z, hz⟩ : ∃ z, z = chk j L := ⟨_, rfl⟩
  have HZ := Lib.hid hz
  have HBD := Lib.hid hbd
  clear hz hL hfo hbd hlim h hok hl hc hb0 hG hI
  go_enter Try.func5, Try.ntmps5
  go_wp2_with fail
  refine HF.out.mono ?_
  rintro e w1 ⟨A1, c1, rfl, l1, l2, r1, hb1⟩
  have HB1 := Lib.hid (below_next HB0.out hb1)
  have LJ1 := Lib.hid (LJ.out.below hb1)
  have R1 := Lib.hid r1
  have x0 := LJ1.out.cell (j := 0) rfl; have x1 := LJ1.out.cell (j := 1) rfl; have x2 := LJ1.out.cell (j := 2) rfl; have x3 := LJ1.out.cell (j := 3) rfl; have x4 := LJ1.out.cell (j := 4) rfl; have x5 := LJ1.out.cell (j := 5) rfl; have x6 := LJ1.out.cell (j := 6) rfl; have x7 := LJ1.out.cell (j := 7) rfl
  clear hb1 r1
  by_cases hz0 : z = 0
  · have hc0 : chk j L = 0 := by rw [← HZ.out]; exact hz0
    obtain ⟨hr, hio⟩ := chk_ok hc0
    have hbb := HBD.out hio
    have hn1 : 1 ≤ L.length ∧ L.length ≤ 4 := by
      have h := hio
      unfold Jo.insOk at h
      rw [Bool.and_eq_true, decide_eq_true_eq] at h
      exact h.1
    have HT := Lib.hid (fun p => turned (j := j) (K := ⟨G, j.size, j.slide, j.fold, j.fuel, j.limit, j.delay, I⟩) (L := L) p hc0 hbb rfl hG1 hI1)
    have HRUN := Lib.hid (fun A1 c1 w' hr' hb => runOut_ok (j := j) hc0 ▸ HRUN.out A1 c1 w' hr' hb)
    obtain ⟨rs, hrs⟩ : ∃ rs, rs = res j (keptAll j (L.map (·.l))) := ⟨_, rfl⟩
    rw [← hrs] at HRUN HT
    have hrl : rs.length ≤ 9223372036854775807 := by
      rw [hrs]
      unfold res
      rw [List.length_map]
      have := panes_len j (keptAll j (L.map (·.l)))
      omega
    have HRL := Lib.hid hrl
    obtain ⟨n, hn⟩ : ∃ n, n = L.length := ⟨_, rfl⟩
    rw [← hn] at hn1 l1 ⊢
    have HN := Lib.hid hn
    have hnn : ((n : Int) == 0) = false := ne_b (by omega)
    obtain ⟨q, hq⟩ : ∃ q, by_.tmod (n : Int) = q := ⟨_, rfl⟩
    have q1 : -(n : Int) < q := hq ▸ tmod_loT (by omega)
    have q2 : q < (n : Int) := hq ▸ Int.tmod_lt_of_pos _ (by omega)
    have hw2 : IntKind.i64.wrap (q + (n : Int)) = q + (n : Int) := wrap64_in (by omega) (by omega)
    obtain ⟨p, hp⟩ : ∃ p : Nat, (q + (n : Int)).tmod (n : Int) = (p : Int) := ⟨((q + (n : Int)).tmod (n : Int)).toNat, (Int.toNat_of_nonneg (Int.tmod_nonneg _ (by omega))).symm⟩
    have hpn : p < n := by have := Int.tmod_lt_of_pos (q + (n : Int)) (show 0 < (n : Int) by omega); omega
    obtain ⟨ht1, ht2⟩ := HT.out p
    have HRUN := Lib.hid (fun A1 c1 w' hr' hb => show Calls Try.prog 18 #[jbV j, .slice A1 n c1] w' (GivesRE (rs, 0) w') from HN.out ▸ HRUN.out A1 c1 w' hr' hb)
    have HRUK := Lib.hid (fun A1 c1 w' hr' hb => show Calls Try.prog 18 #[jbV ⟨G, j.size, j.slide, j.fold, j.fuel, j.limit, j.delay, I⟩, .slice A1 n c1] w' (GivesRE (rs, 0) w') from by
      have h := ht1 ▸ HRUK.out p ht2 A1 c1 w' hr' hb
      rw [List.length_append, List.length_drop, List.length_take] at h
      rwa [show L.length - p + min p L.length = n by rw [← HN.out]; omega] at h)
    clear hz0 hc0 hr hio hbb hrs hrl HT HZ HBD ht1 ht2 hn
    go_wp2_with fail
    refine (HRUN.out A1 c1 _ R1.out HB1.out).mono ?_
    rintro e w2 ⟨A2, c2, rfl, m1, m2, r2, hb2⟩
    simp only at m1 r2
    have HB2 := Lib.hid (below_next HB1.out hb2)
    have LJ2 := LJ1.out.below hb2
    have R2 := Lib.hid (R1.out.below hb2)
    have RR2 := Lib.hid r2
    have M2 := Lib.hid (And.intro m1 m2)
    have y0 := LJ2.cell (j := 0) rfl; have y1 := LJ2.cell (j := 1) rfl; have y2 := LJ2.cell (j := 2) rfl; have y3 := LJ2.cell (j := 3) rfl; have y4 := LJ2.cell (j := 4) rfl; have y5 := LJ2.cell (j := 5) rfl; have y6 := LJ2.cell (j := 6) rfl; have y7 := LJ2.cell (j := 7) rfl
    clear hb2 r2 m1 m2 LJ2 x0 x1 x2 x3 x4 x5 x6 x7
    obtain ⟨x0, hx0⟩ : ∃ x0, L[0]? = some x0 := ⟨_, List.getElem?_eq_getElem (by rw [← HN.out]; omega)⟩
    obtain ⟨b, off, rfl, hsr⟩ := Jo.row_sr R2.out hx0
    have t1 : (0 : Int) ≤ (p : Int) := by omega
    have t2 : (p : Int) ≤ (n : Int) := by omega
    have t3 : (n : Int) ≤ (c1 : Int) := by omega
    have t4 : (p : Int) ≤ (c1 : Int) := by omega
    have t5 : p ≤ c1 := by omega
    have t6 : ¬ c1 = p := by omega
    have t7 : (p : Int).toNat = p := by omega
    have t8 : p ≤ n := by omega
    go_upto_region 8 with fail
    obtain ⟨w3, hw3⟩ : ∃ w3, w3 = w2.alloc (.cells (jbC ⟨G, j.size, j.slide, j.fold, j.fuel, j.limit, j.delay, I⟩) 23) := ⟨_, rfl⟩
    have hb3 : Below w2.heap.size w2 w3 := by rw [hw3]; exact below_al (Below.refl _ _)
    have LK : Lies w2.heap.size (jbC ⟨G, j.size, j.slide, j.fold, j.fuel, j.limit, j.delay, I⟩) 23 w3 := by rw [hw3]; exact Lies.new _ _ _
    rw [← hw3]
    have HB3 := Lib.hid (below_next HB2.out hb3)
    have R3 := Lib.hid (R2.out.below hb3)
    have RR3 := Lib.hid (RR2.out.below hb3)
    have S3 : w3.cell? ⟨w2.heap.size, 0, none⟩ = some (.int .i64 G) ∧ w3.cell? ⟨w2.heap.size, 1, none⟩ = some (.int .i64 j.size) ∧ w3.cell? ⟨w2.heap.size, 2, none⟩ = some (.int .i64 j.slide) ∧ w3.cell? ⟨w2.heap.size, 3, none⟩ = some (.int .i64 j.fold) ∧ w3.cell? ⟨w2.heap.size, 4, none⟩ = some (.int .i64 j.fuel) ∧ w3.cell? ⟨w2.heap.size, 5, none⟩ = some (.int .i64 j.limit) ∧ w3.cell? ⟨w2.heap.size, 6, none⟩ = some (.int .i64 j.delay) ∧ w3.cell? ⟨w2.heap.size, 7, none⟩ = some (.int .i64 I) ∧ Below w3.heap.size w3 w3 := ⟨LK.cell (j := 0) rfl, LK.cell (j := 1) rfl, LK.cell (j := 2) rfl, LK.cell (j := 3) rfl, LK.cell (j := 4) rfl, LK.cell (j := 5) rfl, LK.cell (j := 6) rfl, LK.cell (j := 7) rfl, Below.refl _ _⟩
    have S0 := keepC9 (below_drewOf (Below.refl _ _)) S3
    clear hx0 hsr hw3 hb3 LK y0 y1 y2 y3 y4 y5 y6 y7 hq hp hw2 q1 q2 hnn hG1 hI1 hG' hI'
    have B0 := Lib.hid (show BuiltL w3 (w3.alloc (.cells #[] 24)).drew (.slice (some ⟨w3.heap.size, 0, none⟩) 0 0) [] from ⟨(own_new (Nat.le_refl _)).drew, below_drewOf (below_al (Below.refl _ _))⟩)
    have LD := Lib.hid (show (L.drop p).length = n - p by rw [List.length_drop, HN.out])
    have LT := Lib.hid (show (L.take p).length = p by rw [List.length_take, ← HN.out]; omega)
    have D1 := Lib.hid (show ∀ (w9 : World), Below w3.heap.size w3 w9 → ∀ j u, (lsC (L.drop p))[j]? = some u → w9.cell? ((⟨b, off + p, none⟩ : Addr).add j) = some u from fun w9 hb j u hu => by
      rw [Go.WideShapes.add_plain]
      rw [ls_drop, List.getElem?_drop] at hu
      have := row_cellsL (R3.out.below hb) hu
      rwa [← Nat.add_assoc] at this)
    have C1 := Lib.hid (show ∀ (w9 : World), Below w3.heap.size w3 w9 → ∀ j u, (lsC (L.take p))[j]? = some u → w9.cell? ((⟨b, off, none⟩ : Addr).add j) = some u from fun w9 hb j u hu => by
      rw [Go.WideShapes.add_plain]
      rw [ls_take, List.getElem?_take] at hu
      split at hu
      · exact row_cellsL (R3.out.below hb) hu
      · cases hu)
    have HLEN := Lib.hid (show ([] ++ L.drop p ++ L.take p).length = n by rw [List.nil_append, List.length_append, LD.out, LT.out]; omega)
    have HLB := Lib.hid (show ([] ++ L.drop p).length + p ≤ 100000 by rw [List.nil_append, LD.out]; omega)
    have HNIL := Lib.hid (show [] ++ L.drop p ++ L.take p = L.drop p ++ L.take p by rw [List.nil_append])
    go_region_held3 (fun w' => w'.cell? ⟨w2.heap.size, 0, none⟩ = some (.int .i64 G) ∧ w'.cell? ⟨w2.heap.size, 1, none⟩ = some (.int .i64 j.size) ∧ w'.cell? ⟨w2.heap.size, 2, none⟩ = some (.int .i64 j.slide) ∧ w'.cell? ⟨w2.heap.size, 3, none⟩ = some (.int .i64 j.fold) ∧ w'.cell? ⟨w2.heap.size, 4, none⟩ = some (.int .i64 j.fuel) ∧ w'.cell? ⟨w2.heap.size, 5, none⟩ = some (.int .i64 j.limit) ∧ w'.cell? ⟨w2.heap.size, 6, none⟩ = some (.int .i64 j.delay) ∧ w'.cell? ⟨w2.heap.size, 7, none⟩ = some (.int .i64 I) ∧ Below w3.heap.size w3 w')
      (first | with_reducible assumption | with_reducible exact keepC9 B0.out.below S3 | with_reducible exact keepC9 B1.out.below S3 | with_reducible exact keepC9 B2.out.below S3 | with_reducible exact keepC9 (below_next B2.out.below hb5) S3)
      (first
        | (refine step_pushL rfl (.tmp 58) (.tmp 61) rfl _ [] (by simp [Act.eval]) B0.out ⟨b, off + p, none⟩ (n - p) (c1 - p) (L.drop p) (by simp [Act.eval]) LD.out (D1.out _ B0.out.below) (by simp; omega) ?_; intro v1 w4 b1; have B1 := Lib.hid b1; clear b1)
        | (refine step_pushL rfl (.tmp 62) (.tmp 65) rfl _ _ (by simp [Act.eval]) B1.out ⟨b, off, none⟩ p c1 (L.take p) (by simp [Act.eval]) LT.out (C1.out _ B1.out.below) HLB.out ?_; intro v2 w5 b2; have B2 := Lib.hid b2; obtain ⟨A5, c5, hv, q1, q2, q3, q4, q5⟩ := own_form b2.own (by omega); have Q4 := Lib.hid q4; clear b2 q1 q2 q3 q4 q5; rw [HLEN.out] at hv; subst hv)
        | (go_at_call 18; refine (HRUK.out A5 c5 _ (HNIL.out ▸ Q4.out) (below_next HB3.out B2.out.below)).mono ?_; rintro e w6 ⟨A6, c6, rfl, m1, m2, r6, hb5⟩; have R6 := Lib.hid r6; clear m1 m2 r6; dsimp only))
    rename_i hs9
    have HB6 := Lib.hid (below_next HB3.out (hs9.2.2.2.2.2.2.2.2))
    have RR6 := Lib.hid (RR3.out.below (hs9.2.2.2.2.2.2.2.2))
    clear hs9 S0 S3
    go_wp2_with fail
    refine (HA.out _).mono ?_
    rintro e w7 ⟨rfl, hb7⟩
    have HB7 := Lib.hid (below_next HB6.out hb7)
    have RR7 := Lib.hid (RR6.out.below hb7)
    have R7 := Lib.hid (R6.out.below hb7)
    clear hb7
    go_wp2_with fail
    refine (HLR.out rs _ _ _ _ _ HRL.out RR7.out R7.out).mono ?_
    rintro e w8 ⟨rfl, hb8⟩
    have HB8 := Lib.hid (below_next HB7.out hb8)
    clear hb8
    go_wp2_with fail
    go_ret
    exact ⟨rfl, HB8.out⟩
  · have HRUN := Lib.hid (fun A1 c1 w' hr' hb => show Calls Try.prog 18 #[jbV j, .slice A1 L.length c1] w' (GivesRE ([], z) w') from HZ.out ▸ runOut_not (j := j) (ls := L) (by rw [← HZ.out]; exact hz0) ▸ HRUN.out A1 c1 w' hr' hb)
    have g1 : (z == 0) = false := ne_b hz0
    have g2 := nb hz0
    clear HZ HBD hG1 hI1 hG' hI'
    go_wp2_with fail
    refine (HRUN.out A1 c1 _ R1.out HB1.out).mono ?_
    rintro e w3 ⟨A3, c3, rfl, m1, m2, r3, hb3⟩
    have HB3 := Lib.hid (below_next HB1.out hb3)
    clear hb3 r3 m1 m2 x0 x1 x2 x3 x4 x5 x6 x7
    go_wp2_with fail
    refine (HA.out _).mono ?_
    rintro e w4 ⟨rfl, hb4⟩
    have HB4 := Lib.hid (below_next HB3.out hb4)
    clear hb4
    go_wp2_with fail
    go_ret
    exact ⟨rfl, HB4.out⟩
theorem lawModelTurns : Lift.Owes 5 [23, 29, 3, 3, 3] := by
  intro H enc W base args ds ps hval hA _ _
  obtain ⟨v0, v1, v2, v3, v4, d0, d1, d2, d3, d4, p0, p1, p2, p3, p4, rfl, h0, h1, h2, h3, h4⟩ := trodAll_fiveM hA
  obtain ⟨j, rfl, hl⟩ := Jo.openJb (hval 0 _ v0 rfl rfl) h0
  obtain ⟨A, c, ls, rfl, hc1, hc2, hrow, hs⟩ := openInsM (hval 1 _ v1 rfl rfl) h1
  obtain ⟨a, rfl, _, _, _⟩ := open_int Try.underlying3 (hval 2 _ v2 rfl rfl) h2
  obtain ⟨b, rfl, _, _, _⟩ := open_int Try.underlying3 (hval 3 _ v3 rfl rfl) h3
  obtain ⟨e, rfl, _, _, _⟩ := open_int Try.underlying3 (hval 4 _ v4 rfl rfl) h4
  exact walkModelTurns j hl ls A c a b e hc1 hc2 W hrow hs
end Mo
theorem lawModelTurns : Lift.Owes 5 [23, 29, 3, 3, 3] := Mo.lawModelTurns
end Go.Proofs.Ytipmphkmeiogoaa
