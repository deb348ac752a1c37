/- The walk of the law ModelRuns. -/
import Derived.Test.YtipmphkmeiogoaaZ30
import Derived.Test.YtipmphkmeiogoaaZ34
import Derived.Test.YtipmphkmeiogoaaZ4
import Derived.Lib.MinMax
namespace Go.Proofs.Ytipmphkmeiogoaa
open Go.ChangeShapes Go.WideShapes Go.ChangeAt Go.RowKit Go.Shelf Tick
set_option linter.unusedVariables false
set_option maxRecDepth 8000
namespace Mo
open Gen (TellsI TellsB SaysI lies_new1)
open Jo (Jb Ev Sr evIs srcOk insOk jbC jbV srV evL Srs)
open Pan (Pl Pn Rs adds)
set_option maxRecDepth 100000 in
set_option maxHeartbeats 1000000 in
theorem walkModelRuns (j : Jb) (hlim : Lp.inI j.limit) (ls : List Sr) (A : Option Addr) (c : Nat) (hl : ls.length ≤ c) (hc : c ≤ maxLen) (w : World) (h : Row w A (ls.flatMap fun s => [srV s])) (hok : ∀ s ∈ ls, SrOk w s) :
    Calls Try.prog 4 #[jbV j, .slice A ls.length c] w (TellsB true w) := by
  have hb0 := below_al (o := .cells (jbC j) 23) (Below.refl w.heap.size w)
  have HF := Lib.hid (lawFewM ls A c hl hc _ (h.below hb0) (fun s hs => (hok s hs).below hb0))
  have hfo := fews_ok hok
  have hbd := fews_bd j ls
  obtain ⟨L, hL⟩ : ∃ L, L = fews ls := ⟨_, rfl⟩
  rw [← hL] at HF hfo hbd
  have hL6 : L.length ≤ 6 := by rw [hL]; unfold fews; rw [List.length_map, List.length_take]; omega
  have HRUN := Lib.hid (fun (A1 : Option Addr) (c1 : Nat) w' (hr : Row w' A1 (L.flatMap fun s => [srV s])) (hb : Below w.heap.size w w') => mdRun j hlim L A1 c1 w' hr (srs_of fun s hs => (hfo s hs).below hb) (fun s hs => (hfo s hs).fit) hbd)
  have HCK := Lib.hid (fun (A1 : Option Addr) (c1 : Nat) w' (hr : Row w' A1 (L.flatMap fun s => [srV s])) (hb : Below w.heap.size w w') => rfCheck j L A1 c1 w' hr (srs_of fun s hs => (hfo s hs).below hb) (by omega))
  have HREF := Lib.hid (fun (A1 : Option Addr) (c1 : Nat) w' (hr : Row w' A1 (L.flatMap fun s => [srV s])) (hb : Below w.heap.size w w') (h1 : Jo.right j = true) (h2 : insOk L = true) => rfRunM j h1 hlim L A1 c1 w' hr (srs_of fun s hs => (hfo s hs).below hb) h2 (fun s hs => (hfo s hs).fit) (hbd h2))
  have HA := Lib.hid (fun w => lawAliveM w)
  have HLR := Lib.hid (fun (xs : List Rs) A A' c c' w (hl : xs.length ≤ 9223372036854775807) h1 h2 => paLikeR xs hl A A' c c' w h1 h2)
  have LJ := Lib.hid (Lies.new w (jbC j) 23)
  have HB0 := Lib.hid hb0
  obtain ⟨z, hz⟩ : ∃ z, z = chk j L := ⟨_, rfl⟩
  rw [← hz] at HCK
  have HZ := Lib.hid hz
  have HBD := Lib.hid hbd
  clear hz hL hfo hbd hlim h hok hl hc hb0 hL6
  go_enter Try.func4, Try.ntmps4
  go_wp2_with fail
  refine HF.out.mono ?_
  rintro e w1 ⟨A1, c1, rfl, l1, l2, r1, hb1⟩
  have HB1 := Lib.hid (below_next HB0.out hb1)
  have LJ1 := Lib.hid (LJ.out.below hb1)
  have R1 := Lib.hid r1
  have x0 := LJ1.out.cell (j := 0) rfl; have x1 := LJ1.out.cell (j := 1) rfl; have x2 := LJ1.out.cell (j := 2) rfl; have x3 := LJ1.out.cell (j := 3) rfl; have x4 := LJ1.out.cell (j := 4) rfl; have x5 := LJ1.out.cell (j := 5) rfl; have x6 := LJ1.out.cell (j := 6) rfl; have x7 := LJ1.out.cell (j := 7) rfl
  clear hb1 r1 l1 l2
  by_cases hz0 : z = 0
  · have hc0 : chk j L = 0 := by rw [← HZ.out]; exact hz0
    obtain ⟨hr, hio⟩ := chk_ok hc0
    have hbb := HBD.out hio
    have HRUN := Lib.hid (fun A1 c1 w' hr' hb => runOut_ok (j := j) hc0 ▸ HRUN.out A1 c1 w' hr' hb)
    have HREF := Lib.hid (fun A1 c1 w' hr' hb => HREF.out A1 c1 w' hr' hb hr hio)
    have HCK := Lib.hid (fun A1 c1 w' hr' hb => hz0 ▸ HCK.out A1 c1 w' hr' hb)
    obtain ⟨rs, hrs⟩ : ∃ rs, rs = res j (keptAll j (L.map (·.l))) := ⟨_, rfl⟩
    rw [← hrs] at HRUN HREF
    have hrl : rs.length ≤ 9223372036854775807 := by
      rw [hrs]
      unfold res
      rw [List.length_map]
      have := panes_len j (keptAll j (L.map (·.l)))
      omega
    have HRL := Lib.hid hrl
    clear hz0 hc0 hr hio hbb hrs hrl HZ HBD
    go_wp2_with fail
    refine (HRUN.out A1 c1 _ R1.out HB1.out).mono ?_
    rintro e w2 ⟨A2, c2, rfl, m1, m2, r2, hb2⟩
    simp only at m1 r2
    have HB2 := Lib.hid (below_next HB1.out hb2)
    have LJ2 := Lib.hid (LJ1.out.below hb2)
    have R2 := Lib.hid (R1.out.below hb2)
    have RR2 := Lib.hid r2
    clear hb2 r2 m1 m2 x0 x1 x2 x3 x4 x5 x6 x7
    have x0 := LJ2.out.cell (j := 0) rfl; have x1 := LJ2.out.cell (j := 1) rfl; have x2 := LJ2.out.cell (j := 2) rfl; have x3 := LJ2.out.cell (j := 3) rfl; have x4 := LJ2.out.cell (j := 4) rfl; have x5 := LJ2.out.cell (j := 5) rfl; have x6 := LJ2.out.cell (j := 6) rfl; have x7 := LJ2.out.cell (j := 7) rfl
    go_wp2_with fail
    refine (HCK.out A1 c1 _ R2.out HB2.out).mono ?_
    rintro e w3 ⟨rfl, hb3⟩
    have HB3 := Lib.hid (below_next HB2.out hb3)
    have LJ3 := Lib.hid (LJ2.out.below hb3)
    have R3 := Lib.hid (R2.out.below hb3)
    have RR3 := Lib.hid (RR2.out.below hb3)
    clear hb3 x0 x1 x2 x3 x4 x5 x6 x7
    have x0 := LJ3.out.cell (j := 0) rfl; have x1 := LJ3.out.cell (j := 1) rfl; have x2 := LJ3.out.cell (j := 2) rfl; have x3 := LJ3.out.cell (j := 3) rfl; have x4 := LJ3.out.cell (j := 4) rfl; have x5 := LJ3.out.cell (j := 5) rfl; have x6 := LJ3.out.cell (j := 6) rfl; have x7 := LJ3.out.cell (j := 7) rfl
    go_wp2_with fail
    refine (HREF.out A1 c1 _ R3.out HB3.out).mono ?_
    rintro e w4 ⟨A4, c4, rfl, m1, m2, r4, hb4⟩
    simp only at m1 r4
    have HB4 := Lib.hid (below_next HB3.out hb4)
    have RR4 := Lib.hid (RR3.out.below hb4)
    have Q4 := Lib.hid r4
    clear hb4 r4 m1 m2 x0 x1 x2 x3 x4 x5 x6 x7
    go_wp2_with fail
    refine (HA.out _).mono ?_
    rintro e w7 ⟨rfl, hb7⟩
    have HB7 := Lib.hid (below_next HB4.out hb7)
    have RR7 := Lib.hid (RR4.out.below hb7)
    have R7 := Lib.hid (Q4.out.below hb7)
    clear hb7
    go_wp2_with fail
    refine (HLR.out rs _ _ _ _ _ HRL.out RR7.out R7.out).mono ?_
    rintro e w8 ⟨rfl, hb8⟩
    have HB8 := Lib.hid (below_next HB7.out hb8)
    clear hb8
    go_wp2_with fail
    go_ret
    exact ⟨rfl, HB8.out⟩
  · have HRUN := Lib.hid (fun A1 c1 w' hr' hb => show Calls Try.prog 18 #[jbV j, .slice A1 L.length c1] w' (GivesRE ([], z) w') from HZ.out ▸ runOut_not (j := j) (ls := L) (by rw [← HZ.out]; exact hz0) ▸ HRUN.out A1 c1 w' hr' hb)
    have g1 : (z == 0) = false := ne_b hz0
    have g2 := nb hz0
    clear HZ HBD HREF
    go_wp2_with fail
    refine (HRUN.out A1 c1 _ R1.out HB1.out).mono ?_
    rintro e w2 ⟨A2, c2, rfl, m1, m2, r2, hb2⟩
    have HB2 := Lib.hid (below_next HB1.out hb2)
    have LJ2 := Lib.hid (LJ1.out.below hb2)
    have R2 := Lib.hid (R1.out.below hb2)
    clear hb2 r2 m1 m2 x0 x1 x2 x3 x4 x5 x6 x7
    have x0 := LJ2.out.cell (j := 0) rfl; have x1 := LJ2.out.cell (j := 1) rfl; have x2 := LJ2.out.cell (j := 2) rfl; have x3 := LJ2.out.cell (j := 3) rfl; have x4 := LJ2.out.cell (j := 4) rfl; have x5 := LJ2.out.cell (j := 5) rfl; have x6 := LJ2.out.cell (j := 6) rfl; have x7 := LJ2.out.cell (j := 7) rfl
    go_wp2_with fail
    refine (HCK.out A1 c1 _ R2.out HB2.out).mono ?_
    rintro e w3 ⟨rfl, hb3⟩
    have HB3 := Lib.hid (below_next HB2.out hb3)
    clear hb3 x0 x1 x2 x3 x4 x5 x6 x7
    go_wp2_with fail
    refine (HA.out _).mono ?_
    rintro e w4 ⟨rfl, hb4⟩
    have HB4 := Lib.hid (below_next HB3.out hb4)
    clear hb4
    go_wp2_with fail
    go_ret
    exact ⟨rfl, HB4.out⟩
theorem lawModelRuns : Lift.Owes 4 [23, 29] := by
  intro H enc W base args ds ps hval hA _ _
  obtain ⟨v0, v1, d0, d1, p0, p1, rfl, rfl, rfl, h0, h1⟩ := trodAll_two hA
  obtain ⟨j, rfl, hl⟩ := Jo.openJb (hval 0 _ v0 rfl rfl) h0
  obtain ⟨A, c, ls, rfl, hc1, hc2, hrow, hs⟩ := openInsM (hval 1 _ v1 rfl rfl) h1
  exact walkModelRuns j hl ls A c hc1 hc2 W hrow hs
end Mo
theorem lawModelRuns : Lift.Owes 4 [23, 29] := Mo.lawModelRuns
end Go.Proofs.Ytipmphkmeiogoaa
