/- The walk of the law ModelCounts. -/
import Derived.Test.YtipmphkmeiogoaaZ30
import Derived.Test.YtipmphkmeiogoaaZ4
namespace Go.Proofs.Ytipmphkmeiogoaa
open Go.ChangeShapes Go.WideShapes Go.ChangeAt Go.RowKit Go.Shelf Tick
set_option linter.unusedVariables false
set_option maxRecDepth 8000
namespace Mo
open Gen (TellsI TellsB SaysI lies_new1)
open Jo (Jb Ev Sr evIs srcOk insOk jbC jbV srV evL Srs)
open Pan (Pl Pn Rs adds)
set_option maxRecDepth 100000 in
set_option maxHeartbeats 1000000 in
theorem walkModelCounts (j : Jb) (hlim : Lp.inI j.limit) (ls : List Sr) (A : Option Addr) (c : Nat) (hl : ls.length ≤ c) (hc : c ≤ maxLen) (w : World) (h : Row w A (ls.flatMap fun s => [srV s])) (hok : ∀ s ∈ ls, SrOk w s) :
    Calls Try.prog 7 #[jbV j, .slice A ls.length c] w (TellsB true w) := by
  have hb0 := below_al (o := .cells (jbC j) 23) (Below.refl w.heap.size w)
  have HF := Lib.hid (lawFewM ls A c hl hc _ (h.below hb0) (fun s hs => (hok s hs).below hb0))
  have hfo := fews_ok hok
  obtain ⟨J, hJ⟩ : ∃ J : Jb, J = { j with slide := j.size } := ⟨_, rfl⟩
  have hbd := fews_bd J ls
  have hlimJ : Lp.inI J.limit := by rw [hJ]; exact hlim
  have HJC : Hid (jbC J = #[.int .i64 j.groups, .int .i64 j.size, .int .i64 j.size, .int .i64 j.fold, .int .i64 j.fuel, .int .i64 j.limit, .int .i64 j.delay, .int .i64 j.idle]) := Lib.hid (by rw [hJ])
  have hJs : J.size = J.slide := by rw [hJ]
  obtain ⟨L, hL⟩ : ∃ L, L = fews ls := ⟨_, rfl⟩
  rw [← hL] at HF hfo hbd
  have HFO := Lib.hid hfo
  have HRUN := Lib.hid (fun (A1 : Option Addr) (c1 : Nat) w' (hr : Row w' A1 (L.flatMap fun s => [srV s])) (hb : Below w.heap.size w w') => mdRun J hlimJ L A1 c1 w' hr (srs_of fun s hs => (hfo s hs).below hb) (fun s hs => (hfo s hs).fit) hbd)
  have HKE := Lib.hid (fun s (hs : s ∈ L) w' (hb : Below w.heap.size w w') => (one_of (j := J) hlimJ (hfo s hs) rfl).kept w' hb)
  have HA := Lib.hid (fun w => lawAliveM w)
  have LJ := Lib.hid (Lies.new w (jbC j) 23)
  have HB0 := Lib.hid hb0
  have HJJ := Lib.hid hJ
  obtain ⟨z, hz⟩ : ∃ z, z = chk J L := ⟨_, rfl⟩
  have HZ := Lib.hid hz
  have HBD := Lib.hid hbd
  have HJS := Lib.hid hJs
  clear hz hJ hL hfo hbd hlimJ h hok hl hc hb0 hlim hJs
  go_enter Try.func7, Try.ntmps7
  go_wp2_with fail
  refine HF.out.mono ?_
  rintro e w1 ⟨A1, c1, rfl, l1, l2, r1, hb1⟩
  have HB1 := Lib.hid (below_next HB0.out hb1)
  have LJ1 := LJ.out.below hb1
  have x1 := LJ1.cell (j := 1) rfl
  have x2 := LJ1.cell (j := 2) rfl
  have f2 := LJ1.free 2
  have LJ2 : Hid (Lies w.heap.size (jbC J) 23 (w1.setCell ⟨w.heap.size, 2, none⟩ (.int .i64 j.size))) := Lib.hid (by rw [HJC.out]; have h := LJ1.set 2 (.int .i64 j.size); simpa using h)
  have HB2 : Hid (Below w.heap.size w (w1.setCell ⟨w.heap.size, 2, none⟩ (.int .i64 j.size))) := Lib.hid (HB1.out.setCell (p := ⟨w.heap.size, 2, none⟩) (Nat.le_refl _) _)
  have R2 : Hid (Row (w1.setCell ⟨w.heap.size, 2, none⟩ (.int .i64 j.size)) A1 (L.flatMap fun s => [srV s])) := Lib.hid (row_cellM r1 (p := ⟨w.heap.size, 2, none⟩) x2 (by intro hm; obtain ⟨t, _, ht⟩ := List.mem_flatMap.1 hm; simp at ht) _)
  clear hb1 r1 LJ1 l1
  go_upto_region 3 with fail
  obtain ⟨w2, hw2⟩ : ∃ w2, w2 = w1.setCell ⟨w.heap.size, 2, none⟩ (.int .i64 j.size) := ⟨_, rfl⟩
  rw [← hw2] at LJ2 HB2 R2 ⊢
  clear hw2 x1 x2 f2
  have x0 := LJ2.out.cell (j := 0) rfl; have x1 := LJ2.out.cell (j := 1) rfl; have x2 := LJ2.out.cell (j := 2) rfl; have x3 := LJ2.out.cell (j := 3) rfl; have x4 := LJ2.out.cell (j := 4) rfl; have x5 := LJ2.out.cell (j := 5) rfl; have x6 := LJ2.out.cell (j := 6) rfl; have x7 := LJ2.out.cell (j := 7) rfl
  have hJV : ∀ v0 : Value, True := fun _ => trivial
  rw [HJJ.out] at x0 x1 x2 x3 x4 x5 x6 x7
  simp only [List.getElem_toArray, List.getElem_cons_zero, List.getElem_cons_succ] at x0 x1 x2 x3 x4 x5 x6 x7
  have HJV : Hid (Value.agg #[.int .i64 j.groups, .int .i64 j.size, .int .i64 j.size, .int .i64 j.fold, .int .i64 j.fuel, .int .i64 j.limit, .int .i64 j.delay, .int .i64 j.idle] = jbV J) := Lib.hid (by rw [HJJ.out])
  clear hJV
  by_cases hz0 : z = 0
  · have hc0 : chk J L = 0 := by rw [← HZ.out]; exact hz0
    obtain ⟨hr, hio⟩ := chk_ok hc0
    have hbd := HBD.out hio
    have hall := keptAll_is (j := J) hio
    have hce := counts_eq hr HJS.out hall hbd
    have hsb := sumN_bd hr hbd
    have hLl := (insOk_all4 hio).1
    have HRUN := Lib.hid (fun A1 c1 w' hr' hb => runOut_ok (j := J) hc0 ▸ HRUN.out A1 c1 w' hr' hb)
    have HKE := Lib.hid (fun s (hs : s ∈ L) w' hb => keptOut_ok (j := J) (chk_mem hc0 hs) ▸ HKE.out s hs w' hb)
    have HTL := Lib.hid (fun k => keptAll_take_le J L k)
    obtain ⟨T, hT⟩ : ∃ T, T = keptAll J (L.map (·.l)) := ⟨_, rfl⟩
    rw [← hT] at HRUN hbd hce hsb HTL
    obtain ⟨rs, hrs⟩ : ∃ rs, rs = res J T := ⟨_, rfl⟩
    rw [← hrs] at HRUN hce hsb
    have hrl : rs.length ≤ 2000 := by
      rw [hrs]
      unfold res
      rw [List.length_map]
      have := panes_len J T
      omega
    have HT := Lib.hid hT
    have HCE := Lib.hid hce
    have HSB := Lib.hid hsb
    have HTB := Lib.hid hbd
    clear hz0 hc0 hr hio hall hT hrs HZ HBD hce hsb hbd
    go_wp2_with fail
    rw [HJV.out]
    refine (HRUN.out A1 c1 _ R2.out HB2.out).mono ?_
    rintro e w3 ⟨A3, c3, rfl, m1, m2, r3, hb3⟩
    simp only at m1 r3
    have LJ3 := Lib.hid (LJ2.out.below hb3)
    have R3 := Lib.hid (R2.out.below hb3)
    have HB3 := Lib.hid (below_next HB2.out hb3)
    have RR3 := Lib.hid r3
    clear hb3 r3 m1 x0 x1 x2 x3 x4 x5 x6 x7
    go_wp2_with fail
    go_loopw [7, 36] (fun a i wr => ∃ k : Nat, i = .int .i64 k ∧ a = .int .i64 ((keptAll J ((L.take k).map (·.l))).length : Int) ∧ k ≤ L.length ∧ Below w3.heap.size w3 wr) (fun _ i _ => L.length - (intOf i).toNat)
    case atStart => exact ⟨0, rfl, rfl, Nat.zero_le _, Below.refl _ _⟩
    case round =>
      obtain ⟨wo, hwo⟩ : ∃ wo, wo = wr := ⟨_, rfl⟩
      subst hwo
      obtain ⟨k, rfl, rfl, hk, hbk⟩ := hrel
      have HBK := Lib.hid hbk
      have LJ4 := Lib.hid (LJ3.out.below hbk)
      clear hbk
      by_cases hlt : k < L.length
      · obtain ⟨x, hx⟩ : ∃ x, L[k]? = some x := ⟨_, List.getElem?_eq_getElem hlt⟩
        obtain ⟨b, off, rfl, d0⟩ := Jo.row_sr (R3.out.below HBK.out) hx
        simp only [srV] at d0
        have HPU := Lib.hid (all_take_push J hx)
        have hp1 := HTL.out k
        have hp2 := HTL.out (k + 1)
        have hpu := congrArg List.length HPU.out
        rw [List.length_append] at hpu
        obtain ⟨p, hp⟩ : ∃ p, p = (keptAll J ((L.take k).map (·.l))).length := ⟨_, rfl⟩
        obtain ⟨q, hq⟩ : ∃ q, q = (kept J 0 x.l).length := ⟨_, rfl⟩
        have HQ := Lib.hid hq
        have HPQ : Hid ((keptAll J ((L.take (k + 1)).map (·.l))).length = p + q) := Lib.hid (by rw [hpu, hp, hq])
        have hpq : p + q ≤ 120 := by have := HTB.out; have := HPQ.out; omega
        rw [← hp]
        have hw := wrapM (k := k) (by omega)
        have hwp : IntKind.i64.wrap ((p : Int) + (q : Int)) = ((p + q : Nat) : Int) := by rw [wrap64_in (by omega) (by omega)]; push_cast; rfl
        have HK1 := Lib.hid (fun w' hb => HKE.out x (List.mem_of_getElem? hx) w' hb)
        have x0 := LJ4.out.cell (j := 0) rfl; have x1 := LJ4.out.cell (j := 1) rfl; have x2 := LJ4.out.cell (j := 2) rfl; have x3 := LJ4.out.cell (j := 3) rfl; have x4 := LJ4.out.cell (j := 4) rfl; have x5 := LJ4.out.cell (j := 5) rfl; have x6 := LJ4.out.cell (j := 6) rfl; have x7 := LJ4.out.cell (j := 7) rfl
        rw [HJJ.out] at x0 x1 x2 x3 x4 x5 x6 x7
        simp only [List.getElem_toArray, List.getElem_cons_zero, List.getElem_cons_succ] at x0 x1 x2 x3 x4 x5 x6 x7
        clear hx hp hq hpu hp1 hp2 HPU
        go_wp2_with fail
        rw [HJV.out]
        refine (HK1.out _ (below_next HB3.out HBK.out)).mono ?_
        rintro e w5 ⟨A5, c5, rfl, t1, t2, t3, hb5⟩
        have HB5 := Lib.hid (below_next HBK.out hb5)
        simp only
        rw [← HQ.out]
        clear hb5 t1 t2 t3 x0 x1 x2 x3 x4 x5 x6 x7 d0
        go_wp2_with fail
        go_roundw
        case rel => exact ⟨k + 1, rfl, by rw [HPQ.out, Int.natCast_add], by omega, HB5.out⟩
        case measure => simp [intOf]; omega
      · have hkl : k = L.length := by omega
        have HTT : Hid ((keptAll J ((L.take k).map (·.l))).length = T.length) := Lib.hid (by rw [hkl, List.take_length, HT.out])
        rw [HTT.out]
        obtain ⟨tn, htn⟩ : ∃ tn, tn = T.length := ⟨_, rfl⟩
        have HTN := Lib.hid htn
        rw [← htn]
        clear hkl htn
        go_wp2_with fail
        go_loopw [12, 55] (fun a i wr => ∃ m : Nat, i = .int .i64 m ∧ a = .int .i64 (sumN (rs.take m)) ∧ m ≤ rs.length ∧ Below wo.heap.size wo wr) (fun _ i _ => rs.length - (intOf i).toNat)
        case atStart => exact ⟨0, rfl, rfl, Nat.zero_le _, Below.refl _ _⟩
        case round =>
          obtain ⟨m, rfl, rfl, hm, hbm⟩ := hrel
          have HBM := Lib.hid hbm
          clear hbm
          by_cases hlm : m < rs.length
          · obtain ⟨x, hx⟩ : ∃ x, rs[m]? = some x := ⟨_, List.getElem?_eq_getElem hlm⟩
            obtain ⟨b, off, rfl, d0, d1, d2, d3, d4⟩ := (RR3.out.below (below_next HBK.out HBM.out)).rs hx
            have HPU : Hid (sumN (rs.take (m + 1)) = sumN (rs.take m) + x.n) := Lib.hid (by rw [take_push hx, sumN_push])
            have hs1 := HSB.out (m + 1)
            have hpu := HPU.out
            obtain ⟨g, hg⟩ : ∃ g, g = sumN (rs.take m) := ⟨_, rfl⟩
            rw [← hg] at HPU hpu ⊢
            rw [hpu] at hs1
            have hw := wrapM (k := m) (by omega)
            have hwp : IntKind.i64.wrap (g + x.n) = g + x.n := wrap64_in (by omega) (by omega)
            clear hx hg hpu hs1
            go_wp2_with fail
            go_roundw
            case rel => exact ⟨m + 1, rfl, by rw [HPU.out], by omega, below_al HBM.out⟩
            case measure => simp [intOf]; omega
          · have hge : rs.length ≤ m := by omega
            have HE : Hid (sumN (rs.take m) = (tn : Int)) := Lib.hid (by rw [List.take_of_length_le hge, HCE.out, HTN.out])
            rw [HE.out]
            have he1 : ((tn : Int) == (tn : Int)) = true := eq_b rfl
            go_wp2_with fail
            refine (HA.out _).mono ?_
            rintro e w9 ⟨rfl, hb9⟩
            have HB9 := Lib.hid (below_next (below_next (below_next HB3.out HBK.out) HBM.out) hb9)
            clear hb9
            go_wp2_with fail
            go_ret
            exact ⟨rfl, HB9.out⟩
  · have HRUN := Lib.hid (fun A1 c1 w' hr' hb => show Calls Try.prog 18 #[jbV J, .slice A1 L.length c1] w' (GivesRE ([], z) w') from HZ.out ▸ runOut_not (j := J) (ls := L) (by rw [← HZ.out]; exact hz0) ▸ HRUN.out A1 c1 w' hr' hb)
    have g1 : (z == 0) = false := ne_b hz0
    have g2 := nb hz0
    clear HZ
    go_wp2_with fail
    rw [HJV.out]
    refine (HRUN.out A1 c1 _ R2.out HB2.out).mono ?_
    rintro e w3 ⟨A3, c3, rfl, m1, m2, r3, hb3⟩
    have HB3 := Lib.hid (below_next HB2.out hb3)
    clear hb3 r3 m1 x0 x1 x2 x3 x4 x5 x6 x7
    go_wp2_with fail
    refine (HA.out _).mono ?_
    rintro e w4 ⟨rfl, hb4⟩
    have HB4 := Lib.hid (below_next HB3.out hb4)
    clear hb4
    go_wp2_with fail
    go_ret
    exact ⟨rfl, HB4.out⟩
theorem lawModelCounts : Lift.Owes 7 [23, 29] := by
  intro H enc W base args ds ps hval hA _ _
  obtain ⟨v0, v1, d0, d1, p0, p1, rfl, rfl, rfl, h0, h1⟩ := trodAll_two hA
  obtain ⟨j, rfl, hl⟩ := Jo.openJb (hval 0 _ v0 rfl rfl) h0
  obtain ⟨A, c, ls, rfl, hc1, hc2, hrow, hs⟩ := openInsM (hval 1 _ v1 rfl rfl) h1
  exact walkModelCounts j hl ls A c hc1 hc2 W hrow hs
end Mo
theorem lawModelCounts : Lift.Owes 7 [23, 29] := Mo.lawModelCounts
end Go.Proofs.Ytipmphkmeiogoaa
