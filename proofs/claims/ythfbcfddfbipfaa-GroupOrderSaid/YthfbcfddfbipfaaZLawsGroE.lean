/- The walk of the law GroupOrder. -/
import Derived.Test.YthfbcfddfbipfaaZLawsGroA
import Derived.Test.YthfbcfddfbipfaaZ33
import Derived.Deep.CutBlock
import Derived.RegionTactic
import Derived.BigRegion
import Derived.ChangeAlike
import Derived.LoopTactic
namespace Go.Proofs.Ythfbcfddfbipfaa
open Go.ChangeShapes Go.WideShapes Go.ChangeAt Go.RowKit
set_option linter.unusedVariables false
set_option maxRecDepth 8000
namespace Grp
open Pan (Pn Pl Rs resOf resO)
/-- The ways that two orders of the same events may go. -/
theorem order_ways {j : Jb} {g : Gp} {us ms : List Ev} (hp : ms.Perm us) (h20 : us.length ≤ 20) (hn : ∀ a ∈ g.ps, a.acc.n ≤ 9223372036854775807) :
    (∃ z, allT j g us = (z, true) ∧ allT j g ms = (z, true)) ∨ (∃ z1 z2 b1 b2, allT j g us = (z1, b1) ∧ allT j g ms = (z2, b2) ∧ ((b1 = false ∧ b2 = false) ∨ (0 < g.ps.length ∧ ((b1 = true ∧ b2 = false) ∨ (b1 = false ∧ b2 = true))))) := by
  by_cases hb : (jobOk j && right g) = true
  · rw [Bool.and_eq_true] at hb
    obtain ⟨hj, hg⟩ := hb
    obtain ⟨u1, u2⟩ := allT_ok hj hg hn us
    obtain ⟨m1, m2⟩ := allT_ok hj hg hn ms
    have hpr : Pan.right g.ps = true := ((right_iff g).1 hg).2.1
    have hne : ∀ {a b : Option (List Pn)}, takesO j.size j.slide j.fold g.mark g.ps us = a → takesO j.size j.slide j.fold g.mark g.ps ms = b → a ≠ b → 0 < g.ps.length := fun h1 h2 h3 => by
      rcases Nat.eq_zero_or_pos g.ps.length with h0 | h0
      · exfalso
        rw [List.eq_nil_of_length_eq_zero h0] at h1 h2
        rw [takes_none hp.symm h20] at h1
        exact h3 (h1.symm.trans h2)
      · exact h0
    cases hu : takesO j.size j.slide j.fold g.mark g.ps us with
    | none =>
      have e1 := u2 hu
      cases hm : takesO j.size j.slide j.fold g.mark g.ps ms with
      | none =>
        have e2 := m2 hm
        exact .inr ⟨(allT j g us).1, (allT j g ms).1, false, false, by rw [← e1], by rw [← e2], .inl ⟨rfl, rfl⟩⟩
      | some y =>
        obtain ⟨e2, _⟩ := m1 y hm
        exact .inr ⟨(allT j g us).1, _, false, true, by rw [← e1], e2, .inr ⟨hne hu hm (by simp), .inr ⟨rfl, rfl⟩⟩⟩
    | some x =>
      obtain ⟨e1, _⟩ := u1 x hu
      cases hm : takesO j.size j.slide j.fold g.mark g.ps ms with
      | none =>
        have e2 := m2 hm
        exact .inr ⟨_, (allT j g ms).1, true, false, e1, by rw [← e2], .inr ⟨hne hu hm (by simp), .inl ⟨rfl, rfl⟩⟩⟩
      | some y =>
        obtain ⟨e2, _⟩ := m1 y hm
        have := takes_perm hpr hn hp hm hu
        subst this
        exact .inl ⟨_, e1, e2⟩
  · have hb' : (jobOk j && right g) = false := by simpa using hb
    have e1 := allT_bad hb' us
    have e2 := allT_bad hb' ms
    have e3 : ms.isEmpty = us.isEmpty := by
      have := hp.length_eq
      cases ms <;> cases us <;> simp at this ⊢
    cases h : us.isEmpty
    · exact .inr ⟨g, g, false, false, by rw [e1, h], by rw [e2, e3, h], .inl ⟨rfl, rfl⟩⟩
    · exact .inl ⟨g, by rw [e1, h], by rw [e2, e3, h]⟩
/-- What all hands back, taken apart. -/
def GivesB (no mark : Int) (zs : List Pn) (b : Bool) (w : World) (e : Ending) (w' : World) : Prop :=
  ∃ A c, e = .returned (.tuple #[gpV no mark (.slice A zs.length c), .bool b]) ∧ zs.length ≤ c ∧ c ≤ maxLen ∧ Row w' A (pc zs) ∧ Below w.heap.size w w'
theorem lawAllB {j : Jb} {no mark : Int} {ys : List Pn} {l : List Ev} {no1 mark1 : Int} {zs : List Pn} {b : Bool} (h : allT j ⟨no, mark, ys⟩ l = (⟨no1, mark1, zs⟩, b)) (A : Option Addr) (c : Nat) (D : Option Addr) (d n : Nat) (w : World) (hA : Row w A (pc ys)) (hl : ys.length ≤ c) (hc : c ≤ maxLen)
    (hD : Row w D (ec l)) (hn : n = l.length) (hd : n ≤ 20) : Calls Try.prog 26 #[jbV j, gpV no mark (.slice A ys.length c), .slice D n d] w (GivesB no1 mark1 zs b w) := by
  subst hn
  have h1 := lawAll j ⟨no, mark, ys⟩ l A c D d w hA hl hc hD (by omega)
  rw [h] at h1; exact h1
set_option maxRecDepth 100000 in
set_option maxHeartbeats 4000000 in
theorem walkGroupOrder (j : Jb) (no mark : Int) (xs : List Pn) (vs : List Ev) (ss : List Int) (m : Int) (A : Option Addr) (c : Nat) (D : Option Addr) (d : Nat) (S : Option Addr) (s : Nat) (w : World)
    (hA : Row w A (pc xs)) (hl : xs.length ≤ c) (hc : c ≤ maxLen) (hf : ∀ x ∈ xs, FitP x) (hD : Row w D (ec vs)) (hdl : vs.length ≤ d) (hdc : d ≤ 9223372036854775807) (hs : Row w S (ss.map (Value.int .i64))) (hsl : ss.length ≤ 9223372036854775807) :
    Calls Try.prog 7 #[jbV j, gpV no mark (.slice A xs.length c), .slice D vs.length d, .slice S ss.length s, .int .i64 m] w (TellsB true w) := by
  have HF := Lib.hid (fun w' (hb : Below w.heap.size w w') => lawFew no mark xs A c w' (hA.below hb) hl hc)
  have hf2 := fewL_fit hf
  obtain ⟨ys, hys⟩ : ∃ ys, ys = fewL xs := ⟨_, rfl⟩
  rw [← hys] at HF hf2
  obtain ⟨us, hus⟩ : ∃ us, us = vs.take 20 := ⟨_, rfl⟩
  obtain ⟨n, hnn⟩ : ∃ n, n = us.length := ⟨_, rfl⟩
  have hnv : n = if 20 < vs.length then 20 else vs.length := by rw [hnn, hus, List.length_take]; split <;> omega
  have hn20 : n ≤ 20 := by rw [hnv]; split <;> omega
  have hnd : n ≤ d := by rw [hnv]; split <;> omega
  have HN := Lib.hid hnn
  have HV := Lib.hid (hus ▸ row_takeE hD 20 : Row w D (ec us))
  have HNV := Lib.hid hnv
  have HSR := Lib.hid hs
  have HW := Lib.hid (fun ms (hp : ms.Perm us) => order_ways (j := j) (g := ⟨no, mark, ys⟩) (us := us) (ms := ms) hp (by omega) (fun a ha => (hf2 a ha).n))
  obtain ⟨i0, hi0, hz0, hz1, hz2⟩ := info_parts evInfo
  have HI0 := Lib.hid hi0; have HZ0 := Lib.hid hz0; have HZ1 := Lib.hid hz1; have HZ2 := Lib.hid hz2
  have B0 := Lib.hid (Bx.start w j no mark (.slice A xs.length c))
  clear hA hl hc hys hf hf2 hD hus hnv hs hnn hi0 hz0 hz1 hz2
  go_enter Try.func7, Try.ntmps7
  go_wp2_with fail
  refine (HF.out _ B0.out.below).mono ?_
  rintro e w1 ⟨A1, c1, rfl, l1, m1, R1, hb1⟩
  have B1 := Lib.hid (B0.out.next hb1)
  have L1 := Lib.hid (And.intro l1 m1)
  have R1' := Lib.hid (row_set3 R1 B1.out.gp (pc_big _) no mark (.slice A1 ys.length c1))
  have B2 := Lib.hid (B1.out.set3 no mark (.slice A1 ys.length c1))
  obtain ⟨g0, g1, g2⟩ := B1.out.gps
  have f0 := B1.out.gp.free 0; have f1 := B1.out.gp.free 1; have f2 := B1.out.gp.free 2
  clear hb1 R1 l1 m1
  go_upto_if 29 with fail
  go_cut [2] from 30 (fun s wb => s = .slice D n d ∧ Bx w j no mark (.slice A1 ys.length c1) wb ∧ Row wb A1 (pc ys))
  case first =>
    by_cases h : 20 < vs.length
    · have h1 : (20 : Int) < vs.length := by omega
      have h2 : (20 : Int) ≤ d := by omega
      have hn := HNV.out
      rw [if_pos h] at hn
      go_wp2_with fail
      go_meet
      case rel => exact ⟨by rw [hn], B2.out, R1'.out⟩
    · have h1 : (vs.length : Int) ≤ 20 := by omega
      have hn := HNV.out
      rw [if_neg h] at hn
      go_wp2_with fail
      go_meet
      case rel => exact ⟨by rw [hn], B2.out, R1'.out⟩
  case rest =>
    obtain ⟨rfl, hbx, hr1⟩ := hcut
    obtain ⟨wb, hwb⟩ : ∃ wb, wb = wc := ⟨_, rfl⟩
    subst hwb
    have BX := Lib.hid hbx
    have HR1 := Lib.hid hr1
    have HVC := Lib.hid (HV.out.below hbx.below)
    have HSC := Lib.hid (HSR.out.below hbx.below)
    clear hbx hr1 g0 g1 g2 f0 f1 f2
    go_wp2_with (at_builtin; refine hold_mk ?_)
    refine hold_out ?_
    refine wpApp rfl _ _ _ rfl wb.heap.size 28 i0 _ 3 32 Try.underlying49 HI0.out HZ0.out HZ1.out HZ2.out rfl (by omega) _ 0 [] rfl (own_new (Nat.le_refl _)) D n d (ec us) rfl
      (HVC.out.below (below_al (Below.refl _ _))) (by rw [ec_len, HN.out]) (ec_ones us) (by unfold maxLen; omega) (by omega) (by simp) ?_
    intro v1 w2 hown1 hb1
    rw [Nat.zero_add, List.nil_append] at hown1
    have B1' := Lib.hid ((below_al (o := .cells #[] 28) (Below.refl wb.heap.size wb)).trans hb1)
    have HOW := Lib.hid hown1
    clear hown1 hb1
    go_upto_block 0 with fail
    go_cut [11, 12, 13, 14] from 37 (fun s7 s8 s9 s10 wx => ∃ B e ms, s7 = .slice B n e ∧ ms.Perm us ∧ Row wx B (ec ms) ∧ Below wb.heap.size wb wx)
    case first =>
      rcases HOW.out.2 with ⟨rfl, h0⟩ | ⟨g, cap, cur, rfl, hg, hh, hn, hm, hcur, hx⟩
      · have hyn : us = [] := List.eq_nil_of_length_eq_zero (by have := HN.out; omega)
        subst hyn
        subst h0
        clear HOW
        go_wp2_with fail
        go_loop [37] (fun i => i = .int .i64 (0 : Nat)) (fun _ => 0)
        case atStart => rfl
        case round =>
          obtain rfl := hrel
          by_cases hlt : 0 < ss.length
          · obtain ⟨x, b, off, rfl, hx, hc2⟩ := (HSC.out.below B1'.out).ints hlt
            rw [Nat.add_zero] at hc2
            clear hx
            go_wp2_with fail
            go_meet
            case rel => exact ⟨none, 0, [], rfl, List.Perm.refl _, Row.nil, B1'.out⟩
          · go_wp2_with fail
            go_meet
            case rel => exact ⟨none, 0, [], rfl, List.Perm.refl _, Row.nil, B1'.out⟩
      · have T1 := Lib.hid (show MixedE wb us n g cap w2 from ⟨⟨us, List.Perm.refl _, HOW.out⟩, B1'.out⟩)
        have HG := Lib.hid hg
        clear hh hn hm hcur hx hg B1' HOW
        go_wp2_with fail
        go_loopw [37] (fun i wr => (∃ j : Nat, i = .int .i64 j ∧ j ≤ ss.length) ∧ MixedE wb us n g cap wr) (fun i _ => ss.length - (intOf i).toNat)
        case atStart => exact ⟨⟨0, rfl, Nat.zero_le _⟩, T1.out⟩
        case round =>
          obtain ⟨⟨i, rfl, hj⟩, ⟨ms, hp, hown⟩, hbw⟩ := hrel
          have hml : ms.length = n := hp.length_eq.trans HN.out.symm
          have HP := Lib.hid hp
          have HO := Lib.hid hown
          have BB := Lib.hid hbw
          have HM := Lib.hid (show Row wr (some ⟨g, 0, none⟩) (ec ms) from by
            obtain ⟨A', c', he, _, _, _, hr', _⟩ := own_form hown (by omega)
            cases he
            exact hr')
          clear hp hown hbw T1
          by_cases hlt : i < ss.length
          · obtain ⟨x, b, off, rfl, hx, hc2⟩ := (HSC.out.below BB.out).ints hlt
            clear hx
            by_cases hn : i + 1 < n
            · obtain ⟨q, hq⟩ : ∃ q, x.tmod ((n : Int) - i) = q := ⟨_, rfl⟩
              have q1 : -((n : Int) - i) < q := hq ▸ tmod_loG (by omega)
              have q2 : q < (n : Int) - i := hq ▸ Int.tmod_lt_of_pos _ (by omega)
              obtain ⟨r, hr⟩ : ∃ r, (q + n - i).tmod ((n : Int) - i) = r := ⟨_, rfl⟩
              have r1 : 0 ≤ r := hr ▸ Int.tmod_nonneg _ (by omega)
              have r2 : r < (n : Int) - i := hr ▸ Int.tmod_lt_of_pos _ (by omega)
              have hr3 : (q + n - i) % ((n : Int) - i) = r := by rw [← Int.tmod_eq_emod_of_nonneg (by omega)]; exact hr
              obtain ⟨kk, hk⟩ : ∃ kk : Nat, (i : Int) + r = kk := ⟨((i : Int) + r).toNat, by omega⟩
              have k1 : i ≤ kk := by omega
              have k2 : kk < n := by omega
              obtain ⟨u, hu⟩ : ∃ u, ms[i]? = some u := ⟨_, List.getElem?_eq_getElem (by omega)⟩
              obtain ⟨v, hv⟩ : ∃ v, ms[kk]? = some v := ⟨_, List.getElem?_eq_getElem (by omega)⟩
              obtain ⟨⟨a0, a1, a2⟩, a4, a5, a6⟩ := own_cellE HO.out hu
              obtain ⟨⟨b0, b1, b2⟩, b4, b5, b6⟩ := own_cellE HO.out hv
              have HU := Lib.hid hu
              have HVV := Lib.hid hv
              have HML := Lib.hid hml
              clear hu hv hml
              by_cases hjk : i = kk
              · subst hjk
                go_wp2_with fail
                go_region
                have T2 := Lib.hid (MixedE.swap HG.out HP.out HO.out BB.out HU.out HU.out)
                clear a0 a1 a2 a4 a5 a6 b0 b1 b2 b4 b5 b6 hq hr hr3 hk
                go_wp2
                go_roundw
                case rel => exact ⟨⟨i + 1, by go_num, by omega⟩, T2.out⟩
                case measure => simp [intOf]; omega
              · have hij : i < kk := by omega
                clear hjk
                go_wp2_with fail
                go_region
                have T2 := Lib.hid (MixedE.swap HG.out HP.out HO.out BB.out HU.out HVV.out)
                clear a0 a1 a2 a4 a5 a6 b0 b1 b2 b4 b5 b6 hq hr hr3 hk
                go_wp2
                go_roundw
                case rel => exact ⟨⟨i + 1, by go_num, by omega⟩, T2.out⟩
                case measure => simp [intOf]; omega
            · have hge : n ≤ i + 1 := by omega
              go_wp2_with fail
              go_meet
              case rel => exact ⟨_, _, ms, rfl, HP.out, HM.out, BB.out⟩
          · have hge : ss.length ≤ i := by omega
            clear hlt
            go_wp2_with fail
            go_meet
            case rel => exact ⟨_, _, ms, rfl, HP.out, HM.out, BB.out⟩
    case rest =>
      obtain ⟨B, e, ms, rfl, hp, hrow, hbe⟩ := hcut
      have BX := Lib.hid (BX.out.next hbe)
      have HR1 := Lib.hid (HR1.out.below hbe)
      have HVC := Lib.hid (HVC.out.below hbe)
      have HROW := Lib.hid hrow
      have hlm := hp.length_eq
      have h2 := HW.out ms hp
      clear hp hrow hbe
      have HLM := Lib.hid (show n = ms.length by rw [hlm]; exact HN.out)
      clear hlm
      rcases h2 with ⟨⟨no1, mark1, zs⟩, t1, t2⟩ | ⟨⟨no1, mark1, zs⟩, ⟨no2, mark2, ts⟩, b1, b2, t1, t2, hb⟩
      · have HAL := Lib.hid (fun w' h1 h2 => lawAllB t1 A1 c1 D d n w' h1 L1.out.1 L1.out.2 h2 HN.out hn20)
        have HBL := Lib.hid (fun w' h1 h2 => lawAllB t2 A1 c1 B e n w' h1 L1.out.1 L1.out.2 h2 HLM.out hn20)
        clear t1 t2
        obtain ⟨⟨⟨no3, mark3, us3⟩, rs, er⟩, ho⟩ : ∃ o, o = advO j ⟨no1, mark1, zs⟩ m := ⟨_, rfl⟩
        have HADV := Lib.hid (fun A1 c1 w' (h : Row w' A1 (pc zs)) (h1 : zs.length ≤ c1) (h2 : c1 ≤ maxLen) => show Calls Try.prog 19 #[jbV j, gpV no1 mark1 (.slice A1 zs.length c1), .int .i64 m] w' (GivesA no3 mark3 us3 rs er w') from by
          have h := gpAdvance j ⟨no1, mark1, zs⟩ m A1 c1 w' h h1 h2
          rw [← ho] at h; exact h)
        have e4 : (er == er) = true := eq_b rfl
        clear ho
        obtain ⟨p0, p1, p2, p3, p4, p5, p6, p7⟩ := BX.out.jobs
        obtain ⟨g0, g1, g2⟩ := BX.out.gps
        go_wp2_with fail
        refine (HAL.out _ HR1.out HVC.out).mono ?_
        rintro e3 w3 ⟨A3, c3, rfl, l3, m3, R3, hb3⟩
        have B3 := Lib.hid (BX.out.next hb3)
        have R1 := Lib.hid (HR1.out.below hb3)
        have RW := Lib.hid (HROW.out.below hb3)
        have R3 := Lib.hid R3
        have L3 := Lib.hid (And.intro l3 m3)
        clear p0 p1 p2 p3 p4 p5 p6 p7 g0 g1 g2 hb3 l3 m3
        obtain ⟨p0, p1, p2, p3, p4, p5, p6, p7⟩ := B3.out.jobs
        obtain ⟨g0, g1, g2⟩ := B3.out.gps
        have q0 := lt_of_block B3.out.job; have q1 := lt_of_block B3.out.gp
        have G := Lib.hid (GpAt.new w3 no1 mark1 (.slice A3 zs.length c3))
        go_wp2_with fail
        refine (HBL.out _ (R1.out.below (al_below _ _)) (RW.out.below (al_below _ _))).mono ?_
        rintro e4' w4 ⟨A4, c4, rfl, l4, m4, R4, hb4⟩
        have B4 := Lib.hid ((B3.out.next (al_below _ _)).next hb4)
        have R3 := Lib.hid ((R3.out.below (al_below _ _)).below hb4)
        have G := Lib.hid (G.out.next hb4)
        have R4 := Lib.hid R4
        have L4 := Lib.hid (And.intro l4 m4)
        have K := Lib.hid (GpAt.new w4 no1 mark1 (.slice A4 zs.length c4))
        clear p0 p1 p2 p3 p4 p5 p6 p7 g0 g1 g2 q0 q1 hb4 l4 m4
        obtain ⟨p0, p1, p2, p3, p4, p5, p6, p7⟩ := B4.out.jobs
        obtain ⟨x0, x1, x2⟩ := G.out.cells
        have q0 := lt_of_block B4.out.job; have q1 := lt_of_block G.out
        go_wp2_with fail
        refine (HADV.out A3 c3 _ (R3.out.below (al_below _ _)) L3.out.1 L3.out.2).mono ?_
        rintro e5 w5 ⟨A5, c5, A6, c6, rfl, l5, m5, l6, m6, R5, R6, hb5⟩
        have B5 := Lib.hid ((B4.out.next (al_below _ _)).next hb5)
        have R3 := Lib.hid ((R3.out.below (al_below _ _)).below hb5)
        have R4 := Lib.hid ((R4.out.below (al_below _ _)).below hb5)
        have G := Lib.hid ((G.out.next (al_below _ _)).next hb5)
        have K := Lib.hid (K.out.next hb5)
        have R5 := Lib.hid R5; have R6 := Lib.hid R6
        have L5 := Lib.hid (And.intro l5 m5); have L6 := Lib.hid (And.intro l6 m6)
        have M := Lib.hid (GpAt.new w5 no3 mark3 (.slice A5 us3.length c5))
        clear p0 p1 p2 p3 p4 p5 p6 p7 x0 x1 x2 q0 q1 hb5 l5 m5 l6 m6
        obtain ⟨p0, p1, p2, p3, p4, p5, p6, p7⟩ := B5.out.jobs
        obtain ⟨y0, y1, y2⟩ := K.out.cells
        have q0 := lt_of_block B5.out.job; have q1 := lt_of_block K.out
        go_wp2_with fail
        refine (HADV.out A4 c4 _ (R4.out.below (al_below _ _)) L4.out.1 L4.out.2).mono ?_
        rintro e6 w6 ⟨A7, c7, A8, c8, rfl, l7, m7, l8, m8, R7, R8, hb6⟩
        have B6 := Lib.hid ((B5.out.next (al_below _ _)).next hb6)
        have R3 := Lib.hid ((R3.out.below (al_below _ _)).below hb6)
        have R4 := Lib.hid ((R4.out.below (al_below _ _)).below hb6)
        have R5 := Lib.hid ((R5.out.below (al_below _ _)).below hb6)
        have R6 := Lib.hid ((R6.out.below (al_below _ _)).below hb6)
        have G := Lib.hid ((G.out.next (al_below _ _)).next hb6)
        have K := Lib.hid ((K.out.next (al_below _ _)).next hb6)
        have M := Lib.hid (M.out.next hb6)
        have R7 := Lib.hid R7; have R8 := Lib.hid R8
        have N := Lib.hid (GpAt.new w6 no3 mark3 (.slice A7 us3.length c7))
        clear p0 p1 p2 p3 p4 p5 p6 p7 y0 y1 y2 q0 q1 hb6 l7 m7 l8 m8
        go_wp2_with fail
        refine (lawAliveG _).mono ?_
        rintro e7 w7 ⟨rfl, hb7⟩
        have B7 := Lib.hid ((B6.out.next (al_below _ _)).next hb7)
        have R3 := Lib.hid ((R3.out.below (al_below _ _)).below hb7)
        have R4 := Lib.hid ((R4.out.below (al_below _ _)).below hb7)
        have R5 := Lib.hid ((R5.out.below (al_below _ _)).below hb7)
        have R6 := Lib.hid ((R6.out.below (al_below _ _)).below hb7)
        have R7 := Lib.hid ((R7.out.below (al_below _ _)).below hb7)
        have R8 := Lib.hid ((R8.out.below (al_below _ _)).below hb7)
        have G := Lib.hid ((G.out.next (al_below _ _)).next hb7)
        have K := Lib.hid ((K.out.next (al_below _ _)).next hb7)
        have M := Lib.hid ((M.out.next (al_below _ _)).next hb7)
        have N := Lib.hid (N.out.next hb7)
        clear hb7
        obtain ⟨x0, x1, x2⟩ := G.out.cells
        obtain ⟨y0, y1, y2⟩ := K.out.cells
        have hz : zs.length ≤ 9223372036854775807 := by have := L3.out; unfold maxLen at this; omega
        have hz2 : us3.length ≤ 9223372036854775807 := by have := L5.out; unfold maxLen at this; omega
        have hz3 : rs.length ≤ 9223372036854775807 := by have := L6.out; unfold maxLen at this; omega
        have HL := Lib.hid (rfLike no1 mark1 zs hz)
        have HL2 := Lib.hid (rfLike no3 mark3 us3 hz2)
        have HLR := Lib.hid (paLikeR rs hz3)
        clear hz hz2 hz3
        go_wp2_with fail
        refine (HL.out _ _ _ _ _ R3.out R4.out).mono ?_
        rintro e8 w8 ⟨rfl, hb8⟩
        have B8 := Lib.hid (B7.out.next hb8)
        have R5 := Lib.hid (R5.out.below hb8); have R6 := Lib.hid (R6.out.below hb8)
        have R7 := Lib.hid (R7.out.below hb8); have R8 := Lib.hid (R8.out.below hb8)
        have M := Lib.hid (M.out.next hb8); have N := Lib.hid (N.out.next hb8)
        clear hb8 x0 x1 x2 y0 y1 y2
        obtain ⟨x0, x1, x2⟩ := M.out.cells
        obtain ⟨y0, y1, y2⟩ := N.out.cells
        go_wp2_with fail
        refine (HL2.out _ _ _ _ _ R5.out R7.out).mono ?_
        rintro e9 w9 ⟨rfl, hb9⟩
        have B9 := Lib.hid (B8.out.next hb9)
        have R6 := Lib.hid (R6.out.below hb9); have R8 := Lib.hid (R8.out.below hb9)
        clear hb9 x0 x1 x2 y0 y1 y2
        go_wp2_with fail
        refine (HLR.out _ _ _ _ _ R6.out R8.out).mono ?_
        rintro e10 w10 ⟨rfl, hb10⟩
        have B10 := Lib.hid (B9.out.next hb10)
        clear hb10
        go_wp2_with fail
        go_ret
        exact ⟨rfl, B10.out.below⟩
      · have HAL := Lib.hid (fun w' h1 h2 => lawAllB t1 A1 c1 D d n w' h1 L1.out.1 L1.out.2 h2 HN.out hn20)
        have HBL := Lib.hid (fun w' h1 h2 => lawAllB t2 A1 c1 B e n w' h1 L1.out.1 L1.out.2 h2 HLM.out hn20)
        clear t1 t2
        obtain ⟨p0, p1, p2, p3, p4, p5, p6, p7⟩ := BX.out.jobs
        obtain ⟨g0, g1, g2⟩ := BX.out.gps
        go_wp2_with fail
        refine (HAL.out _ HR1.out HVC.out).mono ?_
        rintro e3 w3 ⟨A3, c3, rfl, l3, m3, R3, hb3⟩
        have B3 := Lib.hid (BX.out.next hb3)
        have R1 := Lib.hid (HR1.out.below hb3)
        have RW := Lib.hid (HROW.out.below hb3)
        clear p0 p1 p2 p3 p4 p5 p6 p7 g0 g1 g2 hb3 l3 m3 R3
        obtain ⟨p0, p1, p2, p3, p4, p5, p6, p7⟩ := B3.out.jobs
        obtain ⟨g0, g1, g2⟩ := B3.out.gps
        have q0 := lt_of_block B3.out.job; have q1 := lt_of_block B3.out.gp
        go_wp2_with fail
        refine (HBL.out _ (R1.out.below (al_below _ _)) (RW.out.below (al_below _ _))).mono ?_
        rintro e4' w4 ⟨A4, c4, rfl, l4, m4, R4, hb4⟩
        have B4 := Lib.hid ((B3.out.next (al_below _ _)).next hb4)
        clear p0 p1 p2 p3 p4 p5 p6 p7 g0 g1 g2 q0 q1 hb4 l4 m4 R4
        rcases hb with ⟨rfl, rfl⟩ | ⟨h0, ⟨rfl, rfl⟩ | ⟨rfl, rfl⟩⟩
        · go_wp2_with fail
          refine (lawAliveG _).mono ?_
          rintro e7 w7 ⟨rfl, hb7⟩
          have B7 := Lib.hid ((B4.out.next (al_below _ _)).next hb7)
          clear hb7
          go_wp2_with fail
          go_ret
          exact ⟨rfl, B7.out.below⟩
        all_goals
          have h1 : (0 : Int) < ys.length := by omega
          go_wp2_with fail
          refine (lawAliveG _).mono ?_
          rintro e7 w7 ⟨rfl, hb7⟩
          have B7 := Lib.hid ((B4.out.next (al_below _ _)).next hb7)
          clear hb7
          obtain ⟨g0, g1, g2⟩ := B7.out.gps
          go_wp2_with fail
          go_ret
          exact ⟨rfl, B7.out.below⟩
section
open Go.ChangeShapes
variable {H : Type} {enc : TypeId × Value → H} {P : Program} {w : World} {base : Nat} {spare : Nat → Bool} {held : Bool}
theorem trodAll_five {t0 t1 t2 t3 t4 : TypeId} {args : Array Value} {ds : List (DataW H)} {ps : List MemPlace} (h : DataW.TrodAll enc P w base spare held [t0, t1, t2, t3, t4] args.toList ds ps) :
    ∃ v0 v1 v2 v3 v4 d0 d1 d2 d3 d4 p0 p1 p2 p3 p4, args = #[v0, v1, v2, v3, v4] ∧ ds = [d0, d1, d2, d3, d4] ∧ ps = p0 ++ p1 ++ p2 ++ p3 ++ p4 ∧ DataW.Trod enc P w base spare held t0 v0 d0 p0 ∧ DataW.Trod enc P w base spare held t1 v1 d1 p1 ∧
      DataW.Trod enc P w base spare held t2 v2 d2 p2 ∧ DataW.Trod enc P w base spare held t3 v3 d3 p3 ∧ DataW.Trod enc P w base spare held t4 v4 d4 p4 := by
  obtain ⟨v0, vs, d0, ds0, p0, q0, hargs, rfl, rfl, h0, hr0⟩ := trodAll_cons h
  obtain ⟨v1, vs1, d1, ds1, p1, q1, rfl, rfl, rfl, h1, hr1⟩ := trodAll_cons hr0
  obtain ⟨v2, vs2, d2, ds2, p2, q2, rfl, rfl, rfl, h2, hr2⟩ := trodAll_cons hr1
  obtain ⟨v3, vs3, d3, ds3, p3, q3, rfl, rfl, rfl, h3, hr3⟩ := trodAll_cons hr2
  obtain ⟨v4, vs4, d4, ds4, p4, q4, rfl, rfl, rfl, h4, hr4⟩ := trodAll_cons hr3
  obtain ⟨rfl, rfl, rfl⟩ := trodAll_nil hr4
  exact ⟨v0, v1, v2, v3, v4, d0, d1, d2, d3, d4, p0, p1, p2, p3, p4, by cases args; simp_all, rfl, by simp, h0, h1, h2, h3, h4⟩
end
theorem lawGroupOrder : Lift.Owes 7 [23, 26, 49, 50, 2] := by
  intro H enc W base args ds ps hval hA _ _
  obtain ⟨v0, v1, v2, v3, v4, d0, d1, d2, d3, d4, p0, p1, p2, p3, p4, rfl, rfl, rfl, h0, h1, h2, h3, h4⟩ := trodAll_five hA
  obtain ⟨j, rfl⟩ := openJob (hval 0 _ v0 rfl rfl) h0
  obtain ⟨no, mark, xs, A, c, rfl, hl, hc, hrow, hf⟩ := openGroupF (hval 1 _ v1 rfl rfl) h1
  obtain ⟨D, d, vs, rfl, hdl, hdc, hrowD⟩ := openEvs (hval 2 _ v2 rfl rfl) h2
  obtain ⟨S, s, ss, rfl, hsl, hsc, hrowS⟩ := openIntsG (hval 3 _ v3 rfl rfl) h3
  obtain ⟨m, rfl, rfl, rfl, _⟩ := open_int Try.underlying2 (hval 4 _ v4 rfl rfl) h4
  exact walkGroupOrder j no mark xs vs ss m A c D d S s W hrow hl hc hf hrowD hdl (by unfold maxLen at hdc; omega) hrowS (by unfold maxLen at hsc; omega)
end Grp
theorem lawGroupOrder : Lift.Owes 7 [23, 26, 49, 50, 2] := Grp.lawGroupOrder
end Go.Proofs.Ythfbcfddfbipfaa
