/- The walk of the law PaneCounts. -/
import Derived.Test.YtklpfifellghlaaLawsPaneC
import Derived.Test.YtklpfifellghlaaPaneRes
import Derived.Test.YtklpfifellghlaaPaneKeys
import Derived.Carry
namespace Go.Proofs.Ytklpfifellghlaa
open Go.ChangeShapes Go.WideShapes Go.ChangeAt Go.RowKit Go.Maps
open Pan
set_option linter.unusedVariables false
namespace Pan
theorem total_next {l : List Pn} {j : Nat} {x : Pn} (h : l[j]? = some x) : total (l.take (j + 1)) = total (l.take j) + x.acc.n := by
  rw [take_snoc h]
  simp [total]
theorem total_pos {m : Int} : ∀ {l : List Pn}, Ns m l → 0 ≤ total l
  | [], _ => by simp [total]
  | a :: l, h => by
    have h1 := h a (by simp)
    have h2 := total_pos (l := l) fun b hb => h b (by simp [hb])
    have e : total (a :: l) = a.acc.n + total l := by simp [total]
    omega
theorem total_take {m : Int} {l : List Pn} (h : Ns m l) (j : Nat) : 0 ≤ total (l.take j) ∧ total (l.take j) ≤ total l := by
  have h1 := total_pos (l := l.take j) fun b hb => h b (List.mem_of_mem_take hb)
  have h2 := total_pos (l := l.drop j) fun b hb => h b (List.mem_of_mem_drop hb)
  have e : total l = total (l.take j) + total (l.drop j) := by
    conv => lhs; rw [← List.take_append_drop j l]
    simp only [total, List.map_append, List.sum_append]
  omega
end Pan
set_option maxRecDepth 100000 in
set_option maxHeartbeats 1000000 in
theorem walkPaneCounts (k : Int) (vs : List (Pl × Int)) (A : Option Addr) (c : Nat) (w : World) (hA : Row w A (vc vs)) (hl : vs.length ≤ c) (hc : c ≤ 9223372036854775807) :
    Calls Try.prog 9 #[.int .i64 k, .slice A vs.length c] w (TellsB true w) := by
  obtain ⟨us, hus⟩ : ∃ us, us = vs.take 40 := ⟨_, rfl⟩
  obtain ⟨n, hnn⟩ : ∃ n, n = us.length := ⟨_, rfl⟩
  have hnv : n = if 40 < vs.length then 40 else vs.length := by rw [hnn, hus, List.length_take]; split <;> omega
  have hn40 : n ≤ 40 := by rw [hnv]; split <;> omega
  have hnc : n ≤ c := by rw [hnv]; split <;> omega
  have HN := Lib.hid hnn
  have HV := Lib.hid (hus ▸ hA.takeV 40 : Row w A (vc us))
  have HNV := Lib.hid hnv
  have HALL := Lib.hid (fun w' (hb : Below w.heap.size w w') => hnn ▸ lwAll k us A c w' ((hus ▸ hA.takeV 40 : Row w A (vc us)).below hb) (by omega))
  obtain ⟨o, ho⟩ : ∃ o, o = allO k us := ⟨_, rfl⟩
  have HO := Lib.hid ho
  rw [← ho] at HALL
  have hmm := @run_makeMap Try.prog
  clear hA hus hnv hnn ho
  go_enter Try.func9, Try.ntmps9
  go_upto_if 16 with fail
  go_cut [1] from 17 (fun s wb => s = .slice A n c ∧ wb = w)
  case first =>
    by_cases h : 40 < vs.length
    · have h1 : (40 : Int) < vs.length := by omega
      have h2 : (40 : Int) ≤ c := by omega
      have hn := HNV.out
      rw [if_pos h] at hn
      go_wp2_with fail
      go_meet
      case rel => exact ⟨by rw [hn], rfl⟩
    · have h1 : (vs.length : Int) ≤ 40 := by omega
      have hn := HNV.out
      rw [if_neg h] at hn
      go_wp2_with fail
      go_meet
      case rel => exact ⟨by rw [hn], rfl⟩
  case rest =>
    obtain ⟨rfl, hw⟩ := hcut
    have hw2 := hw.symm
    clear hw
    subst hw2
    rcases o with _ | ps
    · go_wp2_with fail
      refine (HALL.out _ (Below.refl _ _)).mono ?_
      rintro e w1 ⟨A1, c1, rfl, _, _, _, hb1⟩
      have HB1 := Lib.hid hb1
      clear hb1
      go_wp2_with fail
      refine (lawAlive _).mono ?_
      rintro e w2 ⟨rfl, hb2⟩
      have HB2 := Lib.hid (below_next HB1.out hb2)
      clear hb2
      go_wp2_with fail
      go_ret
      exact ⟨rfl, HB2.out⟩
    · by_cases k1 : k < 1
      · go_wp2_with fail
        refine (HALL.out _ (Below.refl _ _)).mono ?_
        rintro e w1 ⟨A1, c1, rfl, _, _, _, hb1⟩
        have HB1 := Lib.hid hb1
        clear hb1
        go_wp2_with fail
        refine (lawAlive _).mono ?_
        rintro e w2 ⟨rfl, hb2⟩
        have HB2 := Lib.hid (below_next HB1.out hb2)
        clear hb2
        go_wp2_with fail
        go_ret
        exact ⟨rfl, HB2.out⟩
      · by_cases k5 : 5 < k
        · have k1' : decide (k < 1) = false := decide_eq_false k1
          go_wp2_with fail
          refine (HALL.out _ (Below.refl _ _)).mono ?_
          rintro e w1 ⟨A1, c1, rfl, _, _, _, hb1⟩
          have HB1 := Lib.hid hb1
          clear hb1
          go_wp2_with fail
          refine (lawAlive _).mono ?_
          rintro e w2 ⟨rfl, hb2⟩
          have HB2 := Lib.hid (below_next HB1.out hb2)
          clear hb2
          go_wp2_with fail
          go_ret
          exact ⟨rfl, HB2.out⟩
        · have hk : 1 ≤ k ∧ k ≤ 5 := ⟨by omega, by omega⟩
          have k1' : decide (k < 1) = false := decide_eq_false k1
          have k5' : decide (5 < k) = false := decide_eq_false k5
          have hul : us.length ≤ 40 := by have := HN.out; omega
          have hoo := HO.out
          rw [allO_kind hk us (by omega)] at hoo
          obtain ⟨hall, hps⟩ : us.all (fun v => plOk v.1) = true ∧ ps = adds k us := by
            by_cases h : us.all (fun v => plOk v.1) = true
            · rw [if_pos h] at hoo; exact ⟨h, by cases hoo; rfl⟩
            · rw [if_neg h] at hoo; cases hoo
          have hmem : ∀ v ∈ us, plOk v.1 = true := fun v hv => List.all_eq_true.1 hall v hv
          have hpr : right ps = true := hps ▸ adds_ok hk hmem (by omega)
          have hpn : Ns 1000000 ps := hps ▸ adds_n hk (by omega)
          have hpl : ps.length ≤ 40 := by have := len_adds k us; rw [← hps] at this; omega
          have htot : total ps = n := by rw [hps, total_adds hk us (by omega), HN.out]
          have hsize : Maps.size (plS us) = ps.length := by rw [hps]; exact plS_size hk us hmem
          have HRES := Lib.hid (fun A c w' h => paResults k ps A c w' h (by omega))
          have hres : resO k ps = ps.map (resOf k) := by unfold resO; rw [hpr, isK_true hk]; rfl
          rw [hres] at HRES
          have HMEM := Lib.hid hmem; have HPN := Lib.hid hpn; have HTOT := Lib.hid htot; have HSIZE := Lib.hid hsize
          have hrl : (ps.map (resOf k)).length = ps.length := List.length_map _
          obtain ⟨rs, hrs⟩ : ∃ rs, rs = ps.map (resOf k) := ⟨_, rfl⟩
          have HRS : Hid (∀ (j : Nat) x, ps[j]? = some x → rs[j]? = some (resOf k x)) := Lib.hid fun j x h => by rw [hrs, List.getElem?_map, h]; rfl
          rw [← hrs] at HRES hrl
          clear hoo hall hmem hps hpr hpn htot hsize hres hrs
          go_wp2_with fail
          refine (HALL.out _ (Below.refl _ _)).mono ?_
          rintro e w1 ⟨A1, c1, rfl, _, _, s1, hb1⟩
          have HB1 := Lib.hid hb1
          have S1 : Hid (Row w1 A1 (pc ps)) := Lib.hid s1
          clear hb1 s1
          go_wp2_with fail
          refine (HRES.out _ _ _ S1.out).mono ?_
          rintro e w2 ⟨A2, c2, rfl, q1, q2, s2, hb2⟩
          have HB2 := Lib.hid (below_next HB1.out hb2)
          have S2 := Lib.hid s2
          clear hb2 s2
          rw [hrl] at q1 ⊢
          go_wp2_with fail
          go_loopw [7, 41] (fun s i wr => ∃ j : Nat, i = .int .i64 j ∧ j ≤ ps.length ∧ s = .int .i64 (total (ps.take j)) ∧ Below w2.heap.size w2 wr) (fun _ i _ => ps.length - (intOf i).toNat)
          case atStart => exact ⟨0, rfl, Nat.zero_le _, rfl, Below.refl _ _⟩
          case round =>
            obtain ⟨j, rfl, hj, rfl, hb⟩ := hrel
            have HB := Lib.hid hb
            clear hb
            by_cases hlt : j < ps.length
            · obtain ⟨x, hx⟩ : ∃ x, ps[j]? = some x := ⟨_, List.getElem?_eq_getElem hlt⟩
              obtain ⟨b, off, rfl, c0, c1', c2', c3, c4⟩ := (S2.out.below HB.out).rs (HRS.out j x hx)
              have HNX := Lib.hid (total_next hx)
              have t1 := total_take HPN.out j
              have t2 := total_take HPN.out (j + 1)
              rw [HTOT.out] at t1 t2
              rw [HNX.out] at t2
              have e1 : IntKind.i64.wrap (total (ps.take j) + (resOf k x).n) = total (ps.take j) + x.acc.n := wrap64_in (n := total (ps.take j) + x.acc.n) (by omega) (by omega)
              clear hx t1 t2
              go_wp2_with fail
              go_roundw
              case rel => exact ⟨j + 1, by go_num, by omega, by rw [HNX.out], below_next HB.out (below_al (Below.refl _ _))⟩
              case measure => simp [intOf]; omega
            · have hge : ps.length ≤ j := by omega
              have HT2 := Lib.hid (show total (ps.take j) = n from by rw [List.take_of_length_le hge, HTOT.out])
              rw [HT2.out]
              have HB3 := Lib.hid (below_next HB2.out HB.out)
              have hjd : decide (j < ps.length) = false := decide_eq_false (by omega)
              clear hlt hj
              obtain ⟨wo, hwo⟩ : ∃ wo, wo = wr := ⟨_, rfl⟩
              subst hwo
              go_wp2_with fail
              go_loopw [53] (fun i wr2 => ∃ j : Nat, j ≤ n ∧ i = .int .i64 j ∧ wr2.ownsMap Try.prog 58 (plainElem (H := Unit) Try.prog 4) wo.heap.size j (plS (us.take j)) ∧ Below wo.heap.size wo wr2) (fun i _ => n - (intOf i).toNat)
              case atStart => exact ⟨0, Nat.zero_le _, rfl, World.ownsMap_made _ _ _ _, below_al (Below.refl _ _)⟩
              case round =>
                obtain ⟨i, hi, rfl, hown, hb⟩ := hrel
                have HB := Lib.hid hb
                have HOW := Lib.hid hown
                have hbz := hb.size
                clear hb hown
                by_cases hlt2 : i < n
                · obtain ⟨⟨⟨lo, hi', key⟩, v⟩, hx⟩ : ∃ x, us[i]? = some x := ⟨_, List.getElem?_eq_getElem (by have := HN.out; omega)⟩
                  obtain ⟨b, off, rfl, c0, c1', c2', c3⟩ := (HV.out.below (below_next HB3.out HB.out)).vl hx
                  simp only at c0 c1' c2' c3
                  have HKEY := Lib.hid (keyOf_pl (HMEM.out _ (List.mem_of_getElem? hx)))
                  have HNX := Lib.hid (plS_next hx)
                  clear hx
                  go_wp2_with (at_mapUpdate; refine hold_mk ?_)
                  refine hold_out ?_
                  refine wpList_mapUpdate_own _ rfl _ _ _ 56 rfl 58 4 lawPl Try.underlying56 (plainElem (H := Unit) Try.prog 4) wo.heap.size i _ rfl (HOW.out.alloc _) (by unfold maxLen; omega) _ _ _ rfl rfl HKEY.out _ [] (plainElem_bool Try.underlying4 true) ?_
                  intro w8 hown8 hgrow8
                  have HO8 := Lib.hid hown8
                  have HB8 := Lib.hid ((HB.out.alloc hbz (.cells #[.string (kS key), .int .i64 lo, .int .i64 hi', .int .i64 v] 44)).grown hgrow8 (by simp; omega) fun q hq => by cases hq; exact Nat.le_refl _)
                  clear hown8 hgrow8
                  go_wp2_with fail
                  go_roundw
                  case rel => exact ⟨i + 1, by omega, by go_num, by rw [HNX.out]; exact HO8.out, HB8.out⟩
                  case measure => simp [intOf]; omega
                · have hge2 : n ≤ i := by omega
                  have hi2 : i = n := by omega
                  have HB9 := Lib.hid (below_next HB3.out HB.out)
                  have HSZ := Lib.hid (show Maps.size (plS (us.take i)) = ps.length from by rw [List.take_of_length_le (by have := HN.out; omega), HSIZE.out])
                  clear hlt2 hi
                  go_wp2_with fail
                  refine (lawAlive _).mono ?_
                  rintro e w9 ⟨rfl, hb9⟩
                  have HB10 := Lib.hid (below_next HB9.out hb9)
                  have hlen : ∀ ty, (Builtin.len_ #[56] ty #[.map (some wo.heap.size)]).run Try.prog w9 = .ok (.int .i64 (ps.length : Nat)) w9 := fun ty => by
                    rw [← HSZ.out]
                    exact (HOW.out.kept (row := none) ⟨hb9.os, hb9.tape, hb9.output, hb9.size, fun i hi _ => hb9.block i hi⟩ (by simp)).len Try.underlying56 ty
                  clear hb9
                  go_wp2_with fail
                  go_ret
                  exact ⟨rfl, HB10.out⟩
theorem lawPaneCounts : Lift.Owes 9 [3, 41] := by
  intro H enc W base args ds ps hval hA _ _
  obtain ⟨v0, v1, d0, d1, p0, p1, rfl, rfl, rfl, h0, h1⟩ := trodAll_two hA
  obtain ⟨k, rfl, rfl, rfl, _⟩ := open_int Try.underlying3 (hval 0 _ v0 rfl rfl) h0
  obtain ⟨A, c, vs, rfl, hl, hc, hrow⟩ := openVals (hval 1 _ v1 rfl rfl) h1
  exact walkPaneCounts k vs A c W hrow hl hc
end Go.Proofs.Ytklpfifellghlaa
