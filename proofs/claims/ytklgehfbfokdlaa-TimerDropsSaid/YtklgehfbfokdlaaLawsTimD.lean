/- The walk of the law TimerDrops. -/
import Derived.Test.YtklgehfbfokdlaaLawsTimC
namespace Go.Proofs.Ytklgehfbfokdlaa
open Go.ChangeShapes Go.WideShapes Go.ChangeAt Go.RowKit
set_option linter.unusedVariables false
namespace Tim
theorem others_ins {nm : List UInt8} {ys : List Tm} {k : Nat} {x : Tm} (h : ys[k]? = some x) : insAll (others nm (ys.take (k + 1))) = if x.name = nm then insAll (others nm (ys.take k)) else ins x (insAll (others nm (ys.take k))) := by
  rw [others_take h]
  split
  · rw [List.append_nil]
  · rw [insAll_push]
theorem others_all (nm : List UInt8) (ys : List Tm) : others nm (insAll ys) = insAll (others nm ys) :=
  srt_uniq (others_srt (insAll_srt ys)) (insAll_srt _) ((others_perm (insAll_perm ys)).trans (insAll_perm _).symm)
theorem others_two (nm : List UInt8) (l : List Tm) : others nm (others nm l) = others nm l := by
  unfold others
  rw [List.filter_filter]
  congr 1
  funext t
  simp
set_option maxHeartbeats 4000000 in
theorem walkTimerDrops (xs : List Tm) (A : Option Addr) (c : Nat) (nm : List UInt8) (w : World) (hA : Row w A (tc xs)) (hl : xs.length ≤ c) (hc : c ≤ 9223372036854775807) :
    Calls Try.prog 7 #[.slice A xs.length c, .string (kS nm)] w (TellsB true w) := by
  obtain ⟨ys, hys⟩ : ∃ ys, ys = xs.take 300 := ⟨_, rfl⟩
  have hYA : Row w A (tc ys) := by rw [hys]; exact row_take hA 300
  obtain ⟨n, hn⟩ : ∃ n, n = ys.length := ⟨_, rfl⟩
  have hnx : n = if 300 < xs.length then 300 else xs.length := by rw [hn, hys, List.length_take]; split <;> omega
  have hn3 : n ≤ 300 := by rw [hnx]; split <;> omega
  have HA := Lib.hid hYA
  have HNX := Lib.hid hnx
  have HN := Lib.hid hn
  clear hA hys hYA hn hnx
  go_enter Try.func7, Try.ntmps7
  go_upto_if 12 with fail
  go_cut [0] from 13 (fun s wc => s = .slice A n c ∧ wc = w)
  case first =>
    by_cases h : 300 < xs.length
    · have h1 : (300 : Int) < xs.length := by omega
      have h2 : (300 : Int) ≤ c := by omega
      have hn := HNX.out
      rw [if_pos h] at hn
      go_wp2_with fail
      go_meet
      case rel => exact ⟨by rw [hn], rfl⟩
    · have h1 : (xs.length : Int) ≤ 300 := by omega
      have hn := HNX.out
      rw [if_neg h] at hn
      go_wp2_with fail
      go_meet
      case rel => exact ⟨by rw [hn], rfl⟩
  case rest =>
    obtain ⟨rfl, hw⟩ := hcut
    subst hw
    go_wp2_with (go_at_call 9; refine (tNew _).mono ?_; rintro e w1 ⟨rfl, rfl⟩)
    have P0 := Lib.hid (Pair.new_ wc)
    go_loopw [25, 7] (fun s25 s7 wr => ∃ (k cnt : Nat) (M1 M2 : Nat → Prop), s25 = .int .i64 k ∧ s7 = .int .i64 cnt ∧ k ≤ n ∧ cnt + (others nm (ys.take k)).length = k ∧ Pair wc wr M1 M2 wc.heap.size (wc.heap.size + 1) (insAll (ys.take k)) (insAll (others nm (ys.take k)))) (fun s25 _ _ => n - (intOf s25).toNat)
    case atStart => exact ⟨0, 0, _, _, rfl, rfl, Nat.zero_le _, rfl, P0.out⟩
    case round =>
      clear P0
      obtain ⟨k, cnt, M1, M2, rfl, rfl, hk, hcnt, hp⟩ := hrel
      have HP := Lib.hid hp
      have HC := Lib.hid hcnt
      clear hp
      have hcl : cnt ≤ k := by omega
      clear hcnt
      by_cases hlt : k < n
      · obtain ⟨x, hx⟩ : ∃ x, ys[k]? = some x := ⟨_, List.getElem?_eq_getElem (by rw [← HN.out]; exact hlt)⟩
        obtain ⟨bb, off, rfl, c0, c1⟩ := row_at (HA.out.below HP.out.a.below) hx
        have HK := Lib.hid (insAll_take hx)
        have HO := Lib.hid (others_ins (nm := nm) hx)
        have HT := Lib.hid (others_take (nm := nm) hx)
        clear hx
        have P1 := Lib.hid (HP.out.up (below_al (o := .cells (tmC x) 27) (Below.refl _ _)))
        have LX := Lib.hid (Lies.new wr (tmC x) 27)
        have NX : Hid (¬ M1 wr.heap.size) := Lib.hid fun hm => by have := HP.out.a.holds.lt _ hm; omega
        have HLN : Hid ((insAll (ys.take k)).length < 100000) := Lib.hid (by rw [insAll_len, List.length_take]; omega)
        have HLM : Hid ((insAll (others nm (ys.take k))).length < 100000) := Lib.hid (by rw [insAll_len]; have := others_le nm (ys.take k); rw [List.length_take] at this; omega)
        go_wp2_with fail
        refine (tPush _ _ _ x _ P1.out.a.holds HLN.out).mono ?_
        rintro e w1 ⟨rfl, M1', q1, q2, _, q4⟩
        have P2 := Lib.hid (P1.out.stepA q1 q2 q4)
        have L2 := q2.lies LX.out NX.out
        have d0 := L2.cell (j := 0) rfl
        have d1 := L2.cell (j := 1) rfl
        clear q1 q2 q4 L2
        by_cases hq : x.name = nm
        · have h4 : ((kS x.name).toList == (kS nm).toList) = true := by rw [kS_list, kS_list, beq_iff_eq]; exact hq
          rw [if_pos hq] at HO HT
          clear hq
          go_wp2_with fail
          go_roundw
          case rel => exact ⟨k + 1, cnt + 1, M1', M2, by go_num, by go_num, by omega, by rw [HT.out, List.append_nil]; have := HC.out; omega, by rw [HK.out, HO.out]; exact P2.out⟩
          case measure => simp [intOf]; omega
        · have h4 : ((kS x.name).toList == (kS nm).toList) = false := by rw [kS_list, kS_list, beq_eq_false_iff_ne]; exact hq
          rw [if_neg hq] at HO HT
          clear hq
          go_wp2_with fail
          refine (tPush _ _ _ x _ P2.out.b.holds HLM.out).mono ?_
          rintro e w2 ⟨rfl, M2', q1, q2, _, q4⟩
          have P3 := Lib.hid (P2.out.stepB q1 q2 q4)
          clear q1 q2 q4 d0 d1
          go_wp2_with fail
          go_roundw
          case rel => exact ⟨k + 1, cnt, M1', M2', by go_num, rfl, by omega, by rw [HT.out, List.length_append, List.length_singleton]; have := HC.out; omega, by rw [HK.out, HO.out]; exact P3.out⟩
          case measure => simp [intOf]; omega
      · have hkn : k = n := by omega
        have hge : n ≤ k := by omega
        obtain ⟨S, hS⟩ : ∃ S, S = insAll (ys.take k) := ⟨_, rfl⟩
        obtain ⟨T, hT⟩ : ∃ T, T = insAll (others nm (ys.take k)) := ⟨_, rfl⟩
        have hST : others nm S = T := by rw [hS, hT, others_all]
        have hTT : others nm T = T := by rw [← hST, others_two]
        have hSL : S.length = n := by rw [hS, insAll_len, List.length_take, ← HN.out]; omega
        have hTL : cnt + T.length = n := by rw [hT, insAll_len]; have := HC.out; omega
        rw [← hS, ← hT] at HP
        have HST := Lib.hid hST
        have HTT := Lib.hid hTT
        have e1 : (S.length : Int) - (T.length : Int) = (cnt : Int) := by omega
        have E1 := Lib.hid e1
        have e2 : (n : Int) - (cnt : Int) = (T.length : Int) := by omega
        have HSL := Lib.hid hSL
        have htl : T.length ≤ 300 := by omega
        clear hS hT hST hTT hSL hTL e1 hkn
        go_wp2_with fail
        refine (tDrop M1 _ S nm _ HP.out.a.holds (by have := HSL.out; omega)).mono ?_
        rw [HST.out, E1.out]
        rintro e w1 ⟨rfl, q1, q2⟩
        have P1 := Lib.hid (HP.out.stepA q1 q2 same_or)
        clear q1 q2
        go_wp2_with fail
        refine (tDrop M1 _ T nm _ P1.out.a.holds (by omega)).mono ?_
        rw [HTT.out, Int.sub_self]
        rintro e w2 ⟨rfl, q1, q2⟩
        have P2 := Lib.hid (P1.out.stepA q1 q2 same_or)
        clear q1 q2
        go_wp2_with fail
        refine (tAll M1 _ T _ P2.out.a.holds (by omega)).mono ?_
        rintro e w6 ⟨v6, rfl, o6, hb6⟩
        have P6 := Lib.hid (P2.out.up hb6)
        obtain ⟨A6, c6, rfl, _, _, h6, _⟩ := own_to_row o6
        have H6 := Lib.hid h6
        clear hb6 o6 h6
        go_wp2_with fail
        refine (tAll M2 _ T _ P6.out.b.holds (by omega)).mono ?_
        rintro e w7 ⟨v7, rfl, o7, hb7⟩
        have P7 := Lib.hid (P6.out.up hb7)
        obtain ⟨A7, c7, rfl, _, _, h7, _⟩ := own_to_row o7
        have H7 := Lib.hid h7
        have H67 := Lib.hid (H6.out.below hb7)
        clear hb7 o7 h7
        go_wp2_with fail
        refine (rfLike T (by omega) A6 A7 c6 c7 _ H67.out H7.out).mono ?_
        rintro e w8 ⟨rfl, hb8⟩
        have P8 := Lib.hid (P7.out.up hb8)
        clear hb8
        go_wp2_with fail
        refine (tLen M1 wc.heap.size T _ P8.out.a.holds).mono ?_
        rintro e w9 ⟨rfl, rfl⟩
        go_wp2_with fail
        go_ret
        exact ⟨rfl, P8.out.a.below⟩
theorem lawTimerDrops : Lift.Owes 7 [25, 9] := by
  intro H enc W base args ds ps hval hA _ _
  obtain ⟨v0, v1, d0, d1, p0, p1, rfl, rfl, rfl, h0, h1⟩ := trodAll_two hA
  obtain ⟨A, c, xs, rfl, hl, hc, hrow⟩ := openTimers (hval 0 _ v0 rfl rfl) h0
  obtain ⟨s, rfl, rfl, rfl, _⟩ := ChangeMaps.open_string Try.underlying9 (hval 1 _ v1 rfl rfl) h1
  have h := walkTimerDrops xs A c s.toList W hrow hl hc
  rw [kS_of] at h
  exact h
end Tim
theorem lawTimerDrops : Lift.Owes 7 [25, 9] := Tim.lawTimerDrops
end Go.Proofs.Ytklgehfbfokdlaa
