/- The walk of the law MarkFree. -/
import Derived.Test.YtciagbeamphihaaLawsMarkD
namespace Go.Proofs.Ytciagbeamphihaa
open Go.ChangeShapes Go.WideShapes Go.ChangeAt Go.RowKit
set_option linter.unusedVariables false
set_option maxRecDepth 8000
namespace Wm
/-- The inputs as the law leaves them; the first i of them done. -/
def finI (ct : Int) (K j : Nat) : In := if j = K then ⟨ct, false⟩ else if j % 2 = 0 then ⟨1099511627776, false⟩ else ⟨0, true⟩
def partL (ct : Int) (K N i : Nat) : List In := (List.range N).map (fun j => if j < i then finI ct K j else ⟨0, false⟩)
def partM (ct : Int) (K N i : Nat) : Mk := ⟨partL ct K N i, [], 0⟩
theorem partL_len (ct : Int) (K N i : Nat) : (partL ct K N i).length = N := by simp [partL]
theorem partL_get {ct : Int} {K N i j : Nat} (h : j < N) : (partL ct K N i)[j]? = some (if j < i then finI ct K j else ⟨0, false⟩) := by
  simp [partL, h]
theorem partL_zero (ct : Int) (K N : Nat) : partL ct K N 0 = List.replicate N ⟨0, false⟩ := by
  apply List.ext_getElem?
  intro j
  by_cases hj : j < N
  · rw [partL_get hj, List.getElem?_replicate, if_pos hj, if_neg (by omega)]
  · rw [List.getElem?_eq_none (by rw [partL_len]; omega), List.getElem?_eq_none (by simp; omega)]
theorem partL_set {ct : Int} {K N i : Nat} (h : i < N) : (partL ct K N i).set i (finI ct K i) = partL ct K N (i + 1) := by
  apply List.ext_getElem?
  intro j
  by_cases hj : j < N
  · rw [partL_get hj]
    by_cases e : i = j
    · subst e; rw [List.getElem?_set_self (by rw [partL_len]; exact h), if_pos (by omega)]
    · rw [List.getElem?_set_ne e, partL_get hj]
      by_cases h1 : j < i
      · rw [if_pos h1, if_pos (by omega)]
      · rw [if_neg h1, if_neg (by omega)]
  · rw [List.getElem?_eq_none (by rw [List.length_set, partL_len]; omega), List.getElem?_eq_none (by rw [partL_len]; omega)]
theorem finI_ok {ct : Int} (hc : tOk ct = true) (K j : Nat) : tOk (finI ct K j).mark = true := by
  unfold finI
  split
  · exact hc
  · split <;> rfl
theorem partM_right {ct : Int} (hc : tOk ct = true) {K N : Nat} (h1 : 1 ≤ N) (h8 : N ≤ 8) (i : Nat) : right (partM ct K N i) = true := by
  rw [right_iff]
  refine ⟨⟨by rw [show (partM ct K N i).ins.length = N from partL_len _ _ _ _]; exact h1, by rw [show (partM ct K N i).ins.length = N from partL_len _ _ _ _]; exact h8, by simp [partM]⟩, rfl, ?_, rfl⟩
  intro x hx
  obtain ⟨j, hj⟩ := List.getElem?_of_mem hx
  have hjn : j < N := by
    have := (List.getElem?_eq_some_iff.1 hj).1
    rwa [show (partM ct K N i).ins.length = N from partL_len _ _ _ _] at this
  rw [show (partM ct K N i).ins = partL ct K N i from rfl, partL_get hjn] at hj
  cases hj
  split
  · exact finI_ok hc K j
  · rfl
theorem partM_there {ct : Int} (hc : tOk ct = true) {K N : Nat} (h1 : 1 ≤ N) (h8 : N ≤ 8) (i : Nat) {j : Nat} (hj : j < N) : there (partM ct K N i) (j : Int) = true := by
  rw [there_iff]
  refine ⟨partM_right hc h1 h8 i, by omega, ?_⟩
  rw [show (partM ct K N i).ins.length = N from partL_len _ _ _ _]; omega
theorem partM_at {ct : Int} {K N i : Nat} (h : i < N) : inAt (partM ct K N i) (i : Int) = ⟨0, false⟩ := by
  unfold inAt
  rw [show (partM ct K N i).ins = partL ct K N i from rfl, List.getD_eq_getElem?_getD, Int.toNat_natCast, partL_get h, if_neg (Nat.lt_irrefl _)]; rfl
theorem partM_set {ct t u : Int} (hc : tOk ct = true) {K N i : Nat} (h1 : 1 ≤ N) (h8 : N ≤ 8) (h : i < N) (hu : clamp u = (finI ct K i).mark) (hf : (finI ct K i).idle = false) : setM (partM ct K N i) (i : Int) u = (partM ct K N (i + 1), 0) := by
  unfold setM
  rw [if_pos (partM_there hc h1 h8 i h), partM_at h, hu, Int.toNat_natCast]
  have h0 : 0 ≤ (finI ct K i).mark := ((tOk_iff _).1 (finI_ok hc K i)).1
  have e : (if (⟨0, false⟩ : In).mark < (finI ct K i).mark then (finI ct K i).mark else (⟨0, false⟩ : In).mark) = (finI ct K i).mark := by
    split
    · rfl
    · rename_i hh; simp only at hh ⊢; omega
  have ee : (⟨(finI ct K i).mark, false⟩ : In) = finI ct K i := by rw [← hf]
  rw [e, ee]
  show (Mk.mk ((partL ct K N i).set i (finI ct K i)) [] 0, 0) = _
  rw [partL_set h]; rfl
theorem partM_idle {ct : Int} (hc : tOk ct = true) {K N i : Nat} (h1 : 1 ≤ N) (h8 : N ≤ 8) (h : i < N) (hf : finI ct K i = ⟨0, true⟩) : idleM (partM ct K N i) (i : Int) = (partM ct K N (i + 1), 0) := by
  unfold idleM
  rw [if_pos (partM_there hc h1 h8 i h), partM_at h, Int.toNat_natCast]
  show (Mk.mk ((partL ct K N i).set i (⟨0, true⟩ : In)) [] 0, 0) = _
  rw [← hf, partL_set h]; rfl
theorem partM_hold {ct : Int} (hc : tOk ct = true) {K N : Nat} (h1 : 1 ≤ N) (h8 : N ≤ 8) (i : Nat) {no : Int} (hn : 0 ≤ no) (at_ : Int) : (holdM (partM ct K N i) no at_).2 = 0 ∧ freeM (holdM (partM ct K N i) no at_).1 no = (partM ct K N i, 0) := by
  have hr := partM_right hc h1 h8 (K := K) i
  have e : (holdM (partM ct K N i) no at_).2 = 0 := by
    unfold holdM
    rw [if_pos (by rw [hr, decide_eq_true hn]; rfl)]
    rfl
  exact ⟨e, free_hold rfl e hr⟩
/-- What is told where some input's time is the least of all. -/
theorem tell_least {m : Mk} {v : Int} (hr : right m = true) (hh : m.holds = []) (ho : m.out = 0) (he : ∃ x ∈ m.ins, x.idle = false ∧ x.mark = v) (hv : ∀ x ∈ m.ins, x.idle = false → v ≤ x.mark) : (tell m).2.1 = v := by
  obtain ⟨r1, r2, r3, r4⟩ := (right_iff m).1 hr
  obtain ⟨s1, s2, s3⟩ := loI_spec m.ins (-1) (fun x hx => ((tOk_iff _).1 (r3 x hx)).1)
  have hl : least m = m.ins.foldl loI (-1) := by unfold least; rw [hh]; rfl
  obtain ⟨x, hx, hi, hm⟩ := he
  have a := s2 x hx hi
  have hle : least m = v := by
    rw [hl]
    rcases s3 with h | ⟨y, hy, hyi, h⟩
    · omega
    · have := hv y hy hyi; omega
  have hal : allows m = v := by unfold allows; rw [hle, if_neg (by omega)]
  unfold tell
  rw [if_pos hr, hal, ho]
  by_cases h0 : v ≤ 0
  · rw [if_pos h0]; simp only; omega
  · rw [if_neg h0]
theorem partM_tell {ct : Int} (hc : tOk ct = true) {K N : Nat} (h1 : 1 ≤ N) (h8 : N ≤ 8) (hK : K < N) : (tell (partM ct K N N)).2.1 = ct := by
  have hcc := (tOk_iff _).1 hc
  refine tell_least (partM_right hc h1 h8 N) rfl rfl ⟨⟨ct, false⟩, ?_, rfl, rfl⟩ ?_
  · refine List.mem_of_getElem? (i := K) ?_
    show (partL ct K N N)[K]? = _
    rw [partL_get hK, if_pos hK]; unfold finI; rw [if_pos rfl]
  · intro x hx hi
    obtain ⟨j, hj⟩ := List.getElem?_of_mem hx
    have hjn : j < N := by
      have := (List.getElem?_eq_some_iff.1 hj).1
      rwa [show (partM ct K N N).ins.length = N from partL_len _ _ _ _] at this
    rw [show (partM ct K N N).ins = partL ct K N N from rfl, partL_get hjn, if_pos hjn] at hj
    cases hj
    unfold finI at hi ⊢
    split
    · exact Int.le_refl _
    · rename_i h
      rw [if_neg h] at hi
      split
      · exact hcc.2
      · rename_i h'; rw [if_neg h'] at hi; cases hi
theorem partM_last {ct : Int} (hc : tOk ct = true) {K N : Nat} (h1 : 1 ≤ N) (h8 : N ≤ 8) (hK : K < N) : (setM (partM ct K N N) (K : Int) 1099511627776).2 = 0 ∧ (tell (setM (partM ct K N N) (K : Int) 1099511627776).1).2.1 = 1099511627776 := by
  have hcc := (tOk_iff _).1 hc
  have hin : inAt (partM ct K N N) (K : Int) = ⟨ct, false⟩ := by
    unfold inAt
    rw [show (partM ct K N N).ins = partL ct K N N from rfl, List.getD_eq_getElem?_getD, Int.toNat_natCast, partL_get hK, if_pos hK]
    unfold finI; rw [if_pos rfl]; rfl
  have e : setM (partM ct K N N) (K : Int) 1099511627776 = (⟨(partL ct K N N).set K ⟨1099511627776, false⟩, [], 0⟩, 0) := by
    unfold setM
    rw [if_pos (partM_there hc h1 h8 N hK), hin, Int.toNat_natCast]
    have e1 : (if (⟨ct, false⟩ : In).mark < clamp 1099511627776 then clamp 1099511627776 else (⟨ct, false⟩ : In).mark) = 1099511627776 := by
      rw [show clamp 1099511627776 = 1099511627776 from rfl]
      simp only
      split
      · rfl
      · omega
    rw [e1]; rfl
  have hr := (setM_ok (m := partM ct K N N) (i := K) (t := 1099511627776) (by rw [e])).1
  rw [e] at hr ⊢
  refine ⟨rfl, tell_least hr rfl rfl ⟨⟨1099511627776, false⟩, ?_, rfl, rfl⟩ ?_⟩
  · refine List.mem_of_getElem? (i := K) ?_
    show ((partL ct K N N).set K (⟨1099511627776, false⟩ : In))[K]? = _
    rw [List.getElem?_set_self (by rw [partL_len]; exact hK)]
  · intro x hx hi
    obtain ⟨j, hj⟩ := List.getElem?_of_mem hx
    have hj' : ((partL ct K N N).set K (⟨1099511627776, false⟩ : In))[j]? = some x := hj
    by_cases ej : K = j
    · subst ej
      rw [List.getElem?_set_self (by rw [partL_len]; exact hK)] at hj'
      cases hj'; exact Int.le_refl _
    · rw [List.getElem?_set_ne ej] at hj'
      have hjn : j < N := by
        have := (List.getElem?_eq_some_iff.1 hj').1
        rwa [partL_len] at this
      rw [partL_get hjn, if_pos hjn] at hj'
      cases hj'
      unfold finI at hi ⊢
      rw [if_neg (fun h => ej h.symm)] at hi ⊢
      split
      · exact Int.le_refl _
      · rename_i h'; rw [if_neg h'] at hi; cases hi
set_option maxRecDepth 100000 in
set_option maxHeartbeats 4000000 in
theorem walkMarkFree (n k t no at_ : Int) (w : World) : Calls Try.prog 7 #[.int .i64 n, .int .i64 k, .int .i64 t, .int .i64 no, .int .i64 at_] w (TellsB true w) := by
  obtain ⟨N, hN⟩ : ∃ N : Nat, min (max n 1) 8 = (N : Int) := ⟨(min (max n 1) 8).toNat, by omega⟩
  have hN1 : 1 ≤ N := by omega
  have hN8 : N ≤ 8 := by omega
  obtain ⟨q, hq⟩ : ∃ q, q = k.tmod N := ⟨_, rfl⟩
  have hq1 : -(N : Int) < q ∧ q < N := by
    rw [hq]
    constructor
    · have := Int.lt_tmod_of_pos k (show (0 : Int) < N by omega); omega
    · exact Int.tmod_lt_of_pos k (by omega)
  obtain ⟨K, hK⟩ : ∃ K : Nat, (q + N).tmod N = (K : Int) := ⟨((q + N).tmod N).toNat, by have := Int.tmod_nonneg (N : Int) (show (0 : Int) ≤ q + N by omega); omega⟩
  have hKN : K < N := by have := Int.tmod_lt_of_pos (q + N) (show (0 : Int) < N by omega); omega
  obtain ⟨no2, hno⟩ : ∃ no2, max no 0 = no2 := ⟨_, rfl⟩
  have hno0 : 0 ≤ no2 := by omega
  obtain ⟨ct, hct⟩ : ∃ ct, ct = clamp t := ⟨_, rfl⟩
  have hc : tOk ct = true := by rw [hct]; exact clamp_ok t
  have hN0 : ((N : Int) == 0) = false := ne_b (by omega)
  have hwq : IntKind.i64.wrap (q + N) = q + N := wrap64_in (by omega) (by omega)
  have hnew : new N = (partM ct K N 0, 0) := by
    rw [(new_right (n := (N : Int)) (by omega)).1, Int.toNat_natCast]
    unfold partM; rw [partL_zero]
  have HN := Lib.hid (show ∀ w, Calls Try.prog 9 #[.int .i64 (N : Int)] w (GivesM (partM ct K N 0, 0) w) from fun w => by rw [← hnew]; exact ckNew N w)
  have HC := Lib.hid hc
  have HCT := Lib.hid hct
  have hq' : k.tmod N = q := hq.symm
  clear hq hnew hc hct
  go_enter Try.func7, Try.ntmps7
  go_wp2_with fail
  clear hN hq' hK hno hN0 hwq hq1
  refine (HN.out _).mono ?_
  rintro e w1 ⟨A1, c1, B1, d1, rfl, h1, hb1⟩
  simp only at h1
  have R0 := Lib.hid ((show RiAt w w1.heap.size (partM ct K N 0) A1 c1 B1 d1 (w1.alloc (.cells (mkC (.slice A1 (partM ct K N 0).ins.length c1) (.slice B1 (partM ct K N 0).holds.length d1) (partM ct K N 0).out) 25)) from
    ⟨Lies.new w1 _ _, h1.next (al_below _ _), hb1.size, below_al hb1⟩))
  obtain ⟨b, hb⟩ : ∃ b, b = w1.heap.size := ⟨_, rfl⟩
  rw [← hb] at R0
  have HB := Lib.hid hb
  obtain ⟨m0, hm0⟩ : ∃ m0, m0 = partM ct K N 0 := ⟨_, rfl⟩
  rw [← hm0] at R0 ⊢
  have HM0 := Lib.hid hm0
  clear hb1 h1 hb hm0
  go_wp2_with fail
  rw [← HB.out]
  go_loopw [12, 42] (fun s12 s42 wr => ∃ (i : Nat) (m : Mk) (A : Option Addr) (c : Nat) (B : Option Addr) (d : Nat), s42 = .int .i64 i ∧ s12 = .int .i64 0 ∧ i ≤ N ∧ m = partM ct K N i ∧ RiAt w b m A c B d wr) (fun _ s42 _ => N - (intOf s42).toNat)
  case atStart => exact ⟨0, m0, A1, c1, B1, d1, rfl, rfl, Nat.zero_le _, HM0.out, R0.out⟩
  case round =>
    obtain ⟨i, m, A, c, B, d, rfl, rfl, hi, hm, hR⟩ := hrel
    have HR := Lib.hid hR
    have HM := Lib.hid hm
    clear hR hm R0 HM0 HN HB
    by_cases hlt : i < N
    · obtain ⟨z0, z1, z2⟩ := HR.out.at_.cells
      have f0 := Lies.free HR.out.at_ 0
      have f1 := Lies.free HR.out.at_ 1
      have f2 := Lies.free HR.out.at_ 2
      obtain ⟨m2, hm2⟩ : ∃ m2, m2 = partM ct K N (i + 1) := ⟨_, rfl⟩
      have HM2 := Lib.hid hm2
      have hct := HCT.out
      by_cases hk : i = K
      · have hs := partM_set (t := t) (u := t) HC.out hN1 hN8 hlt (K := K) (by unfold finI; rw [if_pos hk]; exact hct.symm) (by unfold finI; rw [if_pos hk])
        have HS := Lib.hid (show Calls Try.prog 18 #[mv m A c B d, .int .i64 i, .int .i64 t] wr (GivesM (m2, 0) wr) from by
          have h := ckSet m A c B d i t wr HR.out.has
          rw [show setM m i t = (m2, 0) from by rw [HM.out, hs, hm2]] at h; exact h)
        have e1 : ((i : Int) == (K : Int)) = true := eq_b (by omega)
        clear hs hm2 hct hk
        go_wp2_with fail
        refine HS.out.mono ?_
        rintro e w2 ⟨A2, c2, B2, d2, rfl, h2, hb2⟩
        simp only at h2
        have R2 := Lib.hid (HR.out.next hb2)
        have H2 := Lib.hid h2
        clear h2 hb2 z0 z1 z2 f0 f1 f2
        have f0 := Lies.free R2.out.at_ 0
        have f1 := Lies.free R2.out.at_ 1
        have f2 := Lies.free R2.out.at_ 2
        obtain ⟨z0, z1, z2⟩ := R2.out.at_.cells
        go_wp2_with fail
        go_roundw
        case rel => exact ⟨i + 1, m2, A2, c2, B2, d2, by go_num, rfl, by omega, HM2.out, R2.out.put H2.out⟩
        case measure => simp [intOf]; omega
      · by_cases hp : i % 2 = 0
        · have hs := partM_set (t := t) (u := 1099511627776) HC.out hN1 hN8 hlt (K := K) (by unfold finI; rw [if_neg hk, if_pos hp]; rfl) (by unfold finI; rw [if_neg hk, if_pos hp])
          have HS := Lib.hid (show Calls Try.prog 18 #[mv m A c B d, .int .i64 i, .int .i64 1099511627776] wr (GivesM (m2, 0) wr) from by
            have h := ckSet m A c B d i 1099511627776 wr HR.out.has
            rw [show setM m i 1099511627776 = (m2, 0) from by rw [HM.out, hs, hm2]] at h; exact h)
          have e1 : ((i : Int) == (K : Int)) = false := ne_b (by omega)
          have e2 : (i : Int).tmod 2 = 0 := by rw [Int.tmod_eq_emod_of_nonneg (by omega)]; omega
          clear hs hm2 hct hk hp
          go_wp2_with fail
          refine HS.out.mono ?_
          rintro e w2 ⟨A2, c2, B2, d2, rfl, h2, hb2⟩
          simp only at h2
          have R2 := Lib.hid (HR.out.next hb2)
          have H2 := Lib.hid h2
          clear h2 hb2 z0 z1 z2 f0 f1 f2
          have f0 := Lies.free R2.out.at_ 0
          have f1 := Lies.free R2.out.at_ 1
          have f2 := Lies.free R2.out.at_ 2
          obtain ⟨z0, z1, z2⟩ := R2.out.at_.cells
          go_wp2_with fail
          go_roundw
          case rel => exact ⟨i + 1, m2, A2, c2, B2, d2, by go_num, rfl, by omega, HM2.out, R2.out.put H2.out⟩
          case measure => simp [intOf]; omega
        · have hs := partM_idle HC.out hN1 hN8 hlt (K := K) (by unfold finI; rw [if_neg hk, if_neg hp])
          have HS := Lib.hid (show Calls Try.prog 19 #[mv m A c B d, .int .i64 i] wr (GivesM (m2, 0) wr) from by
            have h := ckIdle m A c B d i wr HR.out.has
            rw [show idleM m i = (m2, 0) from by rw [HM.out, hs, hm2]] at h; exact h)
          have e1 : ((i : Int) == (K : Int)) = false := ne_b (by omega)
          have e2 : (i : Int).tmod 2 = 1 := by rw [Int.tmod_eq_emod_of_nonneg (by omega)]; omega
          clear hs hm2 hct hk hp
          go_wp2_with fail
          refine HS.out.mono ?_
          rintro e w2 ⟨A2, c2, B2, d2, rfl, h2, hb2⟩
          simp only at h2
          have R2 := Lib.hid (HR.out.next hb2)
          have H2 := Lib.hid h2
          clear h2 hb2 z0 z1 z2 f0 f1 f2
          have f0 := Lies.free R2.out.at_ 0
          have f1 := Lies.free R2.out.at_ 1
          have f2 := Lies.free R2.out.at_ 2
          obtain ⟨z0, z1, z2⟩ := R2.out.at_.cells
          go_wp2_with fail
          go_roundw
          case rel => exact ⟨i + 1, m2, A2, c2, B2, d2, by go_num, rfl, by omega, HM2.out, R2.out.put H2.out⟩
          case measure => simp [intOf]; omega
    · have hiN : i = N := by omega
      have hm := HM.out
      rw [hiN] at hm
      obtain ⟨p1, p2⟩ := partM_hold HC.out hN1 hN8 N hno0 at_ (K := K)
      have p3 := partM_tell HC.out hN1 hN8 hKN
      obtain ⟨p4, p5⟩ := partM_last HC.out hN1 hN8 hKN
      rw [← hm] at p1 p2 p3 p4 p5
      obtain ⟨h, hh⟩ : ∃ h, h = (holdM m no2 at_).1 := ⟨_, rfl⟩
      have eh : holdM m no2 at_ = (h, 0) := by rw [hh, ← p1]
      obtain ⟨L, hL⟩ : ∃ L, L = (setM m (K : Int) 1099511627776).1 := ⟨_, rfl⟩
      have eL : setM m (K : Int) 1099511627776 = (L, 0) := by rw [hL, ← p4]
      rw [← hh] at p2
      rw [← hL] at p5
      have hhl : h.holds.length ≤ 100000 := by
        have := (right_iff h).1 (by rw [hh]; exact (holdM_ok p1).1)
        omega
      obtain ⟨⟨x1, t1, i1⟩, et⟩ : ∃ o, o = tell m := ⟨_, rfl⟩
      obtain ⟨⟨x2, t2, i2⟩, eu⟩ : ∃ o, o = tell L := ⟨_, rfl⟩
      rw [← et] at p3
      rw [← eu] at p5
      simp only at p3 p5
      have HH := Lib.hid (fun A c B d w (hx : Has m A c B d w) => show Calls Try.prog 20 #[mv m A c B d, .int .i64 no2, .int .i64 at_] w (GivesM (h, 0) w) from eh ▸ ckHold m A c B d no2 at_ w hx)
      have HFR := Lib.hid (fun A c B d w (hx : Has h A c B d w) => show Calls Try.prog 21 #[mv h A c B d, .int .i64 no2] w (GivesM (m, 0) w) from p2 ▸ ckFree h A c B d no2 w hx hhl)
      have HT1 := Lib.hid (fun A c B d w (hx : Has m A c B d w) => show Calls Try.prog 16 #[mv m A c B d] w (GivesT (x1, t1, i1) w) from et ▸ ckTell m A c B d w hx)
      have HST := Lib.hid (fun A c B d w (hx : Has m A c B d w) => show Calls Try.prog 18 #[mv m A c B d, .int .i64 (K : Int), .int .i64 1099511627776] w (GivesM (L, 0) w) from eL ▸ ckSet m A c B d K 1099511627776 w hx)
      have HT2 := Lib.hid (fun A c B d w (hx : Has L A c B d w) => show Calls Try.prog 16 #[mv L A c B d] w (GivesT (x2, t2, i2) w) from eu ▸ ckTell L A c B d w hx)
      have P3 := Lib.hid p3
      have P5 := Lib.hid p5
      have hge : N ≤ i := by omega
      obtain ⟨z0, z1, z2⟩ := HR.out.at_.cells
      obtain ⟨wo, hwo⟩ : ∃ wo, wo = wr := ⟨_, rfl⟩
      subst hwo
      clear hm p1 p2 p3 p4 p5 hh eh hL eL hhl et eu HM
      go_wp2_with fail
      refine (HH.out _ _ _ _ _ HR.out.has).mono ?_
      rintro e w2 ⟨A2, c2, B2, d2, rfl, h2, hb2⟩
      simp only at h2
      have R2 := Lib.hid (HR.out.next hb2)
      have H2 := Lib.hid h2
      clear h2 hb2 z0 z1 z2
      have f0 := Lies.free R2.out.at_ 0
      have f1 := Lies.free R2.out.at_ 1
      have f2 := Lies.free R2.out.at_ 2
      obtain ⟨z0, z1, z2⟩ := R2.out.at_.cells
      go_wp2_with (with_reducible refine hold_at 83 rfl ?_)
      refine hold_out ?_
      obtain ⟨w3, hw3⟩ : ∃ w3, w3 = setM3 w2 b (.slice A2 h.ins.length c2) (.slice B2 h.holds.length d2) h.out := ⟨_, rfl⟩
      have R3 := Lib.hid (R2.out.put H2.out)
      rw [← hw3] at R3
      unfold setM3 at hw3
      rw [← hw3]
      clear hw3 z0 z1 z2 f0 f1 f2 R2 H2
      obtain ⟨z0, z1, z2⟩ := R3.out.at_.cells
      go_wp2_with fail
      refine (HFR.out _ _ _ _ _ R3.out.has).mono ?_
      rintro e w4 ⟨A4, c4, B4, d4, rfl, h4, hb4⟩
      simp only at h4
      have R4 := Lib.hid (R3.out.next hb4)
      have H4 := Lib.hid h4
      clear h4 hb4 z0 z1 z2 R3
      have f0 := Lies.free R4.out.at_ 0
      have f1 := Lies.free R4.out.at_ 1
      have f2 := Lies.free R4.out.at_ 2
      obtain ⟨z0, z1, z2⟩ := R4.out.at_.cells
      go_wp2_with (with_reducible refine hold_at 89 rfl ?_)
      refine hold_out ?_
      obtain ⟨w5, hw5⟩ : ∃ w5, w5 = setM3 w4 b (.slice A4 m.ins.length c4) (.slice B4 m.holds.length d4) m.out := ⟨_, rfl⟩
      have R5 := Lib.hid (R4.out.put H4.out)
      rw [← hw5] at R5
      unfold setM3 at hw5
      rw [← hw5]
      clear hw5 z0 z1 z2 f0 f1 f2 R4 H4
      obtain ⟨z0, z1, z2⟩ := R5.out.at_.cells
      go_wp2_with fail
      refine (HT1.out _ _ _ _ _ R5.out.has).mono ?_
      rintro e w6 ⟨A6, c6, B6, d6, rfl, h6, hb6⟩
      simp only at h6
      have R6 := Lib.hid ((R5.out.next hb6).next (al_below w6 (.cells (mkC (.slice A6 x1.ins.length c6) (.slice B6 x1.holds.length d6) x1.out) 25)))
      clear h6 hb6 z0 z1 z2 R5
      obtain ⟨z0, z1, z2⟩ := R6.out.at_.cells
      go_wp2_with fail
      refine (HST.out _ _ _ _ _ R6.out.has).mono ?_
      rintro e w7 ⟨A7, c7, B7, d7, rfl, h7, hb7⟩
      simp only at h7
      have R7 := Lib.hid ((R6.out.next hb7).next (al_below w7 (.cells (mkC (.slice A7 L.ins.length c7) (.slice B7 L.holds.length d7) L.out) 25)))
      have H7 := Lib.hid (h7.next (al_below w7 (.cells (mkC (.slice A7 L.ins.length c7) (.slice B7 L.holds.length d7) L.out) 25)))
      clear h7 hb7 z0 z1 z2 R6
      go_wp2_with fail
      refine (HT2.out _ _ _ _ _ H7.out).mono ?_
      rintro e w8 ⟨A8, c8, B8, d8, rfl, h8, hb8⟩
      have R8 := Lib.hid ((R7.out.next hb8).next (al_below w8 (.cells (mkC (.slice A8 x2.ins.length c8) (.slice B8 x2.holds.length d8) x2.out) 25)))
      clear h8 hb8 R7 H7
      go_wp2_with fail
      refine (lawAliveM _).mono ?_
      rintro e w9 ⟨rfl, hb9⟩
      have B9 := Lib.hid (below_next R8.out.below hb9)
      have hq1 : t1 = min (max t 0) 1099511627776 := by rw [P3.out, HCT.out, clamp_eq]
      have hq2 : t2 = 1099511627776 := P5.out
      clear hb9 R8
      go_wp2_with fail
      go_ret
      exact ⟨by first | rfl | simp, B9.out⟩
theorem trodAll_fiveM {H : Type} {enc : TypeId × Value → H} {P : Program} {w : World} {base : Nat} {spare : Nat → Bool} {held : Bool} {t0 t1 t2 t3 t4 : TypeId} {args : Array Value} {ds : List (DataW H)} {ps : List MemPlace} (h : DataW.TrodAll enc P w base spare held [t0, t1, t2, t3, t4] args.toList ds ps) :
    ∃ v0 v1 v2 v3 v4 d0 d1 d2 d3 d4 p0 p1 p2 p3 p4, args = #[v0, v1, v2, v3, v4] ∧ ds = [d0, d1, d2, d3, d4] ∧ ps = p0 ++ p1 ++ p2 ++ p3 ++ p4 ∧ DataW.Trod enc P w base spare held t0 v0 d0 p0 ∧ DataW.Trod enc P w base spare held t1 v1 d1 p1 ∧
      DataW.Trod enc P w base spare held t2 v2 d2 p2 ∧ DataW.Trod enc P w base spare held t3 v3 d3 p3 ∧ DataW.Trod enc P w base spare held t4 v4 d4 p4 := by
  obtain ⟨v0, vs, d0, ds0, p0, q0, hargs, rfl, rfl, h0, hr0⟩ := trodAll_cons h
  obtain ⟨v1, vs1, d1, ds1, p1, q1, rfl, rfl, rfl, h1, hr1⟩ := trodAll_cons hr0
  obtain ⟨v2, vs2, d2, ds2, p2, q2, rfl, rfl, rfl, h2, hr2⟩ := trodAll_cons hr1
  obtain ⟨v3, vs3, d3, ds3, p3, q3, rfl, rfl, rfl, h3, hr3⟩ := trodAll_cons hr2
  obtain ⟨v4, vs4, d4, ds4, p4, q4, rfl, rfl, rfl, h4, hr4⟩ := trodAll_cons hr3
  obtain ⟨rfl, rfl, rfl⟩ := trodAll_nil hr4
  exact ⟨v0, v1, v2, v3, v4, d0, d1, d2, d3, d4, p0, p1, p2, p3, p4, by cases args; simp_all, rfl, by simp, h0, h1, h2, h3, h4⟩
theorem lawMarkFree : Lift.Owes 7 [3, 3, 2, 3, 2] := by
  intro H enc W base args ds ps hval hA _ _
  obtain ⟨v0, v1, v2, v3, v4, d0, d1, d2, d3, d4, p0, p1, p2, p3, p4, rfl, rfl, rfl, h0, h1, h2, h3, h4⟩ := trodAll_fiveM hA
  obtain ⟨n, rfl, rfl, rfl, _⟩ := open_int Try.underlying3 (hval 0 _ v0 rfl rfl) h0
  obtain ⟨k, rfl, rfl, rfl, _⟩ := open_int Try.underlying3 (hval 1 _ v1 rfl rfl) h1
  obtain ⟨t, rfl, rfl, rfl, _⟩ := open_int Try.underlying2 (hval 2 _ v2 rfl rfl) h2
  obtain ⟨no, rfl, rfl, rfl, _⟩ := open_int Try.underlying3 (hval 3 _ v3 rfl rfl) h3
  obtain ⟨at_, rfl, rfl, rfl, _⟩ := open_int Try.underlying2 (hval 4 _ v4 rfl rfl) h4
  exact walkMarkFree n k t no at_ W
end Wm
theorem lawMarkFree : Lift.Owes 7 [3, 3, 2, 3, 2] := Wm.lawMarkFree
end Go.Proofs.Ytciagbeamphihaa
