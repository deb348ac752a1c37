/- The iterator of windows, from the last one backwards. -/
import Derived.Test.YtehnhhkhnedgeaaOver
import Derived.Test.YtehnhhkhnedgeaaWin
import Derived.Shelf.Abstract
import Derived.Shelf.RegionOpen
import Derived.OwnWalkIn
import Derived.TacticsInMore
import Derived.LoopNIn
import Derived.LoopIn
namespace Go.Proofs.Ytehnhhkhnedgeaa
open Go.RowKit Go.Shelf Tick
set_option linter.unusedVariables false
attribute [local go_sem] Oper.semAt_some
namespace Win
theorem desc_not {s d t : Int} (h : good s d t = false) : desc s d t = [] := by simp [desc, h]
theorem desc_good {s d t : Int} (h : good s d t = true) : desc s d t = (List.range (cnt s d t)).map (win s d t) := by simp [desc, h]
/-- The windows that came ahead of the k-th one, it, and the ones behind it. -/
theorem desc_split {s d t : Int} (h : good s d t = true) {k : Nat} (hk : k < cnt s d t) : desc s d t = (List.range k).map (win s d t) ++ win s d t k :: ((List.range (cnt s d t)).drop (k + 1)).map (win s d t) := by
  rw [desc_good h]
  conv => lhs; rw [← List.take_append_drop k (List.range (cnt s d t))]
  rw [List.map_append, List.take_range, Nat.min_eq_left (by omega), List.drop_eq_getElem_cons (by simpa using hk)]
  simp
theorem range_snoc {s d t : Int} (k : Nat) : (List.range k).map (win s d t) ++ [win s d t k] = (List.range (k + 1)).map (win s d t) := by rw [List.range_succ]; simp
end Win
set_option maxRecDepth 100000 in
set_option maxHeartbeats 1000000 in
theorem back_none (F : Fence) (hF : Over.Wide F) (n : Nat) (s d t : Int) (b : Nat) (w : World) (hg : Win.good s d t = false) (hs : Boxed w b 2 (.int .i64 s)) (hd : Boxed w (b + 1) 2 (.int .i64 d)) (ht : Boxed w (b + 2) 2 (.int .i64 t)) (y : Value) :
    CallsIn F n Try.prog 24 #[y, .pointer (some ⟨b, 0, none⟩), .pointer (some ⟨b + 1, 0, none⟩), .pointer (some ⟨b + 2, 0, none⟩)] w fun e w' => (∃ v, e = .returned v) ∧ w = w' := by
  have hfn := hF.fn 24
  refine hF.calls ?_
  have c1 := hs.cell; have c2 := hd.cell; have c3 := ht.cell
  by_cases h1 : Win.ok s d = true
  · have H := Lib.hid h1
    by_cases h2 : t < 0
    · clear h1 hg
      go_enter Try.func24, Try.ntmps24
      go_wp2_with (go_at_call 10; refine (winRight _ _ _).mono ?_; rw [H.out]; rintro e w' ⟨rfl, rfl⟩)
      refine bodyPost_ret (results_none rfl _ _ _) rfl ?_
      exact ⟨⟨_, rfl⟩, rfl⟩
    · have h3 : 1099511627776 ≤ t := by
        by_cases h4 : t < 1099511627776
        · simp [Win.good, h1] at hg; omega
        · omega
      have h4 : 0 ≤ t := by omega
      clear h1 hg h2
      go_enter Try.func24, Try.ntmps24
      go_wp2_with (go_at_call 10; refine (winRight _ _ _).mono ?_; rw [H.out]; rintro e w' ⟨rfl, rfl⟩)
      refine bodyPost_ret (results_none rfl _ _ _) rfl ?_
      exact ⟨⟨_, rfl⟩, rfl⟩
  · have H : Hid (Win.ok s d = false) := Lib.hid (by simpa using h1)
    clear h1 hg
    go_enter Try.func24, Try.ntmps24
    go_wp2_with (go_at_call 10; refine (winRight _ _ _).mono ?_; rw [H.out]; rintro e w' ⟨rfl, rfl⟩)
    refine bodyPost_ret (results_none rfl _ _ _) rfl ?_
    exact ⟨⟨_, rfl⟩, rfl⟩
set_option maxRecDepth 100000 in
set_option maxHeartbeats 2000000 in
theorem back_some (F : Fence) (hF : Over.Wide F) (n : Nat) (hn : 1 ≤ n) (s d t : Int) (b : Nat) (w : World) (hg : Win.good s d t = true) (hbw : b + 2 < w.heap.size) (hs : Boxed w b 2 (.int .i64 s)) (hd : Boxed w (b + 1) 2 (.int .i64 d)) (ht : Boxed w (b + 2) 2 (.int .i64 t)) :
    Over.Feeds F n Try.prog 24 #[.pointer (some ⟨b, 0, none⟩), .pointer (some ⟨b + 1, 0, none⟩), .pointer (some ⟨b + 2, 0, none⟩)] (fun x => #[winV x]) (Win.desc s d t) w := by
  intro l J Jx M W hW hJ hJx hM hY h0
  have hfn := hF.fn 24
  have hro : F.round = none := hF.ro
  have hr := hF.fn 10
  have hfl := hF.fn 25
  have had := hF.fn 26
  have hco := hF.fn 27
  have b1 : Boxed W b 2 (.int .i64 s) := (hW.block b (by omega)).trans hs
  have b2 : Boxed W (b + 1) 2 (.int .i64 d) := (hW.block (b + 1) (by omega)).trans hd
  have b3 : Boxed W (b + 2) 2 (.int .i64 t) := (hW.block (b + 2) (by omega)).trans ht
  have G := Lib.hid hg
  obtain ⟨⟨o1, o2, o3, o4⟩, g1, g2⟩ := Win.good_iff.1 hg
  have OK : Hid (Win.ok s d = true) := Lib.hid (Win.ok_iff.2 ⟨o1, o2, o3, o4⟩)
  have tb := Win.top_bd o1 g1
  have HFL : Hid (floorT t d = Win.top d t) := Lib.hid (by unfold floorT Win.top; rw [if_neg (by omega), cl_mid g1 (by omega)])
  have HY := Lib.hid hY
  have HJ := Lib.hid hJ
  have HJx := Lib.hid hJx
  have HM := Lib.hid hM
  have HW := Lib.hid hW
  clear hY hJ hJx hM hW hg hs hd ht
  refine callsIn_of_wp Try.func24 rfl hfn ?_ hF.ro
  simp only [Try.ntmps24, List.size_toArray, List.length_cons, List.length_nil, Nat.reduceAdd, Nat.reduceSub, Array.replicate_succ, Array.replicate_zero, List.push_toArray, List.append_toArray, List.nil_append, List.cons_append]
  have c1 := b1.cell; have c2 := b2.cell; have c3 := b3.cell
  gi_wp2_with (first
    | (gi_at_call 10; refine (hF.calls (winRight _ _ _)).mono ?_; rw [OK.out]; rintro e w' ⟨rfl, rfl⟩)
    | (gi_at_call 25; refine (hF.calls (tickFloor _ _ _)).mono ?_; rw [HFL.out]; rintro e w' ⟨rfl, rfl⟩))

  gi_loopw [5] (fun lo wr => ∃ (k : Nat) (M' : Nat → Prop), lo = .int .i64 (Win.top d t - k * d) ∧ k ≤ Win.cnt s d t ∧ J M' ((List.range k).map (Win.win s d t)) wr ∧ Over.Kept w.heap.size M W wr ∧ (∀ x, M x → M' x) ∧ (∀ x, M' x → w.heap.size ≤ x ∧ x < wr.heap.size))
    (fun lo _ => (intOf lo + d).toNat)
  case atStart => exact ⟨0, M, by simp, Nat.zero_le _, h0, Over.Kept.refl _ _ _, fun _ h => h, HM.out⟩
  case round =>
    obtain ⟨k, M', rfl, hk, hj, hkp, hs1, hs2⟩ := hrel
    have q1 := (hkp.box b1 (.inl (by omega))).cell
    have q2 := (hkp.box b2 (.inl (by omega))).cell
    have q3 := (hkp.box b3 (.inl (by omega))).cell
    have hkd : 0 ≤ (k : Int) * d := Int.mul_nonneg (by omega) (by omega)
    have HC := Lib.hid (Win.cnt_lt (size := s) o1 o2 g1 k)
    have HS1 := Lib.hid hs1
    have HS2 := Lib.hid hs2
    have z3 : b + 2 < wr.heap.size := by have := hkp.size; have := HW.out.size; omega
    have z2 : b + 1 < wr.heap.size := by omega
    have z1 : b < wr.heap.size := by omega
    have HK := Lib.hid hkp
    have BX := Lib.hid b2
    clear hs1 hs2 hkp b1 b2 b3 c1 c2 c3
    by_cases hlt : k < Win.cnt s d t
    · obtain ⟨p1, p2⟩ := HC.out.1 hlt
      have WK : Hid (Win.win s d t k = (Win.top d t - k * d, Win.hiOf s (Win.top d t - k * d))) := Lib.hid rfl
      obtain ⟨lo, hlo⟩ : ∃ lo, lo = Win.top d t - k * d := ⟨_, rfl⟩
      rw [← hlo] at p1 p2 WK ⊢
      have hlt2 : lo ≤ t := by omega
      have AD := Lib.hid (Win.addT_hi (size := s) p1 (by omega) (by omega) (by omega))
      have hh : t < Win.hiOf s lo := by unfold Win.hiOf; split <;> omega
      obtain ⟨hi, hhi⟩ : ∃ hi, hi = Win.hiOf s lo := ⟨_, rfl⟩
      rw [← hhi] at hh AD WK
      have HLO := Lib.hid hlo
      have HHI := Lib.hid hhi
      clear hlo hhi
      have hj2 : J (fun x => M' x ∨ (wr.heap.size ≤ x ∧ x < wr.heap.size + 2)) ((List.range k).map (Win.win s d t)) ((wr.alloc (.cells #[.int .i64 lo, .int .i64 hi] 29)).alloc (.cells #[.int .i64 lo, .int .i64 hi] 29)) :=
        HJ.out _ _ _ _ _ hj (((Over.Mine.alloc M' wr _).trans (Over.Mine.alloc M' _ _))) fun x hx => by simpa using hx
      have hk2 : Over.Kept w.heap.size M wr ((wr.alloc (.cells #[.int .i64 lo, .int .i64 hi] 29)).alloc (.cells #[.int .i64 lo, .int .i64 hi] 29)) := (Over.Kept.alloc _ _ _ _).trans (Over.Kept.alloc _ _ _ _)
      obtain ⟨fn, tmps, assign, body, hy, hR⟩ := HY.out (fun x => M' x ∨ (wr.heap.size ≤ x ∧ x < wr.heap.size + 2)) ((List.range k).map (Win.win s d t)) (lo, hi) _ _ (by rw [← WK.out]; exact Win.desc_split G.out hlt) hj2
      have HR := Lib.hid hR
      have HJ2 := Lib.hid hj2
      have HK2 := Lib.hid hk2
      clear hR hj2 hk2 hj h0
      simp only [winV] at hy
      gi_wp2_with (first
        | (gi_at_call 26; refine (hF.calls (tickAdd _ _ _)).mono ?_; rw [AD.out]; rintro e w' ⟨rfl, rfl⟩)
        | (gi_at_call 27; refine (hF.calls (winHolds _ _ _ _ hlt2 hh)).mono ?_; rintro e w' ⟨rfl, rfl⟩))
      refine HR.out.mono ?_
      rintro e W3 ⟨h3 | h3, hk3⟩
      · obtain ⟨rfl, hj3⟩ := h3
        rw [← WK.out, Win.range_snoc] at hj3
        have HJ3 := Lib.hid hj3
        have HZ : Hid (wr.heap.size + 2 ≤ W3.heap.size) := Lib.hid (by have := hk3.size; simpa using this)
        have hkt := Lib.hid (HK.out.trans (HK2.out.trans (hk3.sub (Nat.le_refl _) fun x hx => .inr (.inl (HS1.out x hx)))))
        have q2' := (hkt.out.box BX.out (.inl (by omega))).cell
        have HL : Hid (lo - d = Win.top d t - ((k + 1 : Nat) : Int) * d) := Lib.hid (by rw [HLO.out]; push_cast; rw [Int.add_mul]; omega)
        clear hj3 hk3 q1 q2 q3 hy
        gi_wp2
        go_roundw
        case rel => exact ⟨k + 1, _, by rw [HL.out], by omega, HJ3.out, hkt.out, fun x hx => .inl (HS1.out x hx), fun x hx => by
          have := HW.out.size; have := HK.out.size; have h4 := hkt.out.size
          have h5 := HZ.out
          rcases hx with hx | hx
          · have := HS2.out x hx; omega
          · omega⟩
        case measure => show (lo - d + d).toNat < (lo + d).toNat; omega
      · obtain ⟨rfl, hj3⟩ := h3
        rw [← WK.out, Win.range_snoc] at hj3
        have HJ3 := Lib.hid hj3
        clear hj3 hk3 q1 q2 q3 hy
        gi_wp2
        refine bodyPost_ret (results_none rfl _ _ _) rfl ?_
        exact ⟨⟨_, rfl⟩, .inr ⟨_, ⟨((List.range (Win.cnt s d t)).drop (k + 1)).map (Win.win s d t), by rw [Win.desc_split G.out hlt, ← Win.range_snoc]; simp⟩, HJx.out _ _ _ _ _ HJ3.out (Over.Mine.refl _ _) fun x hx => .inl (.inl (HS1.out x hx))⟩⟩
    · have hkc : k = Win.cnt s d t := by omega
      have HD : Hid ((List.range k).map (Win.win s d t) = Win.desc s d t) := Lib.hid (by rw [hkc, Win.desc_good G.out])
      have hno : ¬ (0 ≤ Win.top d t - k * d ∧ t < Win.top d t - k * d + s) := fun h => hlt (HC.out.2 h)
      have HJ1 := Lib.hid hj
      obtain ⟨lo, hlo⟩ : ∃ lo, lo = Win.top d t - k * d := ⟨_, rfl⟩
      rw [← hlo] at hno ⊢
      have hlt2 : lo ≤ t := by omega
      have HLO := Lib.hid hlo
      by_cases p1 : 0 ≤ lo
      · have p2 : lo + s ≤ t := by omega
        have AD := Lib.hid (Win.addT_hi (size := s) p1 (by omega) (by omega) (by omega))
        have hh : Win.hiOf s lo ≤ t := by unfold Win.hiOf; split <;> omega
        obtain ⟨hi, hhi⟩ : ∃ hi, hi = Win.hiOf s lo := ⟨_, rfl⟩
        rw [← hhi] at hh AD
        have HHI := Lib.hid hhi
        clear hlo hhi hno hkc hlt hj h0 hk
        gi_wp2_with (first
          | (gi_at_call 26; refine (hF.calls (tickAdd _ _ _)).mono ?_; rw [AD.out]; rintro e w' ⟨rfl, rfl⟩)
          | (gi_at_call 27; refine (hF.calls (winMisses _ _ _ _ hlt2 hh)).mono ?_; rintro e w' ⟨rfl, rfl⟩))
        refine ⟨fun _ h => (by cases h), ?_⟩
        gi_wp2
        refine bodyPost_ret (results_none rfl _ _ _) rfl ?_
        refine ⟨⟨_, rfl⟩, .inl ?_⟩
        rw [← HD.out]
        exact HJ.out _ _ _ _ _ HJ1.out ((Over.Mine.alloc _ _ _).trans (Over.Mine.alloc _ _ _)) fun x hx => .inl (HS1.out x hx)
      · clear hlo hno hkc hlt hj h0 hk
        have p2 : lo < 0 := by omega
        gi_wp2
        go_end0
        refine ⟨⟨_, rfl⟩, .inl ?_⟩
        rw [← HD.out]
        exact HJ.out _ _ _ _ _ HJ1.out (Over.Mine.refl _ _) fun x hx => .inl (HS1.out x hx)
theorem back_feeds (F : Fence) (hF : Over.Wide F) (n : Nat) (hn : 1 ≤ n) (s d t : Int) (b : Nat) (w : World) (hbw : b + 2 < w.heap.size) (hs : Boxed w b 2 (.int .i64 s)) (hd : Boxed w (b + 1) 2 (.int .i64 d)) (ht : Boxed w (b + 2) 2 (.int .i64 t)) :
    Over.Feeds F n Try.prog 24 #[.pointer (some ⟨b, 0, none⟩), .pointer (some ⟨b + 1, 0, none⟩), .pointer (some ⟨b + 2, 0, none⟩)] (fun x => #[winV x]) (Win.desc s d t) w := by
  by_cases hg : Win.good s d t = true
  · exact back_some F hF n hn s d t b w hg hbw hs hd ht
  · intro l J Jx M W hW hJ hJx hM hY h0
    have hg' : Win.good s d t = false := by simpa using hg
    refine (back_none F hF n s d t b W hg' ((hW.block b (by omega)).trans hs) ((hW.block (b + 1) (by omega)).trans hd) ((hW.block (b + 2) (by omega)).trans ht) _).mono ?_
    rintro e W' ⟨hv, rfl⟩
    exact ⟨hv, .inl (by rw [Win.desc_not hg']; exact h0)⟩
end Go.Proofs.Ytehnhhkhnedgeaa
