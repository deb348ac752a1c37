/- WinMath, Win, WinBack, WinUntil, put together. -/
import Derived.Test.YtipmphkmeiogoaaZ15
import Derived.Test.YtipmphkmeiogoaaZ2
import Derived.Shelf.Abstract
import Derived.Shelf.RegionOpen
import Derived.OwnWalkIn
import Derived.TacticsInMore
import Derived.LoopNIn
import Derived.LoopIn
/- Windows: the plain mathematics. -/
namespace Go.Proofs.Ytipmphkmeiogoaa
open Tick
set_option linter.unusedVariables false
namespace Win
/-- Windows of a size and a slide may be. -/
def ok (size slide : Int) : Bool := decide (1 ≤ slide ∧ slide ≤ size ∧ size ≤ 1048576 ∧ size ≤ 16 * slide)
/-- A time that some window may hold. -/
def good (size slide t : Int) : Bool := ok size slide && decide (0 ≤ t ∧ t < 1099511627776)
theorem ok_iff {size slide : Int} : ok size slide = true ↔ 1 ≤ slide ∧ slide ≤ size ∧ size ≤ 1048576 ∧ size ≤ 16 * slide := by simp [ok]
theorem good_iff {size slide t : Int} : good size slide t = true ↔ (1 ≤ slide ∧ slide ≤ size ∧ size ≤ 1048576 ∧ size ≤ 16 * slide) ∧ 0 ≤ t ∧ t < 1099511627776 := by simp [good, ok]
/-- The end of the window that begins at lo. -/
def hiOf (size lo : Int) : Int := if lo + size ≤ 1099511627776 then lo + size else 1099511627776
theorem addT_hi {size lo : Int} (h0 : 0 ≤ lo) (h1 : lo ≤ 1099511627776) (h2 : 0 ≤ size) (h3 : size ≤ 1099511627776) : addT lo size = hiOf size lo := by
  unfold addT hiOf
  rw [cl_mid h0 h1, cl_mid h2 h3]
  split
  · rw [cl_mid (by omega) (by omega)]
  · rw [cl_big (by omega)]
/-- The last window that holds t begins here. -/
def top (slide t : Int) : Int := t - t % slide
/-- The k-th window from the last one on. -/
def win (size slide t : Int) (k : Nat) : Int × Int := (top slide t - k * slide, hiOf size (top slide t - k * slide))
/-- How many windows hold t. -/
def cnt (size slide t : Int) : Nat := min (t / slide + 1).toNat ((size - 1 - t % slide) / slide + 1).toNat
def desc (size slide t : Int) : List (Int × Int) := if good size slide t then (List.range (cnt size slide t)).map (win size slide t) else []
def of (size slide t : Int) : List (Int × Int) := (desc size slide t).reverse
def open_ (size slide t mark : Int) : List (Int × Int) := ((desc size slide t).takeWhile fun p => decide (mark < p.2)).reverse

theorem top_eq {slide t : Int} : top slide t = t / slide * slide := by
  unfold top
  have h := Int.mul_ediv_add_emod t slide
  have h1 : slide * (t / slide) = t / slide * slide := Int.mul_comm _ _
  omega
/-- The k-th one from the last one holds t, if k is less than how many there are; if not, it begins ahead of the first time, or ends too early. -/
theorem cnt_lt {size slide t : Int} (hs : 1 ≤ slide) (hz : slide ≤ size) (ht : 0 ≤ t) (k : Nat) : k < cnt size slide t ↔ 0 ≤ top slide t - k * slide ∧ t < top slide t - k * slide + size := by
  have hr := Int.emod_nonneg t (show slide ≠ 0 by omega)
  have hr2 := Int.emod_lt_of_pos t (show 0 < slide by omega)
  have hq : 0 ≤ t / slide := Int.ediv_nonneg ht (by omega)
  have hx : 0 ≤ size - 1 - t % slide := by omega
  have hq2 : 0 ≤ (size - 1 - t % slide) / slide := Int.ediv_nonneg hx (by omega)
  have e1 : (k : Int) ≤ t / slide ↔ 0 ≤ top slide t - k * slide := by
    rw [top_eq, Int.sub_nonneg]
    exact ⟨fun h => Int.mul_le_mul_of_nonneg_right h (by omega), fun h => Int.le_of_mul_le_mul_right h (by omega)⟩
  have e2 : (k : Int) ≤ (size - 1 - t % slide) / slide ↔ t < top slide t - k * slide + size := by
    rw [Int.le_ediv_iff_mul_le (by omega)]
    unfold top
    constructor <;> intro h <;> omega
  unfold cnt
  rw [← e1, ← e2]
  omega
theorem cnt_pos {size slide t : Int} (hs : 1 ≤ slide) (hz : slide ≤ size) (ht : 0 ≤ t) : 0 < cnt size slide t := by
  have hr2 := Int.emod_lt_of_pos t (show 0 < slide by omega)
  have hq : 0 ≤ t / slide := Int.ediv_nonneg ht (by omega)
  have hq2 : 0 ≤ (size - 1 - t % slide) / slide := Int.ediv_nonneg (by omega) (by omega)
  unfold cnt
  omega
theorem cnt_le {size slide t : Int} (hs : 1 ≤ slide) (h16 : size ≤ 16 * slide) (ht : 0 ≤ t) : cnt size slide t ≤ 16 := by
  have hr := Int.emod_nonneg t (show slide ≠ 0 by omega)
  have h : (size - 1 - t % slide) / slide < 16 := Int.ediv_lt_of_lt_mul (by omega) (by omega)
  unfold cnt
  omega
theorem desc_len {size slide t : Int} (h : good size slide t = true) : (desc size slide t).length = cnt size slide t := by simp [desc, h]
theorem len_le (size slide t : Int) : (desc size slide t).length ≤ 16 := by
  by_cases h : good size slide t
  · rw [desc_len h]
    obtain ⟨⟨a, b, c, d⟩, e, f⟩ := good_iff.1 h
    exact cnt_le a d e
  · simp [desc, h]
theorem top_bd {slide t : Int} (hs : 1 ≤ slide) (ht : 0 ≤ t) : 0 ≤ top slide t ∧ top slide t ≤ t ∧ t < top slide t + slide := by
  have h := floor_lo ht hs
  unfold top
  omega
end Win
end Go.Proofs.Ytipmphkmeiogoaa
/- Windows: which may be, whether one is closed, whether one holds a time; the makers of iterators. -/
namespace Go.Proofs.Ytipmphkmeiogoaa
open Go.RowKit Tick
set_option linter.unusedVariables false
theorem ret_bool {a b : Bool} (h : a = b) : Ending.returned (.bool a) = .returned (.bool b) := by rw [h]
/-- A window as a value. -/
def winV (p : Int × Int) : Value := .agg #[.int .i64 p.1, .int .i64 p.2]
set_option maxHeartbeats 1000000 in
theorem winRight (a b : Int) (w : World) : Calls Try.prog 64 #[.int .i64 a, .int .i64 b] w fun e w' => e = .returned (.bool (Win.ok a b)) ∧ w = w' := by
  by_cases h : Win.ok a b = true
  · have h' := Win.ok_iff.1 h
    obtain ⟨h1, h2, h3, h4⟩ := h'
    have H := Lib.hid h; clear h
    go_enter Try.func64, Try.ntmps64
    go_wp2
    go_ret
    exact ⟨ret_bool (Eq.trans (by first | rfl | (simp; omega)) H.out.symm), rfl⟩
  · have h' := h
    rw [Win.ok_iff] at h'
    have H : Hid (Win.ok a b = false) := Lib.hid (by simpa using h)
    clear h
    by_cases h1 : 1 ≤ b
    · by_cases h2 : b ≤ a
      · by_cases h3 : a ≤ 1048576
        · have h4 : 16 * b < a := by omega
          clear h'
          go_enter Try.func64, Try.ntmps64
          go_wp2
          go_ret
          exact ⟨ret_bool (Eq.trans (by first | rfl | (simp; omega)) H.out.symm), rfl⟩
        · have h4 : 1048576 < a := by omega
          clear h' h3
          go_enter Try.func64, Try.ntmps64
          go_wp2
          go_ret
          exact ⟨ret_bool (Eq.trans (by first | rfl | (simp; omega)) H.out.symm), rfl⟩
      · have h4 : a < b := by omega
        clear h' h2
        go_enter Try.func64, Try.ntmps64
        go_wp2
        go_ret
        exact ⟨ret_bool (Eq.trans (by first | rfl | (simp; omega)) H.out.symm), rfl⟩
    · have h4 : b < 1 := by omega
      clear h' h1
      go_enter Try.func64, Try.ntmps64
      go_wp2
      go_ret
      exact ⟨ret_bool (Eq.trans (by first | rfl | (simp; omega)) H.out.symm), rfl⟩
set_option maxHeartbeats 1000000 in
theorem refRight (a b : Int) (w : World) : Calls Try.prog 55 #[.int .i64 a, .int .i64 b] w fun e w' => e = .returned (.bool (Win.ok a b)) ∧ w = w' := by
  by_cases h : Win.ok a b = true
  · have h' := Win.ok_iff.1 h
    obtain ⟨h1, h2, h3, h4⟩ := h'
    have h5 : (a + 15) / 16 ≤ b := by omega
    have H := Lib.hid h; clear h
    go_enter Try.func55, Try.ntmps55
    go_wp2
    go_ret
    exact ⟨ret_bool (Eq.trans (by first | rfl | (simp; omega)) H.out.symm), rfl⟩
  · have h' := h
    rw [Win.ok_iff] at h'
    have H : Hid (Win.ok a b = false) := Lib.hid (by simpa using h)
    clear h
    by_cases h1 : 1 ≤ b
    · by_cases h2 : b ≤ a
      · by_cases h3 : a ≤ 1048576
        · have h4 : b < (a + 15) / 16 := by omega
          clear h'
          go_enter Try.func55, Try.ntmps55
          go_wp2
          go_ret
          exact ⟨ret_bool (Eq.trans (by first | rfl | (simp; omega)) H.out.symm), rfl⟩
        · have h4 : 1048576 < a := by omega
          clear h' h3
          go_enter Try.func55, Try.ntmps55
          go_wp2
          go_ret
          exact ⟨ret_bool (Eq.trans (by first | rfl | (simp; omega)) H.out.symm), rfl⟩
      · have h4 : a < b := by omega
        clear h' h2
        go_enter Try.func55, Try.ntmps55
        go_wp2
        go_ret
        exact ⟨ret_bool (Eq.trans (by first | rfl | (simp; omega)) H.out.symm), rfl⟩
    · have h4 : b < 1 := by omega
      clear h' h1
      go_enter Try.func55, Try.ntmps55
      go_wp2
      go_ret
      exact ⟨ret_bool (Eq.trans (by first | rfl | (simp; omega)) H.out.symm), rfl⟩
theorem winHolds (a b t : Int) (w : World) (h : a ≤ t) (hb : t < b) : Calls Try.prog 109 #[.agg #[.int .i64 a, .int .i64 b], .int .i64 t] w
    fun e w' => e = .returned (.bool true) ∧ w' = w.alloc (.cells #[.int .i64 a, .int .i64 b] 48) := by
  go_enter Try.func109, Try.ntmps109
  go_wp2
  go_ret
  exact ⟨rfl, rfl⟩
theorem winMisses (a b t : Int) (w : World) (h : a ≤ t) (hb : b ≤ t) : Calls Try.prog 109 #[.agg #[.int .i64 a, .int .i64 b], .int .i64 t] w
    fun e w' => e = .returned (.bool false) ∧ w' = w.alloc (.cells #[.int .i64 a, .int .i64 b] 48) := by
  go_enter Try.func109, Try.ntmps109
  go_wp2
  go_ret
  exact ⟨ret_bool (by simp; omega), rfl⟩
theorem winBackwards (s d t : Int) (w : World) : Calls Try.prog 90 #[.int .i64 s, .int .i64 d, .int .i64 t] w
    fun e w' => e = .returned (.func (.func 106) #[] #[.pointer (some ⟨w.heap.size, 0, none⟩), .pointer (some ⟨w.heap.size + 1, 0, none⟩), .pointer (some ⟨w.heap.size + 2, 0, none⟩)]) ∧
      w' = ((w.alloc (.cells #[.int .i64 s] 2)).alloc (.cells #[.int .i64 d] 2)).alloc (.cells #[.int .i64 t] 2) := by
  go_enter Try.func90, Try.ntmps90
  go_wp2
  go_ret
  exact ⟨rfl, rfl⟩
end Go.Proofs.Ytipmphkmeiogoaa
/- The iterator of windows, from the last one backwards. -/
namespace Go.Proofs.Ytipmphkmeiogoaa
open Go.RowKit Go.Shelf Tick
set_option linter.unusedVariables false
attribute [local go_sem] Oper.semAt_some
namespace Win
theorem desc_not {s d t : Int} (h : good s d t = false) : desc s d t = [] := by simp [desc, h]
theorem desc_good {s d t : Int} (h : good s d t = true) : desc s d t = (List.range (cnt s d t)).map (win s d t) := by simp [desc, h]
/-- The windows that came ahead of the k-th one, it, and the ones behind it. -/
theorem desc_split {s d t : Int} (h : good s d t = true) {k : Nat} (hk : k < cnt s d t) : desc s d t = (List.range k).map (win s d t) ++ win s d t k :: ((List.range (cnt s d t)).drop (k + 1)).map (win s d t) := by
  rw [desc_good h]
  conv => lhs; rw [← List.take_append_drop k (List.range (cnt s d t))]
  rw [List.map_append, List.take_range, Nat.min_eq_left (by omega), List.drop_eq_getElem_cons (by simpa using hk)]
  simp
theorem range_snoc {s d t : Int} (k : Nat) : (List.range k).map (win s d t) ++ [win s d t k] = (List.range (k + 1)).map (win s d t) := by rw [List.range_succ]; simp
end Win
set_option maxRecDepth 100000 in
set_option maxHeartbeats 1000000 in
theorem back_none (F : Fence) (hF : Over.Wide F) (n : Nat) (s d t : Int) (b : Nat) (w : World) (hg : Win.good s d t = false) (hs : Boxed w b 2 (.int .i64 s)) (hd : Boxed w (b + 1) 2 (.int .i64 d)) (ht : Boxed w (b + 2) 2 (.int .i64 t)) (y : Value) :
    CallsIn F n Try.prog 106 #[y, .pointer (some ⟨b, 0, none⟩), .pointer (some ⟨b + 1, 0, none⟩), .pointer (some ⟨b + 2, 0, none⟩)] w fun e w' => (∃ v, e = .returned v) ∧ w = w' := by
  have hfn := hF.fn 106
  refine hF.calls ?_
  have c1 := hs.cell; have c2 := hd.cell; have c3 := ht.cell
  by_cases h1 : Win.ok s d = true
  · have H := Lib.hid h1
    by_cases h2 : t < 0
    · clear h1 hg
      go_enter Try.func106, Try.ntmps106
      go_wp2_with (go_at_call 64; refine (winRight _ _ _).mono ?_; rw [H.out]; rintro e w' ⟨rfl, rfl⟩)
      refine bodyPost_ret (results_none rfl _ _ _) rfl ?_
      exact ⟨⟨_, rfl⟩, rfl⟩
    · have h3 : 1099511627776 ≤ t := by
        by_cases h4 : t < 1099511627776
        · simp [Win.good, h1] at hg; omega
        · omega
      have h4 : 0 ≤ t := by omega
      clear h1 hg h2
      go_enter Try.func106, Try.ntmps106
      go_wp2_with (go_at_call 64; refine (winRight _ _ _).mono ?_; rw [H.out]; rintro e w' ⟨rfl, rfl⟩)
      refine bodyPost_ret (results_none rfl _ _ _) rfl ?_
      exact ⟨⟨_, rfl⟩, rfl⟩
  · have H : Hid (Win.ok s d = false) := Lib.hid (by simpa using h1)
    clear h1 hg
    go_enter Try.func106, Try.ntmps106
    go_wp2_with (go_at_call 64; refine (winRight _ _ _).mono ?_; rw [H.out]; rintro e w' ⟨rfl, rfl⟩)
    refine bodyPost_ret (results_none rfl _ _ _) rfl ?_
    exact ⟨⟨_, rfl⟩, rfl⟩
set_option maxRecDepth 100000 in
set_option maxHeartbeats 2000000 in
theorem back_some (F : Fence) (hF : Over.Wide F) (n : Nat) (hn : 1 ≤ n) (s d t : Int) (b : Nat) (w : World) (hg : Win.good s d t = true) (hbw : b + 2 < w.heap.size) (hs : Boxed w b 2 (.int .i64 s)) (hd : Boxed w (b + 1) 2 (.int .i64 d)) (ht : Boxed w (b + 2) 2 (.int .i64 t)) :
    Over.Feeds F n Try.prog 106 #[.pointer (some ⟨b, 0, none⟩), .pointer (some ⟨b + 1, 0, none⟩), .pointer (some ⟨b + 2, 0, none⟩)] (fun x => #[winV x]) (Win.desc s d t) w := by
  intro l J Jx M W hW hJ hJx hM hY h0
  have hfn := hF.fn 106
  have hro : F.round = none := hF.ro
  have hr := hF.fn 64
  have hfl := hF.fn 107
  have had := hF.fn 108
  have hco := hF.fn 109
  have b1 : Boxed W b 2 (.int .i64 s) := (hW.block b (by omega)).trans hs
  have b2 : Boxed W (b + 1) 2 (.int .i64 d) := (hW.block (b + 1) (by omega)).trans hd
  have b3 : Boxed W (b + 2) 2 (.int .i64 t) := (hW.block (b + 2) (by omega)).trans ht
  have G := Lib.hid hg
  obtain ⟨⟨o1, o2, o3, o4⟩, g1, g2⟩ := Win.good_iff.1 hg
  have OK : Hid (Win.ok s d = true) := Lib.hid (Win.ok_iff.2 ⟨o1, o2, o3, o4⟩)
  have tb := Win.top_bd o1 g1
  have HFL : Hid (floorT t d = Win.top d t) := Lib.hid (by unfold floorT Win.top; rw [if_neg (by omega), cl_mid g1 (by omega)])
  have HY := Lib.hid hY
  have HJ := Lib.hid hJ
  have HJx := Lib.hid hJx
  have HM := Lib.hid hM
  have HW := Lib.hid hW
  clear hY hJ hJx hM hW hg hs hd ht
  refine callsIn_of_wp Try.func106 rfl hfn ?_ hF.ro
  simp only [Try.ntmps106, List.size_toArray, List.length_cons, List.length_nil, Nat.reduceAdd, Nat.reduceSub, Array.replicate_succ, Array.replicate_zero, List.push_toArray, List.append_toArray, List.nil_append, List.cons_append]
  have c1 := b1.cell; have c2 := b2.cell; have c3 := b3.cell
  gi_wp2_with (first
    | (gi_at_call 64; refine (hF.calls (winRight _ _ _)).mono ?_; rw [OK.out]; rintro e w' ⟨rfl, rfl⟩)
    | (gi_at_call 107; refine (hF.calls (tickFloor _ _ _)).mono ?_; rw [HFL.out]; rintro e w' ⟨rfl, rfl⟩))

  gi_loopw [5] (fun lo wr => ∃ (k : Nat) (M' : Nat → Prop), lo = .int .i64 (Win.top d t - k * d) ∧ k ≤ Win.cnt s d t ∧ J M' ((List.range k).map (Win.win s d t)) wr ∧ Over.Kept w.heap.size M W wr ∧ (∀ x, M x → M' x) ∧ (∀ x, M' x → w.heap.size ≤ x ∧ x < wr.heap.size))
    (fun lo _ => (intOf lo + d).toNat)
  case atStart => exact ⟨0, M, by simp, Nat.zero_le _, h0, Over.Kept.refl _ _ _, fun _ h => h, HM.out⟩
  case round =>
    obtain ⟨k, M', rfl, hk, hj, hkp, hs1, hs2⟩ := hrel
    have q1 := (hkp.box b1 (.inl (by omega))).cell
    have q2 := (hkp.box b2 (.inl (by omega))).cell
    have q3 := (hkp.box b3 (.inl (by omega))).cell
    have hkd : 0 ≤ (k : Int) * d := Int.mul_nonneg (by omega) (by omega)
    have HC := Lib.hid (Win.cnt_lt (size := s) o1 o2 g1 k)
    have HS1 := Lib.hid hs1
    have HS2 := Lib.hid hs2
    have z3 : b + 2 < wr.heap.size := by have := hkp.size; have := HW.out.size; omega
    have z2 : b + 1 < wr.heap.size := by omega
    have z1 : b < wr.heap.size := by omega
    have HK := Lib.hid hkp
    have BX := Lib.hid b2
    clear hs1 hs2 hkp b1 b2 b3 c1 c2 c3
    by_cases hlt : k < Win.cnt s d t
    · obtain ⟨p1, p2⟩ := HC.out.1 hlt
      have WK : Hid (Win.win s d t k = (Win.top d t - k * d, Win.hiOf s (Win.top d t - k * d))) := Lib.hid rfl
      obtain ⟨lo, hlo⟩ : ∃ lo, lo = Win.top d t - k * d := ⟨_, rfl⟩
      rw [← hlo] at p1 p2 WK ⊢
      have hlt2 : lo ≤ t := by omega
      have AD := Lib.hid (Win.addT_hi (size := s) p1 (by omega) (by omega) (by omega))
      have hh : t < Win.hiOf s lo := by unfold Win.hiOf; split <;> omega
      obtain ⟨hi, hhi⟩ : ∃ hi, hi = Win.hiOf s lo := ⟨_, rfl⟩
      rw [← hhi] at hh AD WK
      have HLO := Lib.hid hlo
      have HHI := Lib.hid hhi
      clear hlo hhi
      have hj2 : J (fun x => M' x ∨ (wr.heap.size ≤ x ∧ x < wr.heap.size + 2)) ((List.range k).map (Win.win s d t)) ((wr.alloc (.cells #[.int .i64 lo, .int .i64 hi] 48)).alloc (.cells #[.int .i64 lo, .int .i64 hi] 48)) :=
        HJ.out _ _ _ _ _ hj (((Over.Mine.alloc M' wr _).trans (Over.Mine.alloc M' _ _))) fun x hx => by simpa using hx
      have hk2 : Over.Kept w.heap.size M wr ((wr.alloc (.cells #[.int .i64 lo, .int .i64 hi] 48)).alloc (.cells #[.int .i64 lo, .int .i64 hi] 48)) := (Over.Kept.alloc _ _ _ _).trans (Over.Kept.alloc _ _ _ _)
      obtain ⟨fn, tmps, assign, body, hy, hR⟩ := HY.out (fun x => M' x ∨ (wr.heap.size ≤ x ∧ x < wr.heap.size + 2)) ((List.range k).map (Win.win s d t)) (lo, hi) _ _ (by rw [← WK.out]; exact Win.desc_split G.out hlt) hj2
      have HR := Lib.hid hR
      have HJ2 := Lib.hid hj2
      have HK2 := Lib.hid hk2
      clear hR hj2 hk2 hj h0
      simp only [winV] at hy
      gi_wp2_with (first
        | (gi_at_call 108; refine (hF.calls (tickAdd _ _ _)).mono ?_; rw [AD.out]; rintro e w' ⟨rfl, rfl⟩)
        | (gi_at_call 109; refine (hF.calls (winHolds _ _ _ _ hlt2 hh)).mono ?_; rintro e w' ⟨rfl, rfl⟩))
      refine HR.out.mono ?_
      rintro e W3 ⟨h3 | h3, hk3⟩
      · obtain ⟨rfl, hj3⟩ := h3
        rw [← WK.out, Win.range_snoc] at hj3
        have HJ3 := Lib.hid hj3
        have HZ : Hid (wr.heap.size + 2 ≤ W3.heap.size) := Lib.hid (by have := hk3.size; simpa using this)
        have hkt := Lib.hid (HK.out.trans (HK2.out.trans (hk3.sub (Nat.le_refl _) fun x hx => .inr (.inl (HS1.out x hx)))))
        have q2' := (hkt.out.box BX.out (.inl (by omega))).cell
        have HL : Hid (lo - d = Win.top d t - ((k + 1 : Nat) : Int) * d) := Lib.hid (by rw [HLO.out]; push_cast; rw [Int.add_mul]; omega)
        clear hj3 hk3 q1 q2 q3 hy
        gi_wp2
        go_roundw
        case rel => exact ⟨k + 1, _, by rw [HL.out], by omega, HJ3.out, hkt.out, fun x hx => .inl (HS1.out x hx), fun x hx => by
          have := HW.out.size; have := HK.out.size; have h4 := hkt.out.size
          have h5 := HZ.out
          rcases hx with hx | hx
          · have := HS2.out x hx; omega
          · omega⟩
        case measure => show (lo - d + d).toNat < (lo + d).toNat; omega
      · obtain ⟨rfl, hj3⟩ := h3
        rw [← WK.out, Win.range_snoc] at hj3
        have HJ3 := Lib.hid hj3
        clear hj3 hk3 q1 q2 q3 hy
        gi_wp2
        refine bodyPost_ret (results_none rfl _ _ _) rfl ?_
        exact ⟨⟨_, rfl⟩, .inr ⟨_, ⟨((List.range (Win.cnt s d t)).drop (k + 1)).map (Win.win s d t), by rw [Win.desc_split G.out hlt, ← Win.range_snoc]; simp⟩, HJx.out _ _ _ _ _ HJ3.out (Over.Mine.refl _ _) fun x hx => .inl (.inl (HS1.out x hx))⟩⟩
    · have hkc : k = Win.cnt s d t := by omega
      have HD : Hid ((List.range k).map (Win.win s d t) = Win.desc s d t) := Lib.hid (by rw [hkc, Win.desc_good G.out])
      have hno : ¬ (0 ≤ Win.top d t - k * d ∧ t < Win.top d t - k * d + s) := fun h => hlt (HC.out.2 h)
      have HJ1 := Lib.hid hj
      obtain ⟨lo, hlo⟩ : ∃ lo, lo = Win.top d t - k * d := ⟨_, rfl⟩
      rw [← hlo] at hno ⊢
      have hlt2 : lo ≤ t := by omega
      have HLO := Lib.hid hlo
      by_cases p1 : 0 ≤ lo
      · have p2 : lo + s ≤ t := by omega
        have AD := Lib.hid (Win.addT_hi (size := s) p1 (by omega) (by omega) (by omega))
        have hh : Win.hiOf s lo ≤ t := by unfold Win.hiOf; split <;> omega
        obtain ⟨hi, hhi⟩ : ∃ hi, hi = Win.hiOf s lo := ⟨_, rfl⟩
        rw [← hhi] at hh AD
        have HHI := Lib.hid hhi
        clear hlo hhi hno hkc hlt hj h0 hk
        gi_wp2_with (first
          | (gi_at_call 108; refine (hF.calls (tickAdd _ _ _)).mono ?_; rw [AD.out]; rintro e w' ⟨rfl, rfl⟩)
          | (gi_at_call 109; refine (hF.calls (winMisses _ _ _ _ hlt2 hh)).mono ?_; rintro e w' ⟨rfl, rfl⟩))
        refine ⟨fun _ h => (by cases h), ?_⟩
        gi_wp2
        refine bodyPost_ret (results_none rfl _ _ _) rfl ?_
        refine ⟨⟨_, rfl⟩, .inl ?_⟩
        rw [← HD.out]
        exact HJ.out _ _ _ _ _ HJ1.out ((Over.Mine.alloc _ _ _).trans (Over.Mine.alloc _ _ _)) fun x hx => .inl (HS1.out x hx)
      · clear hlo hno hkc hlt hj h0 hk
        have p2 : lo < 0 := by omega
        gi_wp2
        go_end0
        refine ⟨⟨_, rfl⟩, .inl ?_⟩
        rw [← HD.out]
        exact HJ.out _ _ _ _ _ HJ1.out (Over.Mine.refl _ _) fun x hx => .inl (HS1.out x hx)
theorem back_feeds (F : Fence) (hF : Over.Wide F) (n : Nat) (hn : 1 ≤ n) (s d t : Int) (b : Nat) (w : World) (hbw : b + 2 < w.heap.size) (hs : Boxed w b 2 (.int .i64 s)) (hd : Boxed w (b + 1) 2 (.int .i64 d)) (ht : Boxed w (b + 2) 2 (.int .i64 t)) :
    Over.Feeds F n Try.prog 106 #[.pointer (some ⟨b, 0, none⟩), .pointer (some ⟨b + 1, 0, none⟩), .pointer (some ⟨b + 2, 0, none⟩)] (fun x => #[winV x]) (Win.desc s d t) w := by
  by_cases hg : Win.good s d t = true
  · exact back_some F hF n hn s d t b w hg hbw hs hd ht
  · intro l J Jx M W hW hJ hJx hM hY h0
    have hg' : Win.good s d t = false := by simpa using hg
    refine (back_none F hF n s d t b W hg' ((hW.block b (by omega)).trans hs) ((hW.block (b + 1) (by omega)).trans hd) ((hW.block (b + 2) (by omega)).trans ht) _).mono ?_
    rintro e W' ⟨hv, rfl⟩
    exact ⟨hv, .inl (by rw [Win.desc_not hg']; exact h0)⟩
end Go.Proofs.Ytipmphkmeiogoaa
/- The iterator that ends at the first window that is closed: it ranges over one itself. -/
namespace Go.Proofs.Ytipmphkmeiogoaa
open Go.RowKit Go.Shelf Tick
set_option linter.unusedVariables false
attribute [local go_sem] Oper.semAt_some
/-- A window's own block. -/
def WBox (W : World) (b : Nat) (p : Int × Int) : Prop := W.heap[b]? = some (.cells #[.int .i64 p.1, .int .i64 p.2] 48 (0, 0))
namespace WBox
variable {W W' : World} {b : Nat} {p : Int × Int} {M : Nat → Prop}
theorem lt (h : WBox W b p) : b < W.heap.size := (Array.getElem?_eq_some_iff.1 h).1
theorem c0 (h : WBox W b p) : W.cell? ⟨b, 0, none⟩ = some (.int .i64 p.1) := by simp [World.cell?, show W.heap[b]? = _ from h]
theorem c1 (h : WBox W b p) : W.cell? ⟨b, 1, none⟩ = some (.int .i64 p.2) := by simp [World.cell?, show W.heap[b]? = _ from h]
theorem mine (h : WBox W b p) (hm : Over.Mine M W W') (hb : ¬ M b) : WBox W' b p := (hm.block b h.lt hb).trans h
theorem new (W : World) (p : Int × Int) : WBox (W.alloc (.cells #[.int .i64 p.1, .int .i64 p.2] 48)) W.heap.size p := World.alloc_heap_new W _
end WBox
namespace Until
/-- Which blocks are the closure's, in a loop whose iterator has M'. -/
def set (M : Nat → Prop) (Y : Nat) (M' : Nat → Prop) : Nat → Prop := fun k => (M k ∨ k = Y) ∨ M' k
variable (J Jx : (Nat → Prop) → List (Int × Int) → World → Prop) (M : Nat → Prop) (Y b l m : Nat) (mark : Int) (fv : Value) (xs : List (Int × Int))
def Inv (M' : Nat → Prop) (pre : List (Int × Int)) (W : World) : Prop :=
  J (set M Y M') pre W ∧ Boxed W Y 138 (.func (.yield l) #[] #[]) ∧ Boxed W b 127 fv ∧ Boxed W (b + 1) 2 (.int .i64 mark) ∧ (∀ x ∈ pre, mark < x.2) ∧ (∀ k, M' k → Y < k ∧ k < W.heap.size)
def Inv2 (M' : Nat → Prop) (s : List (Int × Int) × (Int × Int) × Act) (W : World) : Prop :=
  Inv J M Y b l mark fv M' s.1 W ∧ ∃ bx, WBox W bx s.2.1 ∧ ¬ M' bx ∧
    s.2.2 = { tmps := #[.func (.yield l) #[] #[], .pointer (some ⟨b, 0, none⟩), .pointer (some ⟨b + 1, 0, none⟩), .pointer (some ⟨Y, 0, none⟩), .pointer (some ⟨bx, 0, none⟩), fv, winV s.2.1, undef, undef, undef, undef, undef, undef, undef, undef, undef], defers := [] }
def Out (c : Code) (M' : Nat → Prop) (_ : List (Int × Int)) (W : World) : Prop :=
  c = .ret ∧ (J (set M Y M') xs W ∨ ∃ p, p <+: xs ∧ Jx (set M Y M') p W)
variable {J Jx M Y b l mark fv xs}
theorem set_grow {M' M'' : Nat → Prop} {W W' : World} (h : ∀ k, M'' k → M' k ∨ (W.heap.size ≤ k ∧ k < W'.heap.size)) : ∀ k, set M Y M'' k → set M Y M' k ∨ (W.heap.size ≤ k ∧ k < W'.heap.size) :=
  fun k hk => hk.elim (fun h1 => .inl (.inl h1)) fun h1 => (h k h1).elim (fun h2 => .inl (.inr h2)) .inr
theorem inv_abide (hJ : Over.Abide J) (hb : b + 1 < Y) : Over.Abide (Inv J M Y b l mark fv) := fun M' M'' s W W' h hm hs => by
  obtain ⟨h1, h2, h3, h4, h5, h6⟩ := h
  have hY := h2.lt
  have hsz := hm.size
  exact ⟨hJ _ _ _ _ _ h1 (hm.sub fun k => .inr) (set_grow hs), hm.box h2 (fun h => by have := (h6 _ h).1; omega), hm.box h3 (fun h => by have := (h6 _ h).1; omega), hm.box h4 (fun h => by have := (h6 _ h).1; omega), h5,
    fun k hk => (hs k hk).elim (fun h => ⟨(h6 k h).1, by have := (h6 k h).2; omega⟩) fun h => ⟨by omega, h.2⟩⟩
theorem inv2_abide (hJ : Over.Abide J) (hb : b + 1 < Y) : Over.Abide (Inv2 J M Y b l mark fv) := fun M' M'' s W W' h hm hs => by
  obtain ⟨h1, bx, h2, h3, h4⟩ := h
  have hlt := h2.lt
  exact ⟨inv_abide hJ hb _ _ _ _ _ h1 hm hs, bx, h2.mine hm h3, fun h => (hs bx h).elim h3 fun h => by omega, h4⟩
theorem out_abide (hJ : Over.Abide J) (hJx : Over.Abide Jx) (c : Code) : Over.Abide (Out J Jx M Y xs c) := fun M' M'' s W W' h hm hs => by
  obtain ⟨h1, h2⟩ := h
  refine ⟨h1, h2.imp (fun h => hJ _ _ _ _ _ h (hm.sub fun k => .inr) (set_grow hs)) fun ⟨p, hp, h⟩ => ⟨p, hp, hJx _ _ _ _ _ h (hm.sub fun k => .inr) (set_grow hs)⟩⟩
end Until
namespace Win
theorem take_open {m : Int} {pre rest : List (Int × Int)} {x : Int × Int} (h : ∀ y ∈ pre, m < y.2) (hx : x.2 ≤ m) : (pre ++ x :: rest).takeWhile (fun p => decide (m < p.2)) = pre := by
  rw [List.takeWhile_append_of_pos (by simpa using h)]
  simp [show ¬ m < x.2 by omega]
theorem take_more {m : Int} {pre rest : List (Int × Int)} {x : Int × Int} (h : ∀ y ∈ pre, m < y.2) (hx : m < x.2) :
    (pre ++ x :: rest).takeWhile (fun p => decide (m < p.2)) = pre ++ x :: rest.takeWhile (fun p => decide (m < p.2)) := by
  rw [List.takeWhile_append_of_pos (by simpa using h)]
  simp [hx]
theorem take_all {m : Int} {pre : List (Int × Int)} (h : ∀ y ∈ pre, m < y.2) : pre.takeWhile (fun p => decide (m < p.2)) = pre := by
  have := List.takeWhile_append_of_pos (p := fun p : Int × Int => decide (m < p.2)) (l₁ := pre) (l₂ := []) (by simpa using h)
  simpa using this
end Win
end Go.Proofs.Ytipmphkmeiogoaa
