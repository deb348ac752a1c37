/- Windows: the plain mathematics. -/
import Derived.Test.YtehnhhkhnedgeaaTick
namespace Go.Proofs.Ytehnhhkhnedgeaa
open Tick
set_option linter.unusedVariables false
namespace Win
/-- Windows of a size and a slide may be. -/
def ok (size slide : Int) : Bool := decide (1 ≤ slide ∧ slide ≤ size ∧ size ≤ 1048576 ∧ size ≤ 16 * slide)
/-- A time that some window may hold. -/
def good (size slide t : Int) : Bool := ok size slide && decide (0 ≤ t ∧ t < 1099511627776)
theorem ok_iff {size slide : Int} : ok size slide = true ↔ 1 ≤ slide ∧ slide ≤ size ∧ size ≤ 1048576 ∧ size ≤ 16 * slide := by simp [ok]
theorem good_iff {size slide t : Int} : good size slide t = true ↔ (1 ≤ slide ∧ slide ≤ size ∧ size ≤ 1048576 ∧ size ≤ 16 * slide) ∧ 0 ≤ t ∧ t < 1099511627776 := by simp [good, ok]
/-- The end of the window that begins at lo. -/
def hiOf (size lo : Int) : Int := if lo + size ≤ 1099511627776 then lo + size else 1099511627776
theorem addT_hi {size lo : Int} (h0 : 0 ≤ lo) (h1 : lo ≤ 1099511627776) (h2 : 0 ≤ size) (h3 : size ≤ 1099511627776) : addT lo size = hiOf size lo := by
  unfold addT hiOf
  rw [cl_mid h0 h1, cl_mid h2 h3]
  split
  · rw [cl_mid (by omega) (by omega)]
  · rw [cl_big (by omega)]
/-- The last window that holds t begins here. -/
def top (slide t : Int) : Int := t - t % slide
/-- The k-th window from the last one on. -/
def win (size slide t : Int) (k : Nat) : Int × Int := (top slide t - k * slide, hiOf size (top slide t - k * slide))
/-- How many windows hold t. -/
def cnt (size slide t : Int) : Nat := min (t / slide + 1).toNat ((size - 1 - t % slide) / slide + 1).toNat
def desc (size slide t : Int) : List (Int × Int) := if good size slide t then (List.range (cnt size slide t)).map (win size slide t) else []
def of (size slide t : Int) : List (Int × Int) := (desc size slide t).reverse
def open_ (size slide t mark : Int) : List (Int × Int) := ((desc size slide t).takeWhile fun p => decide (mark < p.2)).reverse

theorem top_eq {slide t : Int} : top slide t = t / slide * slide := by
  unfold top
  have h := Int.mul_ediv_add_emod t slide
  have h1 : slide * (t / slide) = t / slide * slide := Int.mul_comm _ _
  omega
/-- The k-th one from the last one holds t, if k is less than how many there are; if not, it begins ahead of the first time, or ends too early. -/
theorem cnt_lt {size slide t : Int} (hs : 1 ≤ slide) (hz : slide ≤ size) (ht : 0 ≤ t) (k : Nat) : k < cnt size slide t ↔ 0 ≤ top slide t - k * slide ∧ t < top slide t - k * slide + size := by
  have hr := Int.emod_nonneg t (show slide ≠ 0 by omega)
  have hr2 := Int.emod_lt_of_pos t (show 0 < slide by omega)
  have hq : 0 ≤ t / slide := Int.ediv_nonneg ht (by omega)
  have hx : 0 ≤ size - 1 - t % slide := by omega
  have hq2 : 0 ≤ (size - 1 - t % slide) / slide := Int.ediv_nonneg hx (by omega)
  have e1 : (k : Int) ≤ t / slide ↔ 0 ≤ top slide t - k * slide := by
    rw [top_eq, Int.sub_nonneg]
    exact ⟨fun h => Int.mul_le_mul_of_nonneg_right h (by omega), fun h => Int.le_of_mul_le_mul_right h (by omega)⟩
  have e2 : (k : Int) ≤ (size - 1 - t % slide) / slide ↔ t < top slide t - k * slide + size := by
    rw [Int.le_ediv_iff_mul_le (by omega)]
    unfold top
    constructor <;> intro h <;> omega
  unfold cnt
  rw [← e1, ← e2]
  omega
theorem cnt_pos {size slide t : Int} (hs : 1 ≤ slide) (hz : slide ≤ size) (ht : 0 ≤ t) : 0 < cnt size slide t := by
  have hr2 := Int.emod_lt_of_pos t (show 0 < slide by omega)
  have hq : 0 ≤ t / slide := Int.ediv_nonneg ht (by omega)
  have hq2 : 0 ≤ (size - 1 - t % slide) / slide := Int.ediv_nonneg (by omega) (by omega)
  unfold cnt
  omega
theorem cnt_le {size slide t : Int} (hs : 1 ≤ slide) (h16 : size ≤ 16 * slide) (ht : 0 ≤ t) : cnt size slide t ≤ 16 := by
  have hr := Int.emod_nonneg t (show slide ≠ 0 by omega)
  have h : (size - 1 - t % slide) / slide < 16 := Int.ediv_lt_of_lt_mul (by omega) (by omega)
  unfold cnt
  omega
theorem desc_len {size slide t : Int} (h : good size slide t = true) : (desc size slide t).length = cnt size slide t := by simp [desc, h]
theorem len_le (size slide t : Int) : (desc size slide t).length ≤ 16 := by
  by_cases h : good size slide t
  · rw [desc_len h]
    obtain ⟨⟨a, b, c, d⟩, e, f⟩ := good_iff.1 h
    exact cnt_le a d e
  · simp [desc, h]
theorem top_bd {slide t : Int} (hs : 1 ≤ slide) (ht : 0 ≤ t) : 0 ≤ top slide t ∧ top slide t ≤ t ∧ t < top slide t + slide := by
  have h := floor_lo ht hs
  unfold top
  omega
end Win
end Go.Proofs.Ytehnhhkhnedgeaa
