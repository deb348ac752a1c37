/- Panes in memory; the comparisons of package cmp; which pane may be, whose place comes first. -/
import Derived.Test.YtklpfifellghlaaPaneMath
import Derived.Test.YtklpfifellghlaaFoldJoin
import Derived.Laws.StructEq
import Derived.Deep.RegionHeld3
import Derived.BigQuiet
import Derived.Laws.Cover1
namespace Go.Proofs.Ytklpfifellghlaa
open Go.RowKit
open Pan
set_option linter.unusedVariables false
def kS (l : List UInt8) : ByteArray := ⟨l.toArray⟩
theorem kS_size (l : List UInt8) : (kS l).size = l.length := by show l.toArray.size = _; simp
theorem kS_list (l : List UInt8) : (kS l).toList = l := by rw [ByteArray.toList_eq]; rfl
theorem kS_of (s : ByteArray) : kS s.toList = s := by rw [ByteArray.toList_eq]; rfl
abbrev paC (x : Pn) : Array Value := #[.int .i64 x.p.lo, .int .i64 x.p.hi, .string (kS x.p.key), .int .i64 x.acc.n, .int .i64 x.acc.a, .int .i64 x.acc.b]
abbrev paV (x : Pn) : Value := .agg (paC x)
/-- Hands back a truth; nothing is touched. -/
def SaysB (b : Bool) (w : World) (e : Ending) (w' : World) : Prop := e = .returned (.bool b) ∧ w = w'
def SaysI (n : Int) (w : World) (e : Ending) (w' : World) : Prop := e = .returned (.int .i64 n) ∧ w = w'
/-- Hands back a truth, a number; what was stays. -/
def TellsB (b : Bool) (w : World) (e : Ending) (w' : World) : Prop := e = .returned (.bool b) ∧ Below w.heap.size w w'
def TellsI (n : Int) (w : World) (e : Ending) (w' : World) : Prop := e = .returned (.int .i64 n) ∧ Below w.heap.size w w'
namespace Pan
def cmI (a b : Int) : Int := if a < b then -1 else if b < a then 1 else 0
def cmK (a b : List UInt8) : Int := if less a b then -1 else if less b a then 1 else 0
def or3 (x y z : Int) : Int := if x ≠ 0 then x else if y ≠ 0 then y else z
def ordN (a b : Pl) : Int := or3 (cmI a.hi b.hi) (cmI a.lo b.lo) (cmK a.key b.key)
theorem ordN_lt (a b : Pl) : ordN a b < 0 ↔ ahead a b = true := by
  rw [ahead_iff]
  unfold ordN or3 cmI cmK
  by_cases h1 : a.hi < b.hi
  · simp [h1]
  · by_cases h2 : b.hi < a.hi
    · simp [h1, h2]; omega
    · have e : a.hi = b.hi := by omega
      by_cases h3 : a.lo < b.lo
      · simp [e, h3]
      · by_cases h4 : b.lo < a.lo
        · simp [e, h3, h4]; omega
        · have e2 : a.lo = b.lo := by omega
          simp [e, e2]
          cases h5 : less a.key b.key <;> cases h6 : less b.key a.key <;> simp
theorem ordN_eq (a b : Pl) : ordN a b = 0 ↔ a = b := by
  constructor
  · intro h
    rcases ahead_total a b with h1 | h1 | h1
    · rw [← ordN_lt] at h1; omega
    · exact h1
    · exfalso
      have h2 := (ahead_iff b a).1 h1
      revert h
      unfold ordN or3 cmI cmK
      by_cases h3 : a.hi = b.hi
      · by_cases h4 : a.lo = b.lo
        · have h5 : less b.key a.key = true := by
            rcases h2 with h2 | ⟨_, h2 | ⟨_, h2⟩⟩
            · omega
            · omega
            · exact h2
          have h6 : less a.key b.key = false := by
            cases h7 : less a.key b.key with
            | false => rfl
            | true => have := less_trans _ _ _ h5 h7; rw [less_irrefl] at this; cases this
          simp [h3, h4, h5, h6]
        · have h5 : b.lo < a.lo := by omega
          have h6 : ¬ a.lo < b.lo := by omega
          simp [h3, h5, h6]
      · have h5 : b.hi < a.hi := by omega
        have h6 : ¬ a.hi < b.hi := by omega
        simp [h5, h6]
  · rintro rfl
    unfold ordN or3 cmI cmK
    simp [less_irrefl]
/-- May it be? -/
def may (x : Pn) : Bool := decide (1 ≤ x.p.key.length ∧ x.p.key.length ≤ 16 ∧ 0 ≤ x.p.lo ∧ x.p.lo < x.p.hi ∧ x.p.hi ≤ 1099511627776 ∧ 1 ≤ x.acc.n)
end Pan
theorem nanI (a : Int) (w : World) : Calls Try.prog 52 #[.int .i64 a] w (SaysB false w) := by
  go_enter Try.func52, Try.ntmps52
  go_wp2_with fail
  go_ret
  exact ⟨by simp, rfl⟩
theorem nanS (a : ByteArray) (w : World) : Calls Try.prog 53 #[.string a] w (SaysB false w) := by
  go_enter Try.func53, Try.ntmps53
  go_wp2_with fail
  go_ret
  exact ⟨by simp, rfl⟩
theorem cmpI (a b : Int) (w : World) : Calls Try.prog 45 #[.int .i64 a, .int .i64 b] w (SaysI (cmI a b) w) := by
  by_cases h1 : a < b
  · have hc := Lib.hid (show cmI a b = -1 from if_pos h1)
    go_enter Try.func45, Try.ntmps45
    go_wp2_with (go_at_call 52; refine (nanI _ _).mono ?_; rintro e w' ⟨rfl, rfl⟩)
    go_ret
    exact ⟨by rw [hc.out]; rfl, rfl⟩
  · by_cases h2 : b < a
    · have hc := Lib.hid (show cmI a b = 1 from by unfold cmI; rw [if_neg h1, if_pos h2])
      go_enter Try.func45, Try.ntmps45
      go_wp2_with (go_at_call 52; refine (nanI _ _).mono ?_; rintro e w' ⟨rfl, rfl⟩)
      go_ret
      exact ⟨by rw [hc.out]; rfl, rfl⟩
    · have hc := Lib.hid (show cmI a b = 0 from by unfold cmI; rw [if_neg h1, if_neg h2])
      go_enter Try.func45, Try.ntmps45
      go_wp2_with (go_at_call 52; refine (nanI _ _).mono ?_; rintro e w' ⟨rfl, rfl⟩)
      go_ret
      exact ⟨by rw [hc.out]; rfl, rfl⟩
theorem cmpS (a b : List UInt8) (w : World) : Calls Try.prog 46 #[.string (kS a), .string (kS b)] w (SaysI (cmK a b) w) := by
  by_cases h1 : less a b = true
  · have hc := Lib.hid (show cmK a b = -1 from if_pos h1)
    have h3 : Op.bytesLess (kS a).toList (kS b).toList = true := by rw [kS_list, kS_list]; exact h1
    clear h1
    go_enter Try.func46, Try.ntmps46
    go_wp2_with (go_at_call 53; refine (nanS _ _).mono ?_; rintro e w' ⟨rfl, rfl⟩)
    go_ret
    exact ⟨by rw [hc.out]; rfl, rfl⟩
  · have h1' : less a b = false := by simpa using h1
    have h3 : Op.bytesLess (kS a).toList (kS b).toList = false := by rw [kS_list, kS_list]; exact h1'
    by_cases h2 : less b a = true
    · have hc := Lib.hid (show cmK a b = 1 from by unfold cmK; rw [if_neg h1, if_pos h2])
      have h4 : ((kS a).toList == (kS b).toList) = false := by
        rw [kS_list, kS_list, beq_eq_false_iff_ne]
        rintro rfl
        rw [h1'] at h2; cases h2
      clear h1 h1' h2
      go_enter Try.func46, Try.ntmps46
      go_wp2_with (go_at_call 53; refine (nanS _ _).mono ?_; rintro e w' ⟨rfl, rfl⟩)
      go_ret
      exact ⟨by rw [hc.out]; rfl, rfl⟩
    · have h2' : less b a = false := by simpa using h2
      have hc := Lib.hid (show cmK a b = 0 from by unfold cmK; rw [if_neg h1, if_neg h2])
      have h4 : ((kS a).toList == (kS b).toList) = true := by
        rw [kS_list, kS_list, beq_iff_eq]
        rcases less_total a b with h | h | h
        · rw [h1'] at h; cases h
        · exact h
        · rw [h2'] at h; cases h
      clear h1 h1' h2 h2'
      go_enter Try.func46, Try.ntmps46
      go_wp2_with (go_at_call 53; refine (nanS _ _).mono ?_; rintro e w' ⟨rfl, rfl⟩)
      go_ret
      exact ⟨by rw [hc.out]; rfl, rfl⟩
/-- Where a loop over three stands. -/
def OrAt (x y z : Int) (w : World) (v : Value) (wr : World) : Prop := ∃ k : Nat, v = .int .i64 k ∧ wr = w ∧ (k = 0 ∨ (k = 1 ∧ x = 0) ∨ (k = 2 ∧ x = 0 ∧ y = 0) ∨ (k = 3 ∧ x = 0 ∧ y = 0 ∧ z = 0))
theorem cmpOr (x y z : Int) (b off c : Nat) (w : World) (c0 : w.cell? ⟨b, off, none⟩ = some (.int .i64 x)) (c1 : w.cell? ⟨b, off + 1, none⟩ = some (.int .i64 y)) (c2 : w.cell? ⟨b, off + 2, none⟩ = some (.int .i64 z)) :
    Calls Try.prog 44 #[.slice (some ⟨b, off, none⟩) 3 c] w (SaysI (or3 x y z) w) := by
  go_enter Try.func44, Try.ntmps44
  go_wp2_with fail
  go_loopw [8] (fun i wr => OrAt x y z w i wr) (fun i _ => 3 - (intOf i).toNat)
  case atStart => exact ⟨0, rfl, rfl, .inl rfl⟩
  case round =>
    obtain ⟨k, rfl, rfl, h⟩ := hrel
    rcases h with rfl | ⟨rfl, rfl⟩ | ⟨rfl, rfl, rfl⟩ | ⟨rfl, rfl, rfl, rfl⟩
    · by_cases h : x = 0
      · subst h
        go_wp2_with fail
        go_roundw
        case rel => exact ⟨1, rfl, rfl, .inr (.inl ⟨rfl, rfl⟩)⟩
        case measure => simp [intOf]
      · have hb := nb h
        have hc := Lib.hid (show or3 x y z = x from if_pos h)
        clear h
        go_wp2_with fail
        go_ret
        exact ⟨by rw [hc.out]; rfl, rfl⟩
    · by_cases h : y = 0
      · subst h
        go_wp2_with fail
        go_roundw
        case rel => exact ⟨2, rfl, rfl, .inr (.inr (.inl ⟨rfl, rfl, rfl⟩))⟩
        case measure => simp [intOf]
      · have hb := nb h
        have hc := Lib.hid (show or3 0 y z = y from by unfold or3; rw [if_neg (by simp), if_pos h])
        clear h
        go_wp2_with fail
        go_ret
        exact ⟨by rw [hc.out]; rfl, rfl⟩
    · by_cases h : z = 0
      · subst h
        go_wp2_with fail
        go_roundw
        case rel => exact ⟨3, rfl, rfl, .inr (.inr (.inr ⟨rfl, rfl, rfl, rfl⟩))⟩
        case measure => simp [intOf]
      · have hb := nb h
        have hc := Lib.hid (show or3 0 0 z = z from by unfold or3; rw [if_neg (by simp), if_neg (by simp)])
        clear h
        go_wp2_with fail
        go_ret
        exact ⟨by rw [hc.out]; rfl, rfl⟩
    · go_wp2_with fail
      go_ret
      exact ⟨rfl, rfl⟩
end Go.Proofs.Ytklpfifellghlaa
