/- Add, of package pane; alive. -/
import Derived.Test.YtklpfifellghlaaPaneMerge
import Derived.Test.YtklpfifellghlaaPaneVals
import Derived.Deep.RegionHeld3
namespace Go.Proofs.Ytklpfifellghlaa
open Go.RowKit
open Pan
set_option linter.unusedVariables false
theorem paMerge (k : Int) (xs ys : List Pn) (A A2 : Option Addr) (c c2 : Nat) (w : World) (hA : Row w A (pc xs)) (hA2 : Row w A2 (pc ys)) (hl : xs.length ≤ c) (hc : c ≤ 9223372036854775807) (hl2 : ys.length ≤ 9223372036854775807) :
    Calls Try.prog 22 #[.int .i64 k, .slice A xs.length c, .slice A2 ys.length c2] w (GivesPE (mOut k xs ys) w) := by
  by_cases h : (right xs && right ys && Acm.isK k) = true
  · have h2 := h
    rw [Bool.and_eq_true, Bool.and_eq_true] at h2
    exact paMerge_ok k xs ys A A2 c c2 w hA hA2 hl hc h2.1.1 h2.1.2 h2.2
  · have e : mOut k xs ys = ([], 1) := by unfold mOut; rw [if_neg h]
    rw [e]
    exact paMerge_arg k xs ys A A2 c c2 w hA hA2 (by omega) hl2 (by simpa using h)
structure MergeOf (k : Int) (xs ys : List Pn) (A : Option Addr) (n c : Nat) (w : World) : Prop where
  run : ∀ w' A2 m c2, Below w.heap.size w w' → Row w' A2 (pc ys) → m = ys.length → Calls Try.prog 22 #[.int .i64 k, .slice A n c, .slice A2 m c2] w' (GivesPE (mOut k xs ys) w')
theorem keepA {w a b : World} {p q : Addr} {x y : Value} (hb : Below a.heap.size a b) (h : a.cell? p = some x ∧ a.cell? q = some y ∧ Below w.heap.size w a) : b.cell? p = some x ∧ b.cell? q = some y ∧ Below w.heap.size w b :=
  ⟨cell_below h.1 hb, cell_below h.2.1 hb, below_next h.2.2 hb⟩
theorem third {a b c : Prop} (h : a ∧ b ∧ c) : c := h.2.2
set_option maxHeartbeats 2000000 in
theorem paAdd (k : Int) (xs : List Pn) (A : Option Addr) (c : Nat) (lo hi v : Int) (key : List UInt8) (w : World) (hA : Row w A (pc xs)) (hl : xs.length ≤ c) (hc : c ≤ 9223372036854775807) :
    Calls Try.prog 11 #[.slice A xs.length c, .int .i64 k, .string (kS key), .agg #[.int .i64 lo, .int .i64 hi], .int .i64 v] w (GivesPE (aOut k xs ⟨lo, hi, key⟩ v) w) := by
  have HO := Lib.hid (fun w => foldOne k v w)
  have HM : MergeOf k xs [⟨⟨lo, hi, key⟩, Acm.one k v⟩] A xs.length c w := ⟨fun w' A2 m c2 hb hr hm => by subst hm; exact paMerge k xs _ A A2 c c2 w' (hA.below hb) hr hl hc (by simp)⟩
  obtain ⟨r, hr⟩ : ∃ r, r = aOut k xs ⟨lo, hi, key⟩ v := ⟨_, rfl⟩
  have HR := Lib.hid (show mOut k xs [⟨⟨lo, hi, key⟩, Acm.one k v⟩] = r from hr.symm)
  rw [← hr]
  obtain ⟨z, hz⟩ : ∃ z, z = Acm.one k v := ⟨_, rfl⟩
  rw [← hz] at HO HM HR
  clear hr hz hA
  go_enter Try.func11, Try.ntmps11
  go_wp2_with fail
  have S0 : (w.alloc (.cells #[.int .i64 lo, .int .i64 hi] 24)).drew.cell? ⟨w.heap.size, 0, none⟩ = some (.int .i64 lo) ∧ (w.alloc (.cells #[.int .i64 lo, .int .i64 hi] 24)).drew.cell? ⟨w.heap.size, 1, none⟩ = some (.int .i64 hi) ∧ Below w.heap.size w (w.alloc (.cells #[.int .i64 lo, .int .i64 hi] 24)).drew :=
    ⟨(Lies.new w _ _).cell (j := 0) rfl, (Lies.new w _ _).cell (j := 1) rfl, below_drewOf (below_al (Below.refl _ _))⟩
  generalize w.alloc (.cells #[.int .i64 lo, .int .i64 hi] 24) = w1 at S0 ⊢
  go_region_held3 (fun w' => w'.cell? ⟨w.heap.size, 0, none⟩ = some (.int .i64 lo) ∧ w'.cell? ⟨w.heap.size, 1, none⟩ = some (.int .i64 hi) ∧ Below w.heap.size w w')
    (first | assumption | exact keepA hb5 (by assumption) | exact keepA (below_al (Below.refl _ _)) (by assumption))
    ((first
      | (go_at_call 25; refine (HO.out _).mono ?_; rintro e w5 ⟨rfl, hb5⟩; dsimp only)
      | (go_at_call 22; refine (HM.run _ _ _ _ (third (by assumption)) (one_row _ ⟨⟨lo, hi, key⟩, z⟩) rfl).mono ?_; rintro e w5 ⟨A1, c1, rfl, q1, q2, q3, hb5⟩; have Q3 := Lib.hid q3; clear q3; dsimp only)))
  rename_i hs
  have HB5 := Lib.hid hs.2.2
  rw [HR.out] at Q3 q1
  clear hs
  go_wp2_with fail
  go_ret2
  rw [HR.out]
  exact ⟨A1, c1, rfl, q1, q2, Q3.out, HB5.out⟩
theorem lawAlive (w : World) : Calls Try.prog 13 #[] w (TellsB true w) := by
  have HA := Lib.hid (paAdd 2 [] none 0 0 1 5 [97] w Row.nil (Nat.le_refl _) (by omega))
  have e : aOut 2 [] ⟨0, 1, [97]⟩ 5 = ([⟨⟨0, 1, [97]⟩, Acm.one 2 5⟩], 0) := by kernel_rfl
  rw [e] at HA
  clear e
  go_enter Try.func13, Try.ntmps13
  go_wp2_with fail
  refine HA.out.mono ?_
  rintro e w1 ⟨A, c, rfl, _, _, _, hb⟩
  have HB := Lib.hid hb
  clear hb
  go_wp2_with fail
  go_ret
  exact ⟨rfl, HB.out⟩
end Go.Proofs.Ytklpfifellghlaa
