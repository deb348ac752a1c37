/- PaneAdd, PaneAddR, Wide1, put together. -/
import Derived.Test.YthfbcfddfbipfaaZ22
import Derived.Test.YthfbcfddfbipfaaZ6
import Derived.Deep.RegionHeld3
import Derived.Test.YthfbcfddfbipfaaZ23
import Derived.Test.YthfbcfddfbipfaaZ24
import Derived.Deep.Cut
import Derived.Deep.CutBlock
import Derived.Test.YthfbcfddfbipfaaZ5
import Derived.BigRegion
/- Add, of package pane; alive. -/
namespace Go.Proofs.Ythfbcfddfbipfaa
open Go.RowKit
open Pan
set_option linter.unusedVariables false
set_option maxRecDepth 8000
theorem paMerge (k : Int) (xs ys : List Pn) (A A2 : Option Addr) (c c2 : Nat) (w : World) (hA : Row w A (pc xs)) (hA2 : Row w A2 (pc ys)) (hl : xs.length ≤ c) (hc : c ≤ 9223372036854775807) (hl2 : ys.length ≤ 9223372036854775807) :
    Calls Try.prog 65 #[.int .i64 k, .slice A xs.length c, .slice A2 ys.length c2] w (GivesPE (mOut k xs ys) w) := by
  by_cases h : (right xs && right ys && Acm.isK k) = true
  · have h2 := h
    rw [Bool.and_eq_true, Bool.and_eq_true] at h2
    exact paMerge_ok k xs ys A A2 c c2 w hA hA2 hl hc h2.1.1 h2.1.2 h2.2
  · have e : mOut k xs ys = ([], 1) := by unfold mOut; rw [if_neg h]
    rw [e]
    exact paMerge_arg k xs ys A A2 c c2 w hA hA2 (by omega) hl2 (by simpa using h)
structure MergeOf (k : Int) (xs ys : List Pn) (A : Option Addr) (n c : Nat) (w : World) : Prop where
  run : ∀ w' A2 m c2, Below w.heap.size w w' → Row w' A2 (pc ys) → m = ys.length → Calls Try.prog 65 #[.int .i64 k, .slice A n c, .slice A2 m c2] w' (GivesPE (mOut k xs ys) w')
theorem keepA {w a b : World} {p q : Addr} {x y : Value} (hb : Below a.heap.size a b) (h : a.cell? p = some x ∧ a.cell? q = some y ∧ Below w.heap.size w a) : b.cell? p = some x ∧ b.cell? q = some y ∧ Below w.heap.size w b :=
  ⟨cell_below h.1 hb, cell_below h.2.1 hb, below_next h.2.2 hb⟩
theorem third {a b c : Prop} (h : a ∧ b ∧ c) : c := h.2.2
set_option maxHeartbeats 2000000 in
theorem paAdd (k : Int) (xs : List Pn) (A : Option Addr) (c : Nat) (lo hi v : Int) (key : List UInt8) (w : World) (hA : Row w A (pc xs)) (hl : xs.length ≤ c) (hc : c ≤ 9223372036854775807) :
    Calls Try.prog 32 #[.slice A xs.length c, .int .i64 k, .string (kS key), .agg #[.int .i64 lo, .int .i64 hi], .int .i64 v] w (GivesPE (aOut k xs ⟨lo, hi, key⟩ v) w) := by
  have HO := Lib.hid (fun w => foldOne k v w)
  have HM : MergeOf k xs [⟨⟨lo, hi, key⟩, Acm.one k v⟩] A xs.length c w := ⟨fun w' A2 m c2 hb hr hm => by subst hm; exact paMerge k xs _ A A2 c c2 w' (hA.below hb) hr hl hc (by simp)⟩
  obtain ⟨r, hr⟩ : ∃ r, r = aOut k xs ⟨lo, hi, key⟩ v := ⟨_, rfl⟩
  have HR := Lib.hid (show mOut k xs [⟨⟨lo, hi, key⟩, Acm.one k v⟩] = r from hr.symm)
  rw [← hr]
  obtain ⟨z, hz⟩ : ∃ z, z = Acm.one k v := ⟨_, rfl⟩
  rw [← hz] at HO HM HR
  clear hr hz hA
  go_enter Try.func32, Try.ntmps32
  go_wp2_with fail
  have S0 : (w.alloc (.cells #[.int .i64 lo, .int .i64 hi] 55)).drew.cell? ⟨w.heap.size, 0, none⟩ = some (.int .i64 lo) ∧ (w.alloc (.cells #[.int .i64 lo, .int .i64 hi] 55)).drew.cell? ⟨w.heap.size, 1, none⟩ = some (.int .i64 hi) ∧ Below w.heap.size w (w.alloc (.cells #[.int .i64 lo, .int .i64 hi] 55)).drew :=
    ⟨(Lies.new w _ _).cell (j := 0) rfl, (Lies.new w _ _).cell (j := 1) rfl, below_drewOf (below_al (Below.refl _ _))⟩
  generalize w.alloc (.cells #[.int .i64 lo, .int .i64 hi] 55) = w1 at S0 ⊢
  go_region_held3 (fun w' => w'.cell? ⟨w.heap.size, 0, none⟩ = some (.int .i64 lo) ∧ w'.cell? ⟨w.heap.size, 1, none⟩ = some (.int .i64 hi) ∧ Below w.heap.size w w')
    (first | assumption | exact keepA hb5 (by assumption) | exact keepA (below_al (Below.refl _ _)) (by assumption))
    ((first
      | (go_at_call 66; refine (HO.out _).mono ?_; rintro e w5 ⟨rfl, hb5⟩; dsimp only)
      | (go_at_call 65; refine (HM.run _ _ _ _ (third (by assumption)) (one_row _ ⟨⟨lo, hi, key⟩, z⟩) rfl).mono ?_; rintro e w5 ⟨A1, c1, rfl, q1, q2, q3, hb5⟩; have Q3 := Lib.hid q3; clear q3; dsimp only)))
  rename_i hs
  have HB5 := Lib.hid hs.2.2
  rw [HR.out] at Q3 q1
  clear hs
  go_wp2_with fail
  go_ret2
  rw [HR.out]
  exact ⟨A1, c1, rfl, q1, q2, Q3.out, HB5.out⟩
end Go.Proofs.Ythfbcfddfbipfaa
/- Add, Merge, Due of the reference. -/
namespace Go.Proofs.Ythfbcfddfbipfaa
open Go.RowKit
open Pan
set_option linter.unusedVariables false
set_option maxRecDepth 8000
theorem row_oneV (w : World) (v : Int) (T : TypeId) : Row (w.alloc (.cells #[.int .i64 v] T)) (some ⟨w.heap.size, 0, none⟩) ([v].map (Value.int .i64)) :=
  .inr ⟨_, 0, rfl, fun j u hu => by
    have h := Lies.new w #[.int .i64 v] T
    match j, hu with
    | 0, hu => exact h.cell hu
    | j + 1, hu => simp at hu⟩
theorem row_oneA (w : World) (v : Int) (o : Obj) (T : TypeId) : Row ((w.alloc o).alloc (.cells #[.int .i64 v] T)) (some ⟨w.heap.size + 1, 0, none⟩) ([v].map (Value.int .i64)) := by
  have h := row_oneV (w.alloc o) v T
  rwa [World.size_alloc] at h
theorem all_oneV (k v : Int) : Acm.all k [v] = Acm.one k v := by
  show Acm.join k Acm.zero (Acm.one k v) = Acm.one k v
  by_cases h : 1 ≤ k ∧ k ≤ 5
  · exact Acm.join_l h rfl _
  · rw [Acm.join_bad h]; unfold Acm.one; rw [if_neg (by omega), if_neg (by omega), if_neg (by omega)]
namespace Pan
/-- What the reference's Add answers is what the other's does. -/
theorem aOut_w {k : Int} {xs : List Pn} {p : Pl} {v : Int} (h : (right xs && Acm.isK k && may ⟨p, Acm.one k v⟩) = true) : aOut k xs p v = wOut k ⟨p, Acm.one k v⟩ xs := by
  rw [Bool.and_eq_true, Bool.and_eq_true] at h
  unfold aOut mOut wOut
  rw [right_one, h.1.1, h.1.2, h.2]
  simp only [bad, mrg, List.foldl_cons, List.foldl_nil, Bool.or_false, Bool.and_self, if_true]
  congr
theorem aOut_arg {k : Int} {xs : List Pn} {p : Pl} {v : Int} (h : (right xs && Acm.isK k && may ⟨p, Acm.one k v⟩) = false) : aOut k xs p v = ([], 1) := by
  unfold aOut mOut
  rw [right_one]
  have : (right xs && may ⟨p, Acm.one k v⟩ && Acm.isK k) = false := by
    cases h1 : right xs <;> cases h2 : Acm.isK k <;> cases h3 : may ⟨p, Acm.one k v⟩ <;> simp_all
  rw [this]; rfl
end Pan
theorem Lies.set6 {b : Nat} {T : TypeId} {w : World} {u0 u1 u2 u3 u4 u5 : Value} (h : Lies b #[u0, u1, u2, u3, u4, u5] T w) (v0 v1 v2 v3 v4 v5 : Value) :
    Lies b #[v0, v1, v2, v3, v4, v5] T ((((((w.setCell ⟨b, 0, none⟩ v0).setCell ⟨b, 1, none⟩ v1).setCell ⟨b, 2, none⟩ v2).setCell ⟨b, 3, none⟩ v3).setCell ⟨b, 4, none⟩ v4).setCell ⟨b, 5, none⟩ v5) := by
  have h2 := (((((h.set 0 v0).set 1 v1).set 2 v2).set 3 v3).set 4 v4).set 5 v5
  simpa using h2
theorem below_set6 {B b : Nat} {u w : World} (h : Below B u w) (hb : B ≤ b) (v0 v1 v2 v3 v4 v5 : Value) :
    Below B u ((((((w.setCell ⟨b, 0, none⟩ v0).setCell ⟨b, 1, none⟩ v1).setCell ⟨b, 2, none⟩ v2).setCell ⟨b, 3, none⟩ v3).setCell ⟨b, 4, none⟩ v4).setCell ⟨b, 5, none⟩ v5) :=
  (((((h.setCell (p := ⟨b, 0, none⟩) hb _).setCell (p := ⟨b, 1, none⟩) hb _).setCell (p := ⟨b, 2, none⟩) hb _).setCell (p := ⟨b, 3, none⟩) hb _).setCell (p := ⟨b, 4, none⟩) hb _).setCell (p := ⟨b, 5, none⟩) hb _
structure AllOf (k v : Int) (z : Acm.Ac) (w : World) : Prop where
  run : ∀ w' A, Row w' A ([v].map (Value.int .i64)) → Calls Try.prog 69 #[.int .i64 k, .slice A 1 1] w' (GivesAc z w')
theorem Row.drewV {w : World} {A : Option Addr} {cs : List Value} (h : Row w A cs) : Row w.drew A cs := h
theorem keepS6 {w a : World} {B : Nat} {x y : Value} {b : Nat} {v0 v1 v2 v3 v4 v5 : Value} (hb : b ≠ B) (hw : w.heap.size ≤ b) (h : a.cell? ⟨B, 0, none⟩ = some x ∧ a.cell? ⟨B, 1, none⟩ = some y ∧ Below w.heap.size w a) :
    ((((((a.setCell ⟨b, 0, none⟩ v0).setCell ⟨b, 1, none⟩ v1).setCell ⟨b, 2, none⟩ v2).setCell ⟨b, 3, none⟩ v3).setCell ⟨b, 4, none⟩ v4).setCell ⟨b, 5, none⟩ v5).cell? ⟨B, 0, none⟩ = some x ∧
      ((((((a.setCell ⟨b, 0, none⟩ v0).setCell ⟨b, 1, none⟩ v1).setCell ⟨b, 2, none⟩ v2).setCell ⟨b, 3, none⟩ v3).setCell ⟨b, 4, none⟩ v4).setCell ⟨b, 5, none⟩ v5).cell? ⟨B, 1, none⟩ = some y ∧
      Below w.heap.size w ((((((a.setCell ⟨b, 0, none⟩ v0).setCell ⟨b, 1, none⟩ v1).setCell ⟨b, 2, none⟩ v2).setCell ⟨b, 3, none⟩ v3).setCell ⟨b, 4, none⟩ v4).setCell ⟨b, 5, none⟩ v5) := by
  refine ⟨?_, ?_, below_set6 h.2.2 hw _ _ _ _ _ _⟩
  · rw [World.cell?_setCell_far _ _ _ _ hb, World.cell?_setCell_far _ _ _ _ hb, World.cell?_setCell_far _ _ _ _ hb, World.cell?_setCell_far _ _ _ _ hb, World.cell?_setCell_far _ _ _ _ hb, World.cell?_setCell_far _ _ _ _ hb]; exact h.1
  · rw [World.cell?_setCell_far _ _ _ _ hb, World.cell?_setCell_far _ _ _ _ hb, World.cell?_setCell_far _ _ _ _ hb, World.cell?_setCell_far _ _ _ _ hb, World.cell?_setCell_far _ _ _ _ hb, World.cell?_setCell_far _ _ _ _ hb]; exact h.2.1
theorem keepD {w a : World} {p q : Addr} {x y : Value} {o : Obj} (h : a.drew.cell? p = some x ∧ a.drew.cell? q = some y ∧ Below w.heap.size w a.drew) :
    (a.alloc o).drew.cell? p = some x ∧ (a.alloc o).drew.cell? q = some y ∧ Below w.heap.size w (a.alloc o).drew :=
  keepA (a := a.drew) (b := (a.alloc o).drew) (below_al (b := a.drew) (o := o) (Below.refl _ _)) h
theorem keepL (w0 : World) {a b : World} (hb : Below a.heap.size a b) : ∀ k C, Lies k C 59 a → Lies k C 59 b := fun k C h => h.below hb
set_option maxRecDepth 100000 in
set_option maxHeartbeats 1000000 in
theorem rfAdd (k : Int) (xs : List Pn) (A : Option Addr) (c : Nat) (lo hi v : Int) (key : List UInt8) (w : World) (hA : Row w A (pc xs)) (hl : xs.length ≤ 9223372036854775807) (hv : -9223372036854775808 ≤ v ∧ v ≤ 9223372036854775807) :
    Calls Try.prog 35 #[.slice A xs.length c, .int .i64 k, .string (kS key), .agg #[.int .i64 lo, .int .i64 hi], .int .i64 v] w (GivesPE (aOut k xs ⟨lo, hi, key⟩ v) w) := by
  have HALL : AllOf k v (Acm.one k v) w := ⟨fun w' A hr => all_oneV k v ▸ rfAll k A 1 [v] w' hr (by simp) (by simpa using hv)⟩
  have HR := Lib.hid (fun w' (hb : Below w.heap.size w w') => rfRightL xs A c w' (hA.below hb) hl)
  have HW := Lib.hid (fun (hr : right xs = true) x w' (hb : Below w.heap.size w w') => rfWith k x xs A c w' (hA.below hb) ((right_iff xs).1 hr).1 ((right_iff xs).1 hr).2.2)
  have HARG := Lib.hid (fun h => aOut_arg (k := k) (xs := xs) (p := ⟨lo, hi, key⟩) (v := v) h)
  have HOK := Lib.hid (fun h => aOut_w (k := k) (xs := xs) (p := ⟨lo, hi, key⟩) (v := v) h)
  have HK := Lib.hid (rfFold k)
  have HMY := Lib.hid (rfMayB ⟨⟨lo, hi, key⟩, Acm.one k v⟩)
  obtain ⟨b1, h1⟩ : ∃ b, b = right xs := ⟨_, rfl⟩
  obtain ⟨b2, h2⟩ : ∃ b, b = Acm.isK k := ⟨_, rfl⟩
  obtain ⟨b3, h3⟩ : ∃ b, b = may ⟨⟨lo, hi, key⟩, Acm.one k v⟩ := ⟨_, rfl⟩
  rw [← h1] at HR HARG HOK HW
  rw [← h2] at HK HARG HOK
  rw [← h3] at HMY HARG HOK
  obtain ⟨z, hz⟩ : ∃ z, z = Acm.one k v := ⟨_, rfl⟩
  rw [← hz] at HALL HOK HMY
  clear hz hA hv h1 h2 h3
  go_enter Try.func35, Try.ntmps35
  go_upto_region 1 with fail
  go_cut [12] from 13 (fun s wx => ∃ b, s = .pointer (some ⟨b, 0, none⟩) ∧ Lies b (paC ⟨⟨lo, hi, key⟩, z⟩) 59 wx ∧ Below w.heap.size w wx)
  case first =>
    have S0 : (w.alloc (.cells #[.int .i64 lo, .int .i64 hi] 55)).drew.cell? ⟨w.heap.size, 0, none⟩ = some (.int .i64 lo) ∧ (w.alloc (.cells #[.int .i64 lo, .int .i64 hi] 55)).drew.cell? ⟨w.heap.size, 1, none⟩ = some (.int .i64 hi) ∧ Below w.heap.size w (w.alloc (.cells #[.int .i64 lo, .int .i64 hi] 55)).drew :=
      ⟨(Lies.new w _ _).cell (j := 0) rfl, (Lies.new w _ _).cell (j := 1) rfl, below_drewOf (below_al (Below.refl _ _))⟩
    have hw1 : (w.alloc (.cells #[.int .i64 lo, .int .i64 hi] 55)).heap.size = w.heap.size + 1 := World.size_alloc _ _
    have HW1 := Lib.hid hw1
    clear hw1
    generalize w.alloc (.cells #[.int .i64 lo, .int .i64 hi] 55) = w1 at S0 HW1 ⊢
    go_region_held3 (fun w' => w'.cell? ⟨w.heap.size, 0, none⟩ = some (.int .i64 lo) ∧ w'.cell? ⟨w.heap.size, 1, none⟩ = some (.int .i64 hi) ∧ Below w.heap.size w w')
      (first | with_reducible assumption | ((with_reducible refine keepS6 ?_ ?_ ?_) <;> first | with_reducible assumption | (have := HW1.out; omega)) | ((with_reducible refine keepA hb5 ?_); with_reducible assumption) | ((with_reducible refine keepD ?_); with_reducible assumption) | ((with_reducible refine keepA (below_al (Below.refl _ _)) ?_); with_reducible assumption) | ((with_reducible refine keepA (below_al (Below.refl _ _)) ?_); with_reducible exact HS5.out))
      ((go_at_call 69
        refine (HALL.run _ _ (by first | with_reducible exact row_oneV _ _ _ | with_reducible exact (row_oneV _ _ _).drewV | with_reducible exact row_oneA _ _ _ _ | with_reducible exact (row_oneA _ _ _ _).drewV | with_reducible exact (row_oneV _ _ _).below (below_al (Below.refl _ _)) | with_reducible exact ((row_oneV _ _ _).below (below_al (Below.refl _ _))).drewV)).mono ?_
        rintro e w5 ⟨rfl, hb5⟩
        have HK5 := Lib.hid (keepL w hb5)
        have HS5 := Lib.hid (keepA hb5 (by with_reducible assumption))
        (try have hlz := HK5.out _ _ (by first | with_reducible exact Lies.new _ _ _ | with_reducible exact (Lies.new _ _ _).al | with_reducible exact (Lies.new _ _ _).drew | with_reducible exact (Lies.new _ _ _).al.drew))
        (try simp only [World.size_alloc] at hlz)
        (try have HLZ := Lib.hid hlz)
        (try clear hlz)
        (try have z0 := HLZ.out.cell (j := 0) rfl)
        (try have z1 := HLZ.out.cell (j := 1) rfl)
        (try have z2 := HLZ.out.cell (j := 2) rfl)
        (try have z3 := HLZ.out.cell (j := 3) rfl)
        (try have z4 := HLZ.out.cell (j := 4) rfl)
        (try have z5 := HLZ.out.cell (j := 5) rfl)
        (try have f0 := HLZ.out.free 0)
        (try have f1 := HLZ.out.free 1)
        (try have f2 := HLZ.out.free 2)
        (try have f3 := HLZ.out.free 3)
        (try have f4 := HLZ.out.free 4)
        (try have f5 := HLZ.out.free 5)
        dsimp only))
    · go_wp2_with fail
      go_meet
      case rel => exact ⟨_, rfl, Lies.new _ _ _, below_al HS5.out.2.2⟩
    · go_wp2_with fail
      go_meet
      case rel => exact ⟨_, rfl, HLZ.out.set6 _ _ _ _ _ _, below_set6 HS5.out.2.2 (by have := HW1.out; omega) _ _ _ _ _ _⟩
    · go_wp2_with fail
      go_meet
      case rel => exact ⟨_, rfl, HLZ.out.set6 _ _ _ _ _ _, below_set6 HS5.out.2.2 (by have := HW1.out; omega) _ _ _ _ _ _⟩
  case rest =>
    obtain ⟨b, rfl, hlies, hb⟩ := hcut
    have HB := Lib.hid hb
    have HL := Lib.hid hlies
    clear hb hlies
    cases b1
    · go_wp2_with fail
      refine (HR.out _ HB.out).mono ?_
      rintro e w1 ⟨rfl, hb1⟩
      have HB1 := Lib.hid (below_next HB.out hb1)
      clear hb1
      go_wp2_with fail
      go_ret2
      rw [HARG.out rfl]
      exact ⟨none, 0, rfl, Nat.le_refl _, by simp [maxLen], Row.nil, HB1.out⟩
    · cases b2
      · go_wp2_with fail
        refine (HR.out _ HB.out).mono ?_
        rintro e w1 ⟨rfl, hb1⟩
        have HB1 := Lib.hid (below_next HB.out hb1)
        clear hb1
        go_wp2_with fail
        refine (HK.out _).mono ?_
        rintro e w2 ⟨rfl, rfl⟩
        go_wp2_with fail
        go_ret2
        rw [HARG.out rfl]
        exact ⟨none, 0, rfl, Nat.le_refl _, by simp [maxLen], Row.nil, HB1.out⟩
      · go_wp2_with fail
        refine (HR.out _ HB.out).mono ?_
        rintro e w1 ⟨rfl, hb1⟩
        have HB1 := Lib.hid (below_next HB.out hb1)
        have HL1 := Lib.hid (HL.out.below hb1)
        clear hb1
        go_wp2_with fail
        refine (HK.out _).mono ?_
        rintro e w2 ⟨rfl, rfl⟩
        have z0 := HL1.out.cell (j := 0) rfl
        have z1 := HL1.out.cell (j := 1) rfl
        have z2 := HL1.out.cell (j := 2) rfl
        have z3 := HL1.out.cell (j := 3) rfl
        have z4 := HL1.out.cell (j := 4) rfl
        have z5 := HL1.out.cell (j := 5) rfl
        go_wp2_with fail
        refine (HMY.out _).mono ?_
        rintro e w3 ⟨rfl, hb3⟩
        have HB3 := Lib.hid (below_next HB1.out hb3)
        have HL3 := Lib.hid (HL1.out.below hb3)
        clear hb3 z0 z1 z2 z3 z4 z5
        cases b3
        · go_wp2_with fail
          go_ret2
          rw [HARG.out rfl]
          exact ⟨none, 0, rfl, Nat.le_refl _, by simp [maxLen], Row.nil, HB3.out⟩
        · have z0 := HL3.out.cell (j := 0) rfl
          have z1 := HL3.out.cell (j := 1) rfl
          have z2 := HL3.out.cell (j := 2) rfl
          have z3 := HL3.out.cell (j := 3) rfl
          have z4 := HL3.out.cell (j := 4) rfl
          have z5 := HL3.out.cell (j := 5) rfl
          go_wp2_with fail
          refine (HW.out (by first | rfl | trivial) ⟨⟨lo, hi, key⟩, z⟩ _ HB3.out).mono ?_
          rintro e w4 ⟨A1, c1, rfl, q1, q2, q3, hb4⟩
          have HB4 := Lib.hid (below_next HB3.out hb4)
          have Q3 := Lib.hid q3
          clear hb4 q3 z0 z1 z2 z3 z4 z5
          go_wp2_with fail
          go_ret2
          rw [HOK.out (by first | rfl | trivial)]
          exact ⟨A1, c1, rfl, q1, q2, Q3.out, HB4.out⟩
end Go.Proofs.Ythfbcfddfbipfaa
/- As Wide, for a region whose first operation but hands on a slot's value, which is asked for at the end alone ('out = append(out, f(x))'): it is taken first. -/
namespace Go.Proofs.Ythfbcfddfbipfaa
open Go.RowKit
section
variable {P : Program} {ops : Array Oper} {md : Region.Mode} {C : World → Prop}
def sinkFrom (md : Region.Mode) (ops : Array Oper) (m n : Nat) : Bool :=
  (List.range n).all fun i => decide (i < m) || (List.range (n + 1)).any fun j => decide (i < j) && Region.waitsFor md ops j i
theorem tail_waits1 {m n : Nat} {listed : Array Bool} (hs : sinkFrom md ops m n = true) (hc : Region.chainB md ops n = true) (hn : n < ops.size) (inv : HeadInv md ops n listed) (hpre : ∀ t, t < m → listed.getD t false = true) :
    ∀ (d i : Nat), n - i = d → i < n → listed.getD i true = false → ∀ t, n ≤ t → t ∉ Region.ready md ops listed := by
  intro d
  induction d using Nat.strongRecOn with
  | _ d ih =>
    intro i hd hi hun t ht hr
    obtain ⟨_, ot, hot, hall⟩ := mem_ready.1 hr
    have htlt : t < ops.size := (Array.getElem?_eq_some_iff.1 hot).1
    by_cases htn : t = n
    · subst htn
      have h1 := List.all_eq_true.1 hs i (List.mem_range.2 hi)
      have him : ¬ i < m := fun h => by
        have := hpre i h
        rw [getD_both hun] at this; cases this
      rw [decide_eq_false him, Bool.false_or] at h1
      obtain ⟨j, hj, hj2⟩ := List.any_eq_true.1 h1
      simp only [Bool.and_eq_true, decide_eq_true_eq] at hj2
      obtain ⟨oj, hoj, e, he, hb, hon⟩ := Region.waitsFor_spec hj2.2
      have hjle : j ≤ t := by have := List.mem_range.1 hj; omega
      by_cases hjt : j = t
      · subst hjt
        have : oj = ot := Option.some.inj (hoj.symm.trans hot)
        subst this
        have h2 := hall e he hb
        rw [hon, getD_both hun] at h2
        cases h2
      · cases hl : listed.getD j false with
        | true =>
          have h2 := inv.closed j oj hoj hl e he hb
          rw [hon, getD_both hun] at h2
          cases h2
        | false =>
          have hjs : j < listed.size := by rw [inv.size]; omega
          exact ih (t - j) (by omega) j rfl (by omega) (getD_in hjs hl) t (Nat.le_refl _) hr
    · have h1 := List.all_eq_true.1 hc t (List.mem_range.2 htlt)
      simp only [Bool.or_eq_true, decide_eq_true_eq] at h1
      rcases h1 with h1 | h1
      · omega
      · obtain ⟨o', ho', e, he, hb, hon⟩ := Region.waitsFor_spec h1
        have : o' = ot := Option.some.inj (ho'.symm.trans hot)
        subst this
        have h2 := hall e he hb
        rw [hon, getD_both (inv.tail (t - 1) (by omega) (by omega))] at h2
        cases h2
theorem anyQL_first1 {m n i : Nat} {oi : Oper} {v : Value} {L : Array Bool → Act → Prop} (hi : ops[i]? = some oi) (hsel : ∀ (j : Nat) (o : Oper) cs b, ops[j]? = some o → o.op ≠ .select cs b)
    (hs : sinkFrom md ops m n = true) (hc : Region.chainB md ops n = true) (hn : n < ops.size) (hin : i < n)
    (hdone : ∀ listed a, L listed a → ∀ j ∈ Region.ready md ops listed, n ≤ j) :
    ∀ (f : Nat) (listed : Array Bool) (a : Act), HeadInv md ops n listed → (∀ t, t < m → listed.getD t false = true) →
      (∀ j oj, ops[j]? = some oj → j ≠ i → listed.getD j true = false → (∀ e ∈ oj.after, Region.binds md e = true → e.on ≠ i) → oi.apart ops oj = true) →
      i ∈ Region.ready md ops listed → YieldsIn P ops C oi v a →
      anyQL P md ops C n L f (listed.setIfInBounds i true) (a.put oi.dst v) → anyQL P md ops C n L (f + 1) listed a := by
  intro f
  induction f with
  | zero =>
    intro listed a inv hpre _ hr hy H
    have hun := (mem_ready.1 hr).1
    refine ⟨fun h => (by rw [h] at hr; cases hr), fun j hj => ?_⟩
    have hjn : j < n := by
      rcases Nat.lt_or_ge j n with h | h
      · exact h
      · exact absurd hj (tail_waits1 hs hc hn inv hpre _ i rfl hin hun j h)
    refine ⟨hjn, ?_⟩
    by_cases hji : j = i
    · subst hji; exact hy.qOp hi H
    · have := hdone _ _ H j (ready_mono hj hji)
      omega
  | succ f ih =>
    intro listed a inv hpre hfree hr hy H
    have hun := (mem_ready.1 hr).1
    refine ⟨fun h => (by rw [h] at hr; cases hr), fun j hj => ?_⟩
    have hjn : j < n := by
      rcases Nat.lt_or_ge j n with h | h
      · exact h
      · exact absurd hj (tail_waits1 hs hc hn inv hpre _ i rfl hin hun j h)
    refine ⟨hjn, ?_⟩
    by_cases hji : j = i
    · subst hji; exact hy.qOp hi H
    · have h1 := (H.2 j (ready_mono hj hji)).2
      obtain ⟨hjun, oj, hoj, hall⟩ := mem_ready.1 hj
      have hnot : ∀ e ∈ oj.after, Region.binds md e = true → e.on ≠ i := fun e he hb heq => by
        have h1 := hall e he hb
        rw [heq, getD_both hun] at h1
        cases h1
      have h2 := qOp_put hoj (hfree j oj hoj hji hjun hnot) (fun cs b => hsel i oi cs b hi) (fun cs b => hsel j oj cs b hoj) hy h1
      have hfree' : ∀ k ok, ops[k]? = some ok → k ≠ i → (listed.setIfInBounds j true).getD k true = false →
          (∀ e ∈ ok.after, Region.binds md e = true → e.on ≠ i) → oi.apart ops ok = true := fun k ok hk hki hun hno => by
        refine hfree k ok hk hki ?_ hno
        by_cases hjk : j = k
        · subst hjk; exact hjun
        · rw [getD_set_ne true hjk] at hun; exact hun
      refine qOp_mono (fun a' h3 => ih (listed.setIfInBounds j true) a' (inv.set hj hjn) (fun t ht => getD_set_true (hpre t ht)) hfree' (ready_mono hr (Ne.symm hji)) h3.1 ?_) h2
      rw [Array.setIfInBounds_comm _ _ hji]
      exact h3.2
theorem anyQL_lex1 {m n g : Nat} {Lq : Act → Prop} (hsel : Region.noSelect ops = true) (hs : sinkFrom md ops m n = true) (hc : Region.chainB md ops n = true) (hn : n < ops.size) :
    ∀ (l : List Oper) (k : Nat) (listed : Array Bool) (a : Act), (∀ j, j < l.length → l[j]? = ops[k + j]?) → k + l.length = n → HeadInv md ops n listed → (∀ t, t < m → listed.getD t false = true) →
    Region.lexHead md ops g l.length k listed = true → wpQuiet P ops C Lq l a →
    anyQL P md ops C n (fun listed' a' => Region.seqB md ops g n listed' = true ∧ Lq a') l.length listed a
  | [], k, listed, a, _, hk, _, _, hB, h => by
    have : k = n := by simpa using hk
    subst this
    exact ⟨by simpa [Region.lexHead] using hB, h⟩
  | o :: l, k, listed, a, hl, hk, inv, hpre, hB, h => by
    have h0 : ops[k]? = some o := by simpa using (hl 0 (by simp)).symm
    simp only [List.length_cons, Region.lexHead, Bool.and_eq_true] at hB
    obtain ⟨⟨hr, hf⟩, hB'⟩ := hB
    have hkn : k < n := by simp only [List.length_cons] at hk; omega
    have hr' : k ∈ Region.ready md ops listed := by simpa using hr
    have hst : qOp P ops C k (wpQuiet P ops C Lq l) a := by unfold qOp; simp only [h0]; exact h
    obtain ⟨v, hy, hK⟩ := yieldsIn_of_qOp h0 hst
    exact anyQL_first1 h0 (Region.noSelect_spec hsel) hs hc hn hkn (fun listed' a' hL => seqB_ready hL.1) l.length listed a inv hpre (Region.free_spec h0 hf) hr' hy
      (anyQL_lex1 hsel hs hc hn l (k + 1) _ _ (fun j hj => by have := hl (j + 1) (by simp; omega); simpa [Nat.add_assoc, Nat.add_comm 1 j] using this) (by simp only [List.length_cons] at hk; omega) (inv.set hr' hkn) (fun t ht => getD_set_true (hpre t ht)) hB' hK)
/-- The form: the first operation may be taken first; the others up to n go in the order of the text; then the rest. -/
def lexTail1 (md : Region.Mode) (ops : Array Oper) (n : Nat) : Bool :=
  Region.noSelect ops && decide (1 ≤ n) && decide (n < ops.size) && sinkFrom md ops 1 n && Region.chainB md ops n && Region.free md ops (Array.replicate ops.size false) 0 && (Region.ready md ops (Array.replicate ops.size false)).contains 0 &&
    Region.lexHead md ops (ops.size - n) (n - 1) 1 ((Array.replicate ops.size false).setIfInBounds 0 true)
theorem wide_tail1 {id : Nat} {Q : Exit → Act → World → Prop} {a : Act} {w : World} {o0 : Oper} {l : List Oper} (n : Nat) (C : World → Prop) (x : Operand) (v : Value) (hv : a.eval x = v) (hop : o0.op = .move x) (hg : o0.guard = none) (hm : P.follows .mixedOrders = true)
    (hB : lexTail1 .any (o0 :: l).toArray n = true) (hQ : ∀ c a w v, Q (.panic c) (a.put o0.dst v) w → Q (.panic c) a w) (hC : C w.drew)
    (h : wpQuiet P (o0 :: l).toArray C (fun a' => ∀ w', C w' → wpList P (o0 :: l).toArray Q (l.drop (n - 1)) a' w') (l.take (n - 1)) (a.put o0.dst v)) : (Code.region id (o0 :: l).toArray true).wp P Q a w := by
  subst hv
  simp only [lexTail1, Bool.and_eq_true, decide_eq_true_eq] at hB
  obtain ⟨⟨⟨⟨⟨⟨⟨hsel, hn1⟩, hn⟩, hs⟩, hc⟩, hf0⟩, hr0⟩, hlex⟩ := hB
  have hn' : n < l.length + 1 := by simpa using hn
  have htl : (l.take (n - 1)).length = n - 1 := by simp; omega
  have hsz : (o0 :: l).toArray.size = l.length + 1 := by simp
  have hdl : (l.drop (n - 1)).length = (o0 :: l).toArray.size - n := by simp; omega
  have h0 : (o0 :: l).toArray[0]? = some o0 := by simp
  have hr0' : 0 ∈ Region.ready .any (o0 :: l).toArray (Array.replicate (o0 :: l).toArray.size false) := by simpa using hr0
  have inv0 : HeadInv .any (o0 :: l).toArray n (Array.replicate (o0 :: l).toArray.size false) :=
    ⟨by simp, fun j oj _ hl => (by rw [getD_replicate_false] at hl; cases hl), fun t _ ht => getD_in (by simpa using ht) (getD_replicate_false _ _)⟩
  have inv1 := inv0.set hr0' (by omega)
  have hpre : ∀ t, t < 1 → ((Array.replicate (o0 :: l).toArray.size false).setIfInBounds 0 true).getD t false = true := by
    intro t ht
    have : t = 0 := by omega
    subst this
    simp
  have H := anyQL_lex1 (md := .any) (m := 1) (g := (o0 :: l).toArray.size - n) hsel hs hc hn (l.take (n - 1)) 1 _ (a.put o0.dst (a.eval x)) (fun j hj => by
    have hj' : j < n - 1 := by rw [htl] at hj; exact hj
    simp [hj', Nat.add_comm 1 j]) (by rw [htl]; omega) inv1 hpre (by rw [htl]; exact hlex) h
  refine wp_region_any hm ?_
  have H2 := any_of_qhead (Q' := Q) (g := (o0 :: l).toArray.size - n) (fun listed a' w' hw' hL => by
    have := wpAny_of_seq (md := .any) (Q' := Q) (l.drop (n - 1)) n listed a' w' (fun j => by
      rw [List.getElem?_drop, show n + j = n - 1 + j + 1 by omega]; simp) (by rw [hdl]; exact hL.1) (hL.2 w' hw')
    rwa [hdl] at this) _ _ _ _ hC H
  rw [htl, show n - 1 + ((o0 :: l).toArray.size - n) = l.length by rw [hsz]; omega] at H2
  have hy : Yields P (o0 :: l).toArray o0 (a.eval x) a := by
    refine .inl ⟨by simp [Region.wanted, hg], fun w => ?_⟩
    have := BigFrame.run_move (P := P) (ρ := a.eval) (o := o0) x hop w
    simp [this]
  have H3 := wpAny_take (Q := Q) h0 hsel hf0 hr0 (fun c a w h => hQ c a w _ h) hy H2
  rw [hsz]
  exact H3
end
end Go.Proofs.Ythfbcfddfbipfaa
