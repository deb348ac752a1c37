/- Add, Merge, Due of the reference. -/
import Derived.Test.YtklpfifellghlaaPaneWith
import Derived.Test.YtklpfifellghlaaPaneVals
import Derived.Test.YtklpfifellghlaaFoldAllR
import Derived.Test.YtklpfifellghlaaPaneAdd
import Derived.Deep.Cut
import Derived.Deep.CutBlock
namespace Go.Proofs.Ytklpfifellghlaa
open Go.RowKit
open Pan
set_option linter.unusedVariables false
theorem row_oneV (w : World) (v : Int) (T : TypeId) : Row (w.alloc (.cells #[.int .i64 v] T)) (some ⟨w.heap.size, 0, none⟩) ([v].map (Value.int .i64)) :=
  .inr ⟨_, 0, rfl, fun j u hu => by
    have h := Lies.new w #[.int .i64 v] T
    match j, hu with
    | 0, hu => exact h.cell hu
    | j + 1, hu => simp at hu⟩
theorem row_oneA (w : World) (v : Int) (o : Obj) (T : TypeId) : Row ((w.alloc o).alloc (.cells #[.int .i64 v] T)) (some ⟨w.heap.size + 1, 0, none⟩) ([v].map (Value.int .i64)) := by
  have h := row_oneV (w.alloc o) v T
  rwa [World.size_alloc] at h
theorem all_oneV (k v : Int) : Acm.all k [v] = Acm.one k v := by
  show Acm.join k Acm.zero (Acm.one k v) = Acm.one k v
  by_cases h : 1 ≤ k ∧ k ≤ 5
  · exact Acm.join_l h rfl _
  · rw [Acm.join_bad h]; unfold Acm.one; rw [if_neg (by omega), if_neg (by omega), if_neg (by omega)]
namespace Pan
/-- What the reference's Add answers is what the other's does. -/
theorem aOut_w {k : Int} {xs : List Pn} {p : Pl} {v : Int} (h : (right xs && Acm.isK k && may ⟨p, Acm.one k v⟩) = true) : aOut k xs p v = wOut k ⟨p, Acm.one k v⟩ xs := by
  rw [Bool.and_eq_true, Bool.and_eq_true] at h
  unfold aOut mOut wOut
  rw [right_one, h.1.1, h.1.2, h.2]
  simp only [bad, mrg, List.foldl_cons, List.foldl_nil, Bool.or_false, Bool.and_self, if_true]
  congr
theorem aOut_arg {k : Int} {xs : List Pn} {p : Pl} {v : Int} (h : (right xs && Acm.isK k && may ⟨p, Acm.one k v⟩) = false) : aOut k xs p v = ([], 1) := by
  unfold aOut mOut
  rw [right_one]
  have : (right xs && may ⟨p, Acm.one k v⟩ && Acm.isK k) = false := by
    cases h1 : right xs <;> cases h2 : Acm.isK k <;> cases h3 : may ⟨p, Acm.one k v⟩ <;> simp_all
  rw [this]; rfl
end Pan
theorem Lies.set6 {b : Nat} {T : TypeId} {w : World} {u0 u1 u2 u3 u4 u5 : Value} (h : Lies b #[u0, u1, u2, u3, u4, u5] T w) (v0 v1 v2 v3 v4 v5 : Value) :
    Lies b #[v0, v1, v2, v3, v4, v5] T ((((((w.setCell ⟨b, 0, none⟩ v0).setCell ⟨b, 1, none⟩ v1).setCell ⟨b, 2, none⟩ v2).setCell ⟨b, 3, none⟩ v3).setCell ⟨b, 4, none⟩ v4).setCell ⟨b, 5, none⟩ v5) := by
  have h2 := (((((h.set 0 v0).set 1 v1).set 2 v2).set 3 v3).set 4 v4).set 5 v5
  simpa using h2
theorem below_set6 {B b : Nat} {u w : World} (h : Below B u w) (hb : B ≤ b) (v0 v1 v2 v3 v4 v5 : Value) :
    Below B u ((((((w.setCell ⟨b, 0, none⟩ v0).setCell ⟨b, 1, none⟩ v1).setCell ⟨b, 2, none⟩ v2).setCell ⟨b, 3, none⟩ v3).setCell ⟨b, 4, none⟩ v4).setCell ⟨b, 5, none⟩ v5) :=
  (((((h.setCell (p := ⟨b, 0, none⟩) hb _).setCell (p := ⟨b, 1, none⟩) hb _).setCell (p := ⟨b, 2, none⟩) hb _).setCell (p := ⟨b, 3, none⟩) hb _).setCell (p := ⟨b, 4, none⟩) hb _).setCell (p := ⟨b, 5, none⟩) hb _
structure AllOf (k v : Int) (z : Acm.Ac) (w : World) : Prop where
  run : ∀ w' A, Row w' A ([v].map (Value.int .i64)) → Calls Try.prog 26 #[.int .i64 k, .slice A 1 1] w' (GivesAc z w')
theorem Row.drewV {w : World} {A : Option Addr} {cs : List Value} (h : Row w A cs) : Row w.drew A cs := h
theorem keepS6 {w a : World} {B : Nat} {x y : Value} {b : Nat} {v0 v1 v2 v3 v4 v5 : Value} (hb : b ≠ B) (hw : w.heap.size ≤ b) (h : a.cell? ⟨B, 0, none⟩ = some x ∧ a.cell? ⟨B, 1, none⟩ = some y ∧ Below w.heap.size w a) :
    ((((((a.setCell ⟨b, 0, none⟩ v0).setCell ⟨b, 1, none⟩ v1).setCell ⟨b, 2, none⟩ v2).setCell ⟨b, 3, none⟩ v3).setCell ⟨b, 4, none⟩ v4).setCell ⟨b, 5, none⟩ v5).cell? ⟨B, 0, none⟩ = some x ∧
      ((((((a.setCell ⟨b, 0, none⟩ v0).setCell ⟨b, 1, none⟩ v1).setCell ⟨b, 2, none⟩ v2).setCell ⟨b, 3, none⟩ v3).setCell ⟨b, 4, none⟩ v4).setCell ⟨b, 5, none⟩ v5).cell? ⟨B, 1, none⟩ = some y ∧
      Below w.heap.size w ((((((a.setCell ⟨b, 0, none⟩ v0).setCell ⟨b, 1, none⟩ v1).setCell ⟨b, 2, none⟩ v2).setCell ⟨b, 3, none⟩ v3).setCell ⟨b, 4, none⟩ v4).setCell ⟨b, 5, none⟩ v5) := by
  refine ⟨?_, ?_, below_set6 h.2.2 hw _ _ _ _ _ _⟩
  · rw [World.cell?_setCell_far _ _ _ _ hb, World.cell?_setCell_far _ _ _ _ hb, World.cell?_setCell_far _ _ _ _ hb, World.cell?_setCell_far _ _ _ _ hb, World.cell?_setCell_far _ _ _ _ hb, World.cell?_setCell_far _ _ _ _ hb]; exact h.1
  · rw [World.cell?_setCell_far _ _ _ _ hb, World.cell?_setCell_far _ _ _ _ hb, World.cell?_setCell_far _ _ _ _ hb, World.cell?_setCell_far _ _ _ _ hb, World.cell?_setCell_far _ _ _ _ hb, World.cell?_setCell_far _ _ _ _ hb]; exact h.2.1
theorem keepD {w a : World} {p q : Addr} {x y : Value} {o : Obj} (h : a.drew.cell? p = some x ∧ a.drew.cell? q = some y ∧ Below w.heap.size w a.drew) :
    (a.alloc o).drew.cell? p = some x ∧ (a.alloc o).drew.cell? q = some y ∧ Below w.heap.size w (a.alloc o).drew :=
  keepA (a := a.drew) (b := (a.alloc o).drew) (below_al (b := a.drew) (o := o) (Below.refl _ _)) h
theorem keepL (w0 : World) {a b : World} (hb : Below a.heap.size a b) : ∀ k C, Lies k C 52 a → Lies k C 52 b := fun k C h => h.below hb
set_option maxRecDepth 100000 in
set_option maxHeartbeats 1000000 in
theorem rfAdd (k : Int) (xs : List Pn) (A : Option Addr) (c : Nat) (lo hi v : Int) (key : List UInt8) (w : World) (hA : Row w A (pc xs)) (hl : xs.length ≤ 9223372036854775807) (hv : -9223372036854775808 ≤ v ∧ v ≤ 9223372036854775807) :
    Calls Try.prog 12 #[.slice A xs.length c, .int .i64 k, .string (kS key), .agg #[.int .i64 lo, .int .i64 hi], .int .i64 v] w (GivesPE (aOut k xs ⟨lo, hi, key⟩ v) w) := by
  have HALL : AllOf k v (Acm.one k v) w := ⟨fun w' A hr => all_oneV k v ▸ rfAll k A 1 [v] w' hr (by simp) (by simpa using hv)⟩
  have HR := Lib.hid (fun w' (hb : Below w.heap.size w w') => rfRightL xs A c w' (hA.below hb) hl)
  have HW := Lib.hid (fun (hr : right xs = true) x w' (hb : Below w.heap.size w w') => rfWith k x xs A c w' (hA.below hb) ((right_iff xs).1 hr).1 ((right_iff xs).1 hr).2.2)
  have HARG := Lib.hid (fun h => aOut_arg (k := k) (xs := xs) (p := ⟨lo, hi, key⟩) (v := v) h)
  have HOK := Lib.hid (fun h => aOut_w (k := k) (xs := xs) (p := ⟨lo, hi, key⟩) (v := v) h)
  have HK := Lib.hid (rfFold k)
  have HMY := Lib.hid (rfMayB ⟨⟨lo, hi, key⟩, Acm.one k v⟩)
  obtain ⟨b1, h1⟩ : ∃ b, b = right xs := ⟨_, rfl⟩
  obtain ⟨b2, h2⟩ : ∃ b, b = Acm.isK k := ⟨_, rfl⟩
  obtain ⟨b3, h3⟩ : ∃ b, b = may ⟨⟨lo, hi, key⟩, Acm.one k v⟩ := ⟨_, rfl⟩
  rw [← h1] at HR HARG HOK HW
  rw [← h2] at HK HARG HOK
  rw [← h3] at HMY HARG HOK
  obtain ⟨z, hz⟩ : ∃ z, z = Acm.one k v := ⟨_, rfl⟩
  rw [← hz] at HALL HOK HMY
  clear hz hA hv h1 h2 h3
  go_enter Try.func12, Try.ntmps12
  go_upto_region 1 with fail
  go_cut [12] from 13 (fun s wx => ∃ b, s = .pointer (some ⟨b, 0, none⟩) ∧ Lies b (paC ⟨⟨lo, hi, key⟩, z⟩) 52 wx ∧ Below w.heap.size w wx)
  case first =>
    have S0 : (w.alloc (.cells #[.int .i64 lo, .int .i64 hi] 24)).drew.cell? ⟨w.heap.size, 0, none⟩ = some (.int .i64 lo) ∧ (w.alloc (.cells #[.int .i64 lo, .int .i64 hi] 24)).drew.cell? ⟨w.heap.size, 1, none⟩ = some (.int .i64 hi) ∧ Below w.heap.size w (w.alloc (.cells #[.int .i64 lo, .int .i64 hi] 24)).drew :=
      ⟨(Lies.new w _ _).cell (j := 0) rfl, (Lies.new w _ _).cell (j := 1) rfl, below_drewOf (below_al (Below.refl _ _))⟩
    have hw1 : (w.alloc (.cells #[.int .i64 lo, .int .i64 hi] 24)).heap.size = w.heap.size + 1 := World.size_alloc _ _
    have HW1 := Lib.hid hw1
    clear hw1
    generalize w.alloc (.cells #[.int .i64 lo, .int .i64 hi] 24) = w1 at S0 HW1 ⊢
    go_region_held3 (fun w' => w'.cell? ⟨w.heap.size, 0, none⟩ = some (.int .i64 lo) ∧ w'.cell? ⟨w.heap.size, 1, none⟩ = some (.int .i64 hi) ∧ Below w.heap.size w w')
      (first | with_reducible assumption | ((with_reducible refine keepS6 ?_ ?_ ?_) <;> first | with_reducible assumption | (have := HW1.out; omega)) | ((with_reducible refine keepA hb5 ?_); with_reducible assumption) | ((with_reducible refine keepD ?_); with_reducible assumption) | ((with_reducible refine keepA (below_al (Below.refl _ _)) ?_); with_reducible assumption) | ((with_reducible refine keepA (below_al (Below.refl _ _)) ?_); with_reducible exact HS5.out))
      ((go_at_call 26
        refine (HALL.run _ _ (by first | with_reducible exact row_oneV _ _ _ | with_reducible exact (row_oneV _ _ _).drewV | with_reducible exact row_oneA _ _ _ _ | with_reducible exact (row_oneA _ _ _ _).drewV | with_reducible exact (row_oneV _ _ _).below (below_al (Below.refl _ _)) | with_reducible exact ((row_oneV _ _ _).below (below_al (Below.refl _ _))).drewV)).mono ?_
        rintro e w5 ⟨rfl, hb5⟩
        have HK5 := Lib.hid (keepL w hb5)
        have HS5 := Lib.hid (keepA hb5 (by with_reducible assumption))
        (try have hlz := HK5.out _ _ (by first | with_reducible exact Lies.new _ _ _ | with_reducible exact (Lies.new _ _ _).al | with_reducible exact (Lies.new _ _ _).drew | with_reducible exact (Lies.new _ _ _).al.drew))
        (try simp only [World.size_alloc] at hlz)
        (try have HLZ := Lib.hid hlz)
        (try clear hlz)
        (try have z0 := HLZ.out.cell (j := 0) rfl)
        (try have z1 := HLZ.out.cell (j := 1) rfl)
        (try have z2 := HLZ.out.cell (j := 2) rfl)
        (try have z3 := HLZ.out.cell (j := 3) rfl)
        (try have z4 := HLZ.out.cell (j := 4) rfl)
        (try have z5 := HLZ.out.cell (j := 5) rfl)
        (try have f0 := HLZ.out.free 0)
        (try have f1 := HLZ.out.free 1)
        (try have f2 := HLZ.out.free 2)
        (try have f3 := HLZ.out.free 3)
        (try have f4 := HLZ.out.free 4)
        (try have f5 := HLZ.out.free 5)
        dsimp only))
    · go_wp2_with fail
      go_meet
      case rel => exact ⟨_, rfl, Lies.new _ _ _, below_al HS5.out.2.2⟩
    · go_wp2_with fail
      go_meet
      case rel => exact ⟨_, rfl, HLZ.out.set6 _ _ _ _ _ _, below_set6 HS5.out.2.2 (by have := HW1.out; omega) _ _ _ _ _ _⟩
    · go_wp2_with fail
      go_meet
      case rel => exact ⟨_, rfl, HLZ.out.set6 _ _ _ _ _ _, below_set6 HS5.out.2.2 (by have := HW1.out; omega) _ _ _ _ _ _⟩
  case rest =>
    obtain ⟨b, rfl, hlies, hb⟩ := hcut
    have HB := Lib.hid hb
    have HL := Lib.hid hlies
    clear hb hlies
    cases b1
    · go_wp2_with fail
      refine (HR.out _ HB.out).mono ?_
      rintro e w1 ⟨rfl, hb1⟩
      have HB1 := Lib.hid (below_next HB.out hb1)
      clear hb1
      go_wp2_with fail
      go_ret2
      rw [HARG.out rfl]
      exact ⟨none, 0, rfl, Nat.le_refl _, by simp [maxLen], Row.nil, HB1.out⟩
    · cases b2
      · go_wp2_with fail
        refine (HR.out _ HB.out).mono ?_
        rintro e w1 ⟨rfl, hb1⟩
        have HB1 := Lib.hid (below_next HB.out hb1)
        clear hb1
        go_wp2_with fail
        refine (HK.out _).mono ?_
        rintro e w2 ⟨rfl, rfl⟩
        go_wp2_with fail
        go_ret2
        rw [HARG.out rfl]
        exact ⟨none, 0, rfl, Nat.le_refl _, by simp [maxLen], Row.nil, HB1.out⟩
      · go_wp2_with fail
        refine (HR.out _ HB.out).mono ?_
        rintro e w1 ⟨rfl, hb1⟩
        have HB1 := Lib.hid (below_next HB.out hb1)
        have HL1 := Lib.hid (HL.out.below hb1)
        clear hb1
        go_wp2_with fail
        refine (HK.out _).mono ?_
        rintro e w2 ⟨rfl, rfl⟩
        have z0 := HL1.out.cell (j := 0) rfl
        have z1 := HL1.out.cell (j := 1) rfl
        have z2 := HL1.out.cell (j := 2) rfl
        have z3 := HL1.out.cell (j := 3) rfl
        have z4 := HL1.out.cell (j := 4) rfl
        have z5 := HL1.out.cell (j := 5) rfl
        go_wp2_with fail
        refine (HMY.out _).mono ?_
        rintro e w3 ⟨rfl, hb3⟩
        have HB3 := Lib.hid (below_next HB1.out hb3)
        have HL3 := Lib.hid (HL1.out.below hb3)
        clear hb3 z0 z1 z2 z3 z4 z5
        cases b3
        · go_wp2_with fail
          go_ret2
          rw [HARG.out rfl]
          exact ⟨none, 0, rfl, Nat.le_refl _, by simp [maxLen], Row.nil, HB3.out⟩
        · have z0 := HL3.out.cell (j := 0) rfl
          have z1 := HL3.out.cell (j := 1) rfl
          have z2 := HL3.out.cell (j := 2) rfl
          have z3 := HL3.out.cell (j := 3) rfl
          have z4 := HL3.out.cell (j := 4) rfl
          have z5 := HL3.out.cell (j := 5) rfl
          go_wp2_with fail
          refine (HW.out (by first | rfl | trivial) ⟨⟨lo, hi, key⟩, z⟩ _ HB3.out).mono ?_
          rintro e w4 ⟨A1, c1, rfl, q1, q2, q3, hb4⟩
          have HB4 := Lib.hid (below_next HB3.out hb4)
          have Q3 := Lib.hid q3
          clear hb4 q3 z0 z1 z2 z3 z4 z5
          go_wp2_with fail
          go_ret2
          rw [HOK.out (by first | rfl | trivial)]
          exact ⟨A1, c1, rfl, q1, q2, Q3.out, HB4.out⟩
end Go.Proofs.Ytklpfifellghlaa
