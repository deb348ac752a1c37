/- First and Last over a row of times, in tick and in its reference; the laws TickEnds and TickJoins. -/
import Derived.Test.YthmjdlhpfnkhoaaTick
import Derived.Test.YthmjdlhpfnkhoaaMem
import Derived.Test.YthmjdlhpfnkhoaaLift
import Derived.Deep.RegionWith
namespace Go.Proofs.Ythmjdlhpfnkhoaa
open Go.ChangeShapes Go.WideShapes Go.ChangeAt Go.RowKit
open Tick
set_option linter.unusedVariables false
namespace Tick
def stepLo (m t : Int) : Int := if cl t < m then cl t else m
def stepHi (m t : Int) : Int := if m < cl t then cl t else m
def lowest (zs : List Int) : Int := zs.foldl stepLo 1099511627776
def highest (zs : List Int) : Int := zs.foldl stepHi 0
theorem take_snoc {zs : List Int} {k : Nat} {x : Int} (h : zs[k]? = some x) : zs.take (k + 1) = zs.take k ++ [x] := by
  rw [List.take_add_one, h]; rfl
theorem lowest_snoc {zs : List Int} {k : Nat} {x : Int} (h : zs[k]? = some x) : lowest (zs.take (k + 1)) = stepLo (lowest (zs.take k)) x := by
  rw [take_snoc h]; simp [lowest, List.foldl_append]
theorem highest_snoc {zs : List Int} {k : Nat} {x : Int} (h : zs[k]? = some x) : highest (zs.take (k + 1)) = stepHi (highest (zs.take k)) x := by
  rw [take_snoc h]; simp [highest, List.foldl_append]
end Tick

theorem tickPickLo (a b : Int) (w : World) : Calls Try.prog 26 #[.func (.func 24) #[] #[], .int .i64 a, .int .i64 b] w
    fun e w' => e = .returned (.int .i64 (if b < a then b else a)) ∧ w = w' := by
  by_cases h : b < a
  all_goals
    rw [show (if b < a then b else a) = _ from by first | exact if_pos h | exact if_neg h]
    go_enter Try.func26, Try.ntmps26
    go_wp2
    go_ret
    exact ⟨rfl, rfl⟩
theorem tickPickHi (a b : Int) (w : World) : Calls Try.prog 26 #[.func (.func 25) #[] #[], .int .i64 a, .int .i64 b] w
    fun e w' => e = .returned (.int .i64 (if a < b then b else a)) ∧ w = w' := by
  by_cases h : a < b
  all_goals
    rw [show (if a < b then b else a) = _ from by first | exact if_pos h | exact if_neg h]
    go_enter Try.func26, Try.ntmps26
    go_wp2
    go_ret
    exact ⟨rfl, rfl⟩

theorem tickLo (A : Option Addr) (c : Nat) (zs : List Int) (w : World) (hr : Row w A (zs.map (Value.int .i64))) (hn : zs.length ≤ 9223372036854775807) :
    Calls Try.prog 23 #[.func (.func 24) #[] #[], .int .i64 1099511627776, .slice A zs.length c] w
      fun e w' => e = .returned (.int .i64 (lowest zs)) ∧ w = w' := by
  go_enter Try.func23, Try.ntmps23
  go_wp2
  go_loop [7, 13] (fun m i => ∃ k : Nat, k ≤ zs.length ∧ i = .int .i64 k ∧ m = .int .i64 (lowest (zs.take k))) (fun _ i => zs.length - (intOf i).toNat)
  case atStart => exact ⟨0, Nat.zero_le _, rfl, rfl⟩
  case round =>
    obtain ⟨k, hk, rfl, rfl⟩ := hrel
    by_cases hlt : k < zs.length
    · obtain ⟨x, b, off, rfl, hx, hc⟩ := hr.ints hlt
      have hs := Lib.hid (lowest_snoc hx)
      clear hx
      go_wp2_with (first | (go_at_call 22; refine (tickClampInner _ _).mono ?_; rintro e w' ⟨rfl, rfl⟩) | (go_at_call 26; refine (tickPickLo _ _ _).mono ?_; rintro e w' ⟨rfl, rfl⟩))
      all_goals
        go_round
        case rel => exact ⟨k + 1, by omega, by go_num, by rw [hs.out]; rfl⟩
        case measure => simp [intOf]; omega
    · obtain rfl : zs.length = k := by omega
      go_wp2
      go_ret
      exact ⟨ret_int (by first | rfl | rw [List.take_length]), rfl⟩

theorem tickHi (A : Option Addr) (c : Nat) (zs : List Int) (w : World) (hr : Row w A (zs.map (Value.int .i64))) (hn : zs.length ≤ 9223372036854775807) :
    Calls Try.prog 23 #[.func (.func 25) #[] #[], .int .i64 0, .slice A zs.length c] w
      fun e w' => e = .returned (.int .i64 (highest zs)) ∧ w = w' := by
  go_enter Try.func23, Try.ntmps23
  go_wp2
  go_loop [7, 13] (fun m i => ∃ k : Nat, k ≤ zs.length ∧ i = .int .i64 k ∧ m = .int .i64 (highest (zs.take k))) (fun _ i => zs.length - (intOf i).toNat)
  case atStart => exact ⟨0, Nat.zero_le _, rfl, rfl⟩
  case round =>
    obtain ⟨k, hk, rfl, rfl⟩ := hrel
    by_cases hlt : k < zs.length
    · obtain ⟨x, b, off, rfl, hx, hc⟩ := hr.ints hlt
      have hs := Lib.hid (highest_snoc hx)
      clear hx
      go_wp2_with (first | (go_at_call 22; refine (tickClampInner _ _).mono ?_; rintro e w' ⟨rfl, rfl⟩) | (go_at_call 26; refine (tickPickHi _ _ _).mono ?_; rintro e w' ⟨rfl, rfl⟩))
      all_goals
        go_round
        case rel => exact ⟨k + 1, by omega, by go_num, by rw [hs.out]; rfl⟩
        case measure => simp [intOf]; omega
    · obtain rfl : zs.length = k := by omega
      go_wp2
      go_ret
      exact ⟨ret_int (by first | rfl | rw [List.take_length]), rfl⟩

theorem tickFirst (A : Option Addr) (c : Nat) (zs : List Int) (w : World) (hr : Row w A (zs.map (Value.int .i64))) (hn : zs.length ≤ 9223372036854775807) :
    Calls Try.prog 18 #[.slice A zs.length c] w fun e w' => e = .returned (.int .i64 (lowest zs)) ∧ w = w' := by
  go_enter Try.func18, Try.ntmps18
  go_wp2_with (go_at_call 23; refine (tickLo _ _ _ _ hr hn).mono ?_; rintro e w' ⟨rfl, rfl⟩)
  go_ret
  exact ⟨rfl, rfl⟩
theorem tickLast (A : Option Addr) (c : Nat) (zs : List Int) (w : World) (hr : Row w A (zs.map (Value.int .i64))) (hn : zs.length ≤ 9223372036854775807) :
    Calls Try.prog 20 #[.slice A zs.length c] w fun e w' => e = .returned (.int .i64 (highest zs)) ∧ w = w' := by
  go_enter Try.func20, Try.ntmps20
  go_wp2_with (go_at_call 23; refine (tickHi _ _ _ _ hr hn).mono ?_; rintro e w' ⟨rfl, rfl⟩)
  go_ret
  exact ⟨rfl, rfl⟩

theorem refFirst (A : Option Addr) (c : Nat) (zs : List Int) (w : World) (hr : Row w A (zs.map (Value.int .i64))) (hn : zs.length ≤ 9223372036854775807) :
    Calls Try.prog 19 #[.slice A zs.length c] w fun e w' => e = .returned (.int .i64 (lowest zs)) ∧ w = w' := by
  go_enter Try.func19, Try.ntmps19
  go_wp2
  go_loop [3, 8] (fun m i => ∃ k : Nat, k ≤ zs.length ∧ i = .int .i64 k ∧ m = .int .i64 (lowest (zs.take k))) (fun _ i => zs.length - (intOf i).toNat)
  case atStart => exact ⟨0, Nat.zero_le _, rfl, rfl⟩
  case round =>
    obtain ⟨k, hk, rfl, rfl⟩ := hrel
    by_cases hlt : k < zs.length
    · obtain ⟨x, b, off, rfl, hxk, hc⟩ := hr.ints hlt
      have hs := lowest_snoc hxk
      clear hxk
      by_cases hx : cl x < lowest (zs.take k)
      all_goals
        rw [stepLo] at hs
        first | rw [if_pos hx] at hs | rw [if_neg hx] at hs
        have Hs := Lib.hid hs
        clear hs
        go_wp2_with (go_at_call 11; refine (refClamp _ _).mono ?_; rintro e w' ⟨rfl, rfl⟩)
        all_goals
          go_round
          case rel => exact ⟨k + 1, by omega, by go_num, by rw [Hs.out]⟩
          case measure => simp [intOf]; omega
    · obtain rfl : zs.length = k := by omega
      go_wp2
      go_ret
      exact ⟨ret_int (by first | rfl | rw [List.take_length]), rfl⟩

theorem refLast (A : Option Addr) (c : Nat) (zs : List Int) (w : World) (hr : Row w A (zs.map (Value.int .i64))) (hn : zs.length ≤ 9223372036854775807) :
    Calls Try.prog 21 #[.slice A zs.length c] w fun e w' => e = .returned (.int .i64 (highest zs)) ∧ w = w' := by
  go_enter Try.func21, Try.ntmps21
  go_wp2
  go_loop [3, 8] (fun m i => ∃ k : Nat, k ≤ zs.length ∧ i = .int .i64 k ∧ m = .int .i64 (highest (zs.take k))) (fun _ i => zs.length - (intOf i).toNat)
  case atStart => exact ⟨0, Nat.zero_le _, rfl, rfl⟩
  case round =>
    obtain ⟨k, hk, rfl, rfl⟩ := hrel
    by_cases hlt : k < zs.length
    · obtain ⟨x, b, off, rfl, hxk, hc⟩ := hr.ints hlt
      have hs := highest_snoc hxk
      clear hxk
      by_cases hx : highest (zs.take k) < cl x
      all_goals
        rw [stepHi] at hs
        first | rw [if_pos hx] at hs | rw [if_neg hx] at hs
        have Hs := Lib.hid hs
        clear hs
        go_wp2_with (go_at_call 11; refine (refClamp _ _).mono ?_; rintro e w' ⟨rfl, rfl⟩)
        all_goals
          go_round
          case rel => exact ⟨k + 1, by omega, by go_num, by rw [Hs.out]⟩
          case measure => simp [intOf]; omega
    · obtain rfl : zs.length = k := by omega
      go_wp2
      go_ret
      exact ⟨ret_int (by first | rfl | rw [List.take_length]), rfl⟩
theorem walkTickEnds (A : Option Addr) (c : Nat) (zs : List Int) (w : World) (hr : Row w A (zs.map (Value.int .i64))) (hn : zs.length ≤ 9223372036854775807) :
    Calls Try.prog 5 #[.slice A zs.length c] w fun e w' => e = .returned (.bool true) ∧ w = w' := by
  have h7 : (cl 7 == 7) = true := by decide
  go_enter Try.func5, Try.ntmps5
  go_wp2_with (first | (go_at_call 10; refine (tickClamp _ _).mono ?_; rintro e w' ⟨rfl, rfl⟩) | (go_at_call 18; refine (tickFirst _ _ _ _ hr hn).mono ?_; rintro e w' ⟨rfl, rfl⟩) | (go_at_call 20; refine (tickLast _ _ _ _ hr hn).mono ?_; rintro e w' ⟨rfl, rfl⟩) | (go_at_call 19; refine (refFirst _ _ _ _ hr hn).mono ?_; rintro e w' ⟨rfl, rfl⟩) | (go_at_call 21; refine (refLast _ _ _ _ hr hn).mono ?_; rintro e w' ⟨rfl, rfl⟩))
  go_ret
  exact ⟨rfl, rfl⟩

theorem cells_i64 : Try.prog.cellsOf 2 = 1 := by kernel_rfl

theorem lawTickEnds : Lift.Owes 5 [25] := by
  intro H enc W base args ds ps hval hA _ _
  obtain ⟨v0, d0, rfl, rfl, h0⟩ := trodAll_one hA
  obtain ⟨A, c, zs, rfl, hl, hm, hr, _, _⟩ := openInts Try.underlying25 Try.underlying2 cells_i64 (hval 0 _ v0 rfl rfl) h0
  exact (walkTickEnds A c zs W hr (by simp only [maxLen] at hm; omega)).mono fun e w' ⟨he, hw⟩ => ⟨he, hw ▸ Below.refl _ _⟩

theorem foldl_min (zs : List Int) : ∀ m, zs.foldl stepLo m = min m (zs.foldl stepLo 1099511627776) ∨ 1099511627776 < m := by
  induction zs with
  | nil => intro m; by_cases h : 1099511627776 < m
           · exact .inr h
           · left; simp only [List.foldl_nil]; omega
  | cons z zs ih =>
    intro m
    by_cases h : 1099511627776 < m
    · exact .inr h
    · left
      have hz := cl_hi z
      simp only [List.foldl_cons]
      have h1 : stepLo m z = min m (cl z) := by unfold stepLo; split <;> omega
      have h2 : stepLo 1099511627776 z = cl z := by unfold stepLo; split <;> omega
      rw [h1, h2]
      have i1 := ih (min m (cl z))
      have i2 := ih (cl z)
      omega
theorem lowest_append (xs ys : List Int) : lowest (xs ++ ys) = min (lowest xs) (lowest ys) := by
  unfold lowest
  rw [List.foldl_append]
  have h : ∀ (l : List Int) (m : Int), m ≤ 1099511627776 → l.foldl stepLo m ≤ 1099511627776 := by
    intro l
    induction l with
    | nil => intro m h; exact h
    | cons z l ih => intro m h; exact ih _ (by unfold stepLo; have := cl_hi z; split <;> omega)
  have h1 := h xs 1099511627776 (by omega)
  have h2 := foldl_min ys (xs.foldl stepLo 1099511627776)
  omega
theorem foldl_max (zs : List Int) : ∀ m, zs.foldl stepHi m = max m (zs.foldl stepHi 0) ∨ m < 0 := by
  induction zs with
  | nil => intro m; by_cases h : m < 0
           · exact .inr h
           · left; simp only [List.foldl_nil]; omega
  | cons z zs ih =>
    intro m
    by_cases h : m < 0
    · exact .inr h
    · left
      have hz := cl_lo z
      simp only [List.foldl_cons]
      have h1 : stepHi m z = max m (cl z) := by unfold stepHi; split <;> omega
      have h2 : stepHi 0 z = cl z := by unfold stepHi; split <;> omega
      rw [h1, h2]
      have i1 := ih (max m (cl z))
      have i2 := ih (cl z)
      omega
theorem highest_append (xs ys : List Int) : highest (xs ++ ys) = max (highest xs) (highest ys) := by
  unfold highest
  rw [List.foldl_append]
  have h : ∀ (l : List Int) (m : Int), 0 ≤ m → 0 ≤ l.foldl stepHi m := by
    intro l
    induction l with
    | nil => intro m h; exact h
    | cons z l ih => intro m h; exact ih _ (by unfold stepHi; have := cl_lo z; split <;> omega)
  have h1 := h xs 0 (by omega)
  have h2 := foldl_max ys (xs.foldl stepHi 0)
  omega

theorem info_i64 : (Try.prog.info? 2).map (fun i => (i.zero, i.size, i.bytes)) = some (some (.int .i64 0), 1, 8) := by kernel_rfl

theorem own_new {w : World} {B size : Nat} {e : TypeId} (h : B ≤ w.heap.size) : (w.alloc (.cells #[] e)).ownsRow B e size (.slice (some ⟨w.heap.size, 0, none⟩) 0 0) 0 [] :=
  ⟨by simp, .inr ⟨w.heap.size, 0, #[], rfl, h, heap_alloc_new w _, Nat.le_refl _, by simp [maxLen], by simp, by simp⟩⟩
theorem ones {k : IntKind} {zs : List Int} : ∀ u ∈ zs.map (Value.int k), u.oneCell' = true := by
  intro u hu
  obtain ⟨z, _, rfl⟩ := List.mem_map.1 hu
  rfl
theorem walkTickJoins (A : Option Addr) (c : Nat) (zs : List Int) (D : Option Addr) (d : Nat) (ys : List Int) (w : World) (hr : Row w A (zs.map (Value.int .i64))) (hn : zs.length ≤ 1048576)
    (hr' : Row w D (ys.map (Value.int .i64))) (hn' : ys.length ≤ 1048576) :
    Calls Try.prog 9 #[.slice A zs.length c, .slice D ys.length d] w fun e w' => e = .returned (.bool true) ∧ Below w.heap.size w w' := by
  have h7 : (cl 7 == 7) = true := by decide
  obtain ⟨i0, hi, hz0, hz1, hz2⟩ := info_parts info_i64
  go_enter Try.func9, Try.ntmps9
  go_wp2_with (first
    | (at_builtin
       refine wpApp rfl (.tmp 6) (.tmp 7) _ rfl w.heap.size 2 i0 _ 1 8 Try.underlying25 hi hz0 hz1 hz2 rfl (by omega) _ 0 [] rfl (own_new (Nat.le_refl _)) A zs.length c (zs.map (Value.int .i64)) rfl (hr.below ((Below.refl _ _).alloc (Nat.le_refl _) _)) (by simp) ones (by simp only [maxLen]; omega) (by omega) (by simp) ?_
       intro v1 w1 hown1 hb1
       have hbw1 : Below w.heap.size w w1 := ((Below.refl _ _).alloc (Nat.le_refl _) _).trans hb1)
    | (at_builtin
       refine wpApp rfl (.tmp 8) (.tmp 9) _ rfl w.heap.size 2 i0 _ 1 8 Try.underlying25 hi hz0 hz1 hz2 rfl (by omega) _ _ _ rfl hown1 D ys.length d (ys.map (Value.int .i64)) rfl (hr'.below hbw1) (by simp) ones (by simp only [maxLen]; omega) (by omega) hbw1.size ?_
       intro v2 w2 hown2 hb2
       have hbw2 : Below w.heap.size w w2 := hbw1.trans hb2
       obtain ⟨B2, c2, rfl, hc2, hm2, _, hr2, _⟩ := own_form hown2 (by omega)
       rw [List.nil_append, ← List.map_append] at hr2
       have e1 := lowest_append zs ys
       have e2 := highest_append zs ys
       have hus : (zs ++ ys).length ≤ 2097152 := by rw [List.length_append]; omega
       rw [show 0 + zs.length + ys.length = (zs ++ ys).length from by simp] at *
       generalize zs ++ ys = us at *
       have hr3 := hr.below hbw2
       have hr4 := hr'.below hbw2
       have E1 := Lib.hid e1
       have E2 := Lib.hid e2
       clear hown1 hown2 hb1 hb2 hbw1 hr hr' e1 e2)
    | (go_at_call 10; refine (tickClamp _ _).mono ?_; rintro e w' ⟨rfl, rfl⟩)
    | (go_at_call_of 18 (Value.slice B2 us.length c2); refine (tickFirst _ _ _ _ hr2 (by omega)).mono ?_; rintro e w' ⟨rfl, rfl⟩)
    | (go_at_call_of 18 (Value.slice A zs.length c); refine (tickFirst _ _ _ _ hr3 (by omega)).mono ?_; rintro e w' ⟨rfl, rfl⟩)
    | (go_at_call_of 18 (Value.slice D ys.length d); refine (tickFirst _ _ _ _ hr4 (by omega)).mono ?_; rintro e w' ⟨rfl, rfl⟩)
    | (go_at_call_of 20 (Value.slice B2 us.length c2); refine (tickLast _ _ _ _ hr2 (by omega)).mono ?_; rintro e w' ⟨rfl, rfl⟩)
    | (go_at_call_of 20 (Value.slice A zs.length c); refine (tickLast _ _ _ _ hr3 (by omega)).mono ?_; rintro e w' ⟨rfl, rfl⟩)
    | (go_at_call_of 20 (Value.slice D ys.length d); refine (tickLast _ _ _ _ hr4 (by omega)).mono ?_; rintro e w' ⟨rfl, rfl⟩))
  all_goals first
    | (exfalso; have q1 := E1.out; have q2 := E2.out; omega)
    | (go_ret; exact ⟨rfl, hbw2⟩)

theorem lawTickJoinsUpto : Lift.OwesUpto 9 [25, 25] := by
  intro H enc W base args ds ps hval hA _ hk
  obtain ⟨v0, v1, d0, d1, p0, p1, rfl, rfl, rfl, h0, h1⟩ := trodAll_two hA
  obtain ⟨A, c, zs, rfl, hl, hm, hr, _, hd⟩ := openInts Try.underlying25 Try.underlying2 cells_i64 (hval 0 _ v0 rfl rfl) h0
  obtain ⟨D, d, ys, rfl, hl', hm', hr', _, hd'⟩ := openInts Try.underlying25 Try.underlying2 cells_i64 (hval 1 _ v1 rfl rfl) h1
  have n1 : zs.length ≤ Rows.uptoBulk d0 := by
    rcases hd with ⟨rfl, rfl⟩ | ⟨sp, rfl⟩
    · simp
    · have := Lift.bulk_slice (lits (H := H) .i64 zs) sp; simp only [lits, List.length_map] at this ⊢; omega
  have n2 : ys.length ≤ Rows.uptoBulk d1 := by
    rcases hd' with ⟨rfl, rfl⟩ | ⟨sp, rfl⟩
    · simp
    · have := Lift.bulk_slice (lits (H := H) .i64 ys) sp; simp only [lits, List.length_map] at this ⊢; omega
  simp only [Rows.uptoBulkAll] at hk
  exact walkTickJoins A c zs D d ys W hr (by omega) hr' (by omega)
end Go.Proofs.Ythmjdlhpfnkhoaa
