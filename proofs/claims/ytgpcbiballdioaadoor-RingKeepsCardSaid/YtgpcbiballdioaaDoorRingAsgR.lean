/- Assign of the reference. -/
import Derived.Test.YtgpcbiballdioaaDoorRingOwnR
namespace Go.Proofs.YtgpcbiballdioaaDoor
open Go.RowKit
set_option linter.unusedVariables false
set_option maxRecDepth 8000
namespace Rg
theorem al_below (w : World) (o : Obj) : Below w.heap.size w (w.alloc o) := below_al (Below.refl _ _)
theorem al_apart {w w9 : World} {B : Nat} {o : Obj} (hb : Below B (w.alloc o) w9) (hB : B ≤ w.heap.size) : Below B w w9 :=
  ((Below.refl B w).alloc hB o).trans hb
theorem own_up {w w' : World} {B size n : Nat} {e : TypeId} {v : Value} {xs : List Value} (h : w.ownsRow B e size v n xs) (hb : Below w.heap.size w w') : w'.ownsRow B e size v n xs := by
  obtain ⟨hl, ⟨rfl, rfl⟩ | ⟨g, cap, cur, rfl, hg, hh, hn, hm, hc, hx⟩⟩ := h
  · exact ⟨hl, .inl ⟨rfl, rfl⟩⟩
  · exact ⟨hl, .inr ⟨g, cap, cur, rfl, hg, (hb.block g (Array.getElem?_eq_some_iff.1 hh).1).trans hh, hn, hm, hc, hx⟩⟩
theorem one_int (w : World) (x : Int) (e : TypeId) : Row (w.alloc (.cells #[.int .i64 x] e)) (some ⟨w.heap.size, 0, none⟩) (iv [x]) := by
  refine .inr ⟨w.heap.size, 0, rfl, fun j u hu => ?_⟩
  rw [Nat.zero_add]
  refine (Lies.new w #[.int .i64 x] e).cell ?_
  rw [← hu]
  simp [iv]
theorem iv_ones (l : List Int) : ∀ u ∈ iv l, u.oneCell' = true := by
  intro u hu
  obtain ⟨z, _, rfl⟩ := List.mem_map.1 hu
  rfl
theorem iv_len (l : List Int) : (iv l).length = l.length := List.length_map ..
theorem iv_app (a b : List Int) : iv (a ++ b) = iv a ++ iv b := List.map_append ..
theorem intInfo : (Tryd.prog.info? 3).map (fun i => (i.zero, i.size, i.bytes)) = some (some (.int .i64 0), 1, 8) := by kernel_rfl
noncomputable def owners (l : List Int) (n : Nat) : List Int := (List.range n).map (fun g => owner l g)
theorem owners_next (l : List Int) (n : Nat) : owners l (n + 1) = owners l n ++ [owner l n] := by
  unfold owners
  rw [List.range_succ, List.map_append]; rfl
theorem owners_len (l : List Int) (n : Nat) : (owners l n).length = n := by simp [owners]
theorem wrap64_in {n : Int} (h1 : -9223372036854775808 ≤ n) (h2 : n ≤ 9223372036854775807) : IntKind.i64.wrap n = n := by
  simp [IntKind.wrap, IntKind.bits, IntKind.signed]; omega
/-- Who owns which group, or why nobody. -/
noncomputable def assign (l : List Int) (groups : Int) : List Int × Int :=
  if right l = false then ([], 110) else if groups < 1 ∨ 32 < groups then ([], 1) else (owners l groups.toNat, 0)
/-- Hands back owners and an error. -/
def GivesA (r : List Int × Int) (w : World) (e : Ending) (w' : World) : Prop :=
  ∃ A c, e = .returned (.tuple #[.slice A r.1.length c, .int .i64 r.2]) ∧ r.1.length ≤ c ∧ c ≤ maxLen ∧ Row w' A (iv r.1) ∧ Below w.heap.size w w'
theorem givesA_none (n : Int) (w : World) : GivesA ([], n) w (.returned (.tuple #[.slice none 0 0, .int .i64 n])) w :=
  ⟨none, 0, rfl, Nat.le_refl _, by simp [maxLen], .inl rfl, Below.refl _ _⟩
set_option maxRecDepth 100000 in
set_option maxHeartbeats 2000000 in
theorem rfAssign_wk (l : List Int) (groups : Int) (A : Option Addr) (c : Nat) (w : World) (h : Row w A (iv l)) (hl : l.length ≤ 9223372036854775807) (hr : right l = false) :
    Calls Tryd.prog 7 #[.slice A l.length c, .int .i64 groups] w (GivesA ([], 110) w) := by
  have HR := Lib.hid (rfRightG l A c w h hl)
  have HE := Lib.hid hr
  clear h hr
  go_enter Tryd.func7, Tryd.ntmps7
  go_wp2_with (go_at_call 10; refine HR.out.mono ?_; rw [HE.out]; rintro e w' ⟨rfl, rfl⟩)
  exact bodyPost_ret (v := .tuple #[.slice none 0 0, .int .i64 110]) (by simp [results, Tryd.results7, go_sem]) rfl (givesA_none _ _)
set_option maxRecDepth 100000 in
set_option maxHeartbeats 2000000 in
theorem rfAssign_arg (l : List Int) (groups : Int) (A : Option Addr) (c : Nat) (w : World) (h : Row w A (iv l)) (hl : l.length ≤ 9223372036854775807) (hr : right l = true) (hg : groups < 1 ∨ 32 < groups) :
    Calls Tryd.prog 7 #[.slice A l.length c, .int .i64 groups] w (GivesA ([], 1) w) := by
  have HR := Lib.hid (rfRightG l A c w h hl)
  have HE := Lib.hid hr
  clear h hr
  have hg2 : groups < 1 ∨ (¬ groups < 1 ∧ 32 < groups) := by omega
  clear hg
  rcases hg2 with g1 | ⟨g1, g2⟩
  all_goals (
    go_enter Tryd.func7, Tryd.ntmps7
    go_wp2_with (go_at_call 10; refine HR.out.mono ?_; rw [HE.out]; rintro e w' ⟨rfl, rfl⟩)
    exact bodyPost_ret (v := .tuple #[.slice none 0 0, .int .i64 1]) (by simp [results, Tryd.results7, go_sem]) rfl (givesA_none _ _))
set_option maxRecDepth 100000 in
set_option maxHeartbeats 2000000 in
theorem rfAssign_ok (l : List Int) (n : Nat) (A : Option Addr) (c : Nat) (w : World) (h : Row w A (iv l)) (hl : l.length ≤ 9223372036854775807) (hr : right l = true) (h1 : 1 ≤ n) (h2 : n ≤ 32) :
    Calls Tryd.prog 7 #[.slice A l.length c, .int .i64 n] w (GivesA (owners l n, 0) w) := by
  have HR := Lib.hid (rfRightG l A c w h hl)
  have HE := Lib.hid hr
  have hm : ∀ x ∈ l, 0 < x ∧ x ≤ 99 := by
    unfold right at hr
    rw [Bool.and_eq_true] at hr
    exact rise_mem hr.2
  have H := Lib.hid h
  have HO0 := Lib.hid (fun (w' : World) (hb : Below w.heap.size w w') (g : Nat) (hg : g < 100) => rfOwner l A c g w' (h.below hb) hl hm hg)
  have N0 := Lib.hid (show (w.alloc (.cells #[] 3)).ownsRow w.heap.size 3 1 (.slice (some ⟨w.heap.size, 0, none⟩) 0 0) 0 [] from own_new (Nat.le_refl _))
  obtain ⟨us, hus⟩ : ∃ us, us = owners l n := ⟨_, rfl⟩
  have HU := Lib.hid hus
  rw [← hus]
  clear h hr hm hus
  go_enter Tryd.func7, Tryd.ntmps7
  go_wp2_with (go_at_call 10; refine HR.out.mono ?_; rw [HE.out]; rintro e w' ⟨rfl, rfl⟩)
  go_loopw [6, 7] (fun o i wr => ∃ k : Nat, i = .int .i64 k ∧ k ≤ n ∧ wr.ownsRow w'.heap.size 3 1 o (owners l k).length (iv (owners l k)) ∧ Below w'.heap.size w' wr) (fun _ i _ => n - (intOf i).toNat)
  case atStart => exact ⟨0, rfl, Nat.zero_le _, N0.out, al_below _ _⟩
  case round =>
    obtain ⟨k, rfl, hk, hO, hB⟩ := hrel
    obtain ⟨ys, hys⟩ : ∃ ys, ys = owners l k := ⟨_, rfl⟩
    rw [← hys] at hO
    have HY := Lib.hid hys
    have hyl : ys.length = k := by rw [hys, owners_len]
    obtain ⟨A1, d1, rfl, q1, q2, q3, q4, q5⟩ := own_form hO (by omega)
    have HO := Lib.hid hO; have HB := Lib.hid hB
    have HYL := Lib.hid hyl
    have HL := Lib.hid (And.intro q1 (And.intro q2 (And.intro q4 q5)))
    clear hO hB hys hyl q1 q2 q3 q4 q5
    by_cases hlt : k < n
    · obtain ⟨x, hx⟩ : ∃ x, x = owner l k := ⟨_, rfl⟩
      have HN := Lib.hid (show owners l (k + 1) = ys ++ [x] by rw [owners_next, HY.out, hx])
      have HX := Lib.hid hx
      have ew : IntKind.i64.wrap ((k : Int) + 1) = (k : Int) + 1 := wrap64_in (by omega) (by omega)
      obtain ⟨i0, hi0, hz0, hz1, hz2⟩ := info_parts intInfo
      have HI0 := Lib.hid hi0; have HZ0 := Lib.hid hz0; have HZ1 := Lib.hid hz1; have HZ2 := Lib.hid hz2
      clear hx hi0 hz0 hz1 hz2
      go_wp2_with (first | (go_at_call 19; refine (HO0.out _ HB.out k (by omega)).mono ?_; rw [← HX.out]; rintro e w5 ⟨rfl, rfl⟩) | (at_builtin; refine hold_mk ?_))
      refine hold_out ?_
      have hyk := HYL.out
      refine wpApp rfl _ _ 22 rfl w'.heap.size 3 i0 _ 1 8 Tryd.underlying22 HI0.out HZ0.out HZ1.out HZ2.out rfl (by omega) _ ys.length (iv ys) rfl (own_up HO.out (al_below _ _)) _ 1 1 (iv [x]) rfl (one_int _ _ _) (by simp) (iv_ones _)
        (by unfold maxLen; omega) (by omega) (by have := HB.out.size; simp only [World.size_alloc]; omega) ?_
      intro v9 w9 hown9 hb9
      rw [← iv_app, show ys.length + 1 = (ys ++ [x]).length by simp] at hown9
      obtain ⟨zs, hzs⟩ : ∃ zs, zs = ys ++ [x] := ⟨_, rfl⟩
      rw [← hzs] at hown9
      have HB9 := Lib.hid (HB.out.trans (al_apart hb9 HB.out.size))
      have HO9 := Lib.hid hown9
      have HZS := Lib.hid hzs
      clear hown9 hb9 hzs hyk
      go_wp2_with fail
      go_roundw
      case rel =>
        refine ⟨k + 1, by go_num, by omega, ?_, HB9.out⟩
        rw [HN.out, ← HZS.out]; exact HO9.out
      case measure => simp [intOf]; omega
    · have hkn : k = n := by omega
      have HE := Lib.hid (show ys = us by rw [HY.out, HU.out, hkn])
      have hge : ¬ (k : Int) < n := by omega
      go_wp2_with fail
      obtain ⟨l1, l2, l3, l4⟩ := HL.out
      rw [← HE.out]
      exact bodyPost_ret (v := .tuple #[.slice A1 ys.length d1, .int .i64 0]) (by simp [results, Tryd.results7, go_sem]) rfl ⟨A1, d1, rfl, l1, l2, l3, HB.out⟩
theorem rfAssign (l : List Int) (groups : Int) (A : Option Addr) (c : Nat) (w : World) (h : Row w A (iv l)) (hl : l.length ≤ 9223372036854775807) :
    Calls Tryd.prog 7 #[.slice A l.length c, .int .i64 groups] w (GivesA (assign l groups) w) := by
  unfold assign
  by_cases hr : right l = false
  · rw [if_pos hr]; exact rfAssign_wk l groups A c w h hl hr
  · rw [if_neg hr]
    have hr' : right l = true := by simpa using hr
    by_cases hg : groups < 1 ∨ 32 < groups
    · rw [if_pos hg]; exact rfAssign_arg l groups A c w h hl hr' hg
    · rw [if_neg hg]
      obtain ⟨n, rfl⟩ : ∃ n : Nat, groups = n := ⟨groups.toNat, by omega⟩
      exact rfAssign_ok l n A c w h hl hr' (by omega) (by omega)
end Rg
end Go.Proofs.YtgpcbiballdioaaDoor
