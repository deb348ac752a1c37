/- Assign of the code. -/
import Derived.Test.YtgpcbiballdioaaDoorRingOwnM
import Derived.Test.YtgpcbiballdioaaDoorRingCk
import Derived.Laws.OwnMore
namespace Go.Proofs.YtgpcbiballdioaaDoor
open Go.RowKit Go.Shelf
set_option linter.unusedVariables false
set_option maxRecDepth 8000
namespace Rg
set_option maxRecDepth 100000 in
theorem ckPoint (g : Nat) (hg : g < 100) (w : World) : Calls Tryd.prog 18 #[.int .i64 g] w fun e w' => e = .returned (.int .u32 (gPt g)) ∧ w' = w := by
  have HI := Lib.hid (fun w => itItoa hg w)
  obtain ⟨dg, hdg⟩ : ∃ d, d = dec g := ⟨_, rfl⟩
  obtain ⟨tg, htg⟩ : ∃ d, d = gT g := ⟨_, rfl⟩
  obtain ⟨t, ht⟩ : ∃ d, d = gPt g := ⟨_, rfl⟩
  have hts : tg.size ≤ 3 := by rw [htg]; exact gT_size hg
  have HH := Lib.hid (fun w => ckHash tg w (by omega))
  have HDG := Lib.hid hdg
  have c1 : ∀ w : World, (Op.stringOp .add ⟨#[103]⟩ dg).run Tryd.prog w = .ok (.string tg) w := fun w => by
    rw [htg, hdg]
    exact run_string_add w _ _ (by decide) (by have := dec_size hg; omega)
  have HTG := Lib.hid (show t = hash tg.data.toList by rw [ht, htg]; rfl)
  rw [← ht]
  clear hdg htg ht
  go_enter Tryd.func18, Tryd.ntmps18
  go_wp2_with fail
  refine (HI.out _).mono ?_
  rintro e w1 ⟨rfl, rfl⟩
  rw [← HDG.out]
  go_wp2_with fail
  refine (HH.out _).mono ?_
  rintro e w2 ⟨rfl, rfl⟩
  rw [← HTG.out]
  go_wp2_with fail
  go_ret
  exact ⟨rfl, rfl⟩
theorem own_setU {w : World} {B n cap g : Nat} {ys : List Int} (h : w.ownsRow B 3 1 (.slice (some ⟨g, 0, none⟩) n cap) n (iv ys)) (i : Nat) (x : Int) :
    (w.setCell ⟨g, i, none⟩ (.int .i64 x)).ownsRow B 3 1 (.slice (some ⟨g, 0, none⟩) n cap) n (iv (ys.set i x)) := by
  have h1 := (h.stored i (.int .i64 x)).1
  rwa [show (iv ys).set i (.int .i64 x) = iv (ys.set i x) from by simp [List.map_set]] at h1
theorem take_set_next {us vs : List Int} {k : Nat} {x : Int} (h : us.take k = vs) (hk : k < us.length) : (us.set k x).take (k + 1) = vs ++ [x] := by
  rw [List.take_add_one, List.take_set_of_le (Nat.le_refl _), h, List.getElem?_set_self hk]
  rfl
set_option maxRecDepth 100000 in
set_option maxHeartbeats 2000000 in
theorem ckAssign_wk (l : List Int) (groups : Int) (A : Option Addr) (c : Nat) (w : World) (h : Row w A (iv l)) (hl : l.length ≤ 9223372036854775807) (hr : right l = false) :
    Calls Tryd.prog 6 #[.slice A l.length c, .int .i64 groups] w (GivesA ([], 110) w) := by
  have HR := Lib.hid (ckRight l A c w h hl)
  have HE := Lib.hid hr
  clear h hr
  go_enter Tryd.func6, Tryd.ntmps6
  go_wp2_with (go_at_call 9; refine HR.out.mono ?_; rw [HE.out]; rintro e w' ⟨rfl, rfl⟩)
  exact bodyPost_ret (v := .tuple #[.slice none 0 0, .int .i64 110]) (by simp [results, Tryd.results6, go_sem]) rfl (givesA_none _ _)
set_option maxRecDepth 100000 in
set_option maxHeartbeats 2000000 in
theorem ckAssign_arg (l : List Int) (groups : Int) (A : Option Addr) (c : Nat) (w : World) (h : Row w A (iv l)) (hl : l.length ≤ 9223372036854775807) (hr : right l = true) (hg : groups < 1 ∨ 32 < groups) :
    Calls Tryd.prog 6 #[.slice A l.length c, .int .i64 groups] w (GivesA ([], 1) w) := by
  have HR := Lib.hid (ckRight l A c w h hl)
  have HE := Lib.hid hr
  clear h hr
  have hg2 : groups < 1 ∨ (¬ groups < 1 ∧ 32 < groups) := by omega
  clear hg
  rcases hg2 with g1 | ⟨g1, g2⟩
  all_goals (
    go_enter Tryd.func6, Tryd.ntmps6
    go_wp2_with (go_at_call 9; refine HR.out.mono ?_; rw [HE.out]; rintro e w' ⟨rfl, rfl⟩)
    exact bodyPost_ret (v := .tuple #[.slice none 0 0, .int .i64 1]) (by simp [results, Tryd.results6, go_sem]) rfl (givesA_none _ _))
set_option maxRecDepth 100000 in
set_option maxHeartbeats 2000000 in
theorem ckAssign_ok (l : List Int) (n : Nat) (A : Option Addr) (c : Nat) (w : World) (h : Row w A (iv l)) (hl : l.length ≤ 9223372036854775807) (hr : right l = true) (h1 : 1 ≤ n) (h2 : n ≤ 32) :
    Calls Tryd.prog 6 #[.slice A l.length c, .int .i64 n] w (GivesA (owners l n, 0) w) := by
  have hr2 := hr
  unfold right at hr2
  rw [Bool.and_eq_true, decide_eq_true_eq] at hr2
  have HR := Lib.hid (ckRight l A c w h hl)
  have HE := Lib.hid hr
  have HPT := Lib.hid (ckPts l A c w h hr2.1.2 (rise_mem hr2.2))
  have HNE := Lib.hid (show ∀ m : Nat → Int, PtsOf (fun y j => y ∈ l ∧ j < 8) m → ∃ h, h < 4294967296 ∧ m h ≠ 0 from fun m hp => by
    obtain ⟨x, hx⟩ : ∃ x, x ∈ l := ⟨l[0]'(by omega), List.getElem_mem _⟩
    exact ⟨_, wPt_lt _ _, (hp.low x 0 ⟨hx, by omega⟩).1⟩)
  have HPO := Lib.hid (fun (g : Nat) (hg : g < 100) (w : World) => ckPoint g hg w)
  have HUP := Lib.hid (fun (b nn : Nat) (m : Nat → Int) (w : World) (hp : HasP w b nn m) (hn : nn ≤ 64) (hne : ∃ h, h < 4294967296 ∧ m h ≠ 0) => ckUp b nn m w hp hn hne)
  obtain ⟨i0, hi0, hz0, hz1, hz2⟩ := info_parts intInfo
  have hmk : ∀ W : World, (Instr.makeSlice 22 (.int .i64 (n : Int)) (.int .i64 (n : Int))).run Tryd.prog W = .ok (.slice (some ⟨W.heap.size, 0, none⟩) n n) (W.alloc (.cells (madeCells (Value.int .i64 0).cells n) 3)) := fun W => by
    have h := run_make (P := Tryd.prog) W 22 3 i0 _ Tryd.underlying22 hi0 hz0 .i64 .i64 (n : Int) (n : Int) (by omega) (by omega) (by rw [hz2]; omega) (by omega)
    rw [hz1] at h
    simpa using h
  obtain ⟨us, hus⟩ : ∃ us, us = owners l n := ⟨_, rfl⟩
  have HU := Lib.hid hus
  rw [← hus]
  clear h hr hr2 hus hi0 hz0 hz1 hz2
  go_enter Tryd.func6, Tryd.ntmps6
  go_wp2_with fail
  refine HR.out.mono ?_
  rw [HE.out]
  rintro e w1 ⟨rfl, rfl⟩
  go_wp2_with fail
  refine HPT.out.mono ?_
  rintro e w2 ⟨b, nn, m, rfl, hnn, hhp, hpt, hbB, hb2⟩
  have HP2 := Lib.hid hhp
  have HPO2 := Lib.hid hpt
  have HB2 := Lib.hid hb2
  clear hhp hpt hb2 HPT HR
  go_wp2_with fail
  refine (HUP.out b nn m w2 HP2.out hnn (HNE.out m HPO2.out)).mono ?_
  rintro e w3 ⟨p1, p2, ys, rfl, hu, hb3⟩
  have HUA := Lib.hid hu
  have HB3 := Lib.hid (below_next HB2.out hb3)
  have HFE := Lib.hid (up_feeds Fence.wide Over.wide 4 (by omega) p1 p2 b nn m ys w3 hu)
  have HOW := Lib.hid (fun (g : Nat) (w' : World) (hb : Below w3.heap.size w3 w') => (callsIn_wide.1 (ckOwner Fence.wide Over.wide 5 (by omega) 25 #[.pointer (some ⟨p1, 0, none⟩), .pointer (some ⟨p2, 0, none⟩)] (fun args w => by first | rfl | simp [go_sem] | kernel_rfl) (gPt g) (ups m ys)
    (fun x hx => by obtain ⟨k, hk, rfl⟩ := List.mem_map.1 hx; exact ((HUA.out.ok.2 k).1 hk).2) w3 w' HFE.out hb) : Calls Tryd.prog 17 _ w' _))
  have HVA := Lib.hid (fun (g : Nat) => own_code HE.out HPO2.out HUA.out.ok g)
  have HN0 := Lib.hid (show (w3.alloc (.cells (madeCells (Value.int .i64 0).cells n) 3)).ownsRow w3.heap.size 3 1 (.slice (some ⟨w3.heap.size, 0, none⟩) n n) n (iv (List.replicate n 0)) by
    have h := World.ownsRow_lit (size := 1) w3 (madeCells (Value.int .i64 0).cells n) n (base := w3.heap.size) (e := 3) (Nat.le_refl _) (by unfold maxLen; omega) (by rw [size_madeCells]; omega)
    rwa [show (madeCells (Value.int .i64 0).cells n).toList = iv (List.replicate n 0) from by rw [show (Value.int .i64 0).cells = #[Value.int .i64 0] from rfl, toList_madeCells_one]; simp [iv]] at h)
  clear hu hb3
  go_wp2_with fail
  clear hmk
  go_loopw [8, 25] (fun _ s25 wr => ∃ (k : Nat) (vs : List Int), s25 = .int .i64 k ∧ k ≤ n ∧ vs.length = n ∧ vs.take k = owners l k ∧ wr.ownsRow w3.heap.size 3 1 (.slice (some ⟨w3.heap.size, 0, none⟩) n n) n (iv vs) ∧ Below w3.heap.size w3 wr) (fun _ s25 _ => n - (intOf s25).toNat)
  case atStart => exact ⟨0, List.replicate n 0, rfl, Nat.zero_le _, by simp, rfl, HN0.out, al_below _ _⟩
  case round =>
    obtain ⟨k, vs, rfl, hk, hvl, hvt, hO, hB⟩ := hrel
    have HVT := Lib.hid hvt; have HO := Lib.hid hO; have HB := Lib.hid hB; have HVL := Lib.hid hvl
    clear hvt hO hB hvl
    by_cases hlt : k < n
    · have b1 : (k : Int) < (n : Int) := by omega
      go_wp2_with fail
      refine (HPO.out k (by omega) _).mono ?_
      rintro e w4 ⟨rfl, rfl⟩
      go_wp2_with fail
      refine (HOW.out k _ HB.out).mono ?_
      rw [HVA.out k]
      rintro e w5 ⟨rfl, hb5⟩
      have HO5 := Lib.hid (own_up HO.out hb5)
      have HB5 := Lib.hid (below_next HB.out hb5)
      clear hb5
      obtain ⟨x, hx⟩ : ∃ x, x = owner l k := ⟨_, rfl⟩
      rw [← hx]
      have HX := Lib.hid hx
      have c1 := HO5.out.cellAt k (by omega)
      have f1 := HO5.out.frozenAt k
      obtain ⟨v0, hv0⟩ : ∃ v0, vs[k]? = some v0 := ⟨_, List.getElem?_eq_getElem (by have := HVL.out; omega)⟩
      rw [show (iv vs)[k]? = some (.int .i64 v0) by simp [iv, hv0]] at c1
      clear hx hv0
      have HO6 := Lib.hid (own_setU HO5.out k x)
      have HB6 := Lib.hid (HB5.out.setCell (p := ⟨w3.heap.size, k, none⟩) (Nat.le_refl _) (.int .i64 x))
      have HT6 := Lib.hid (show (vs.set k x).take (k + 1) = owners l (k + 1) by rw [take_set_next HVT.out (by have := HVL.out; omega), owners_next, HX.out])
      go_wp2_with fail
      go_roundw
      case rel => exact ⟨k + 1, vs.set k x, by go_num, by omega, by rw [List.length_set]; exact HVL.out, HT6.out, HO6.out, HB6.out⟩
      case measure => simp [intOf]; omega
    · have hkn : k = n := by omega
      have HEV := Lib.hid (show vs = us by rw [HU.out, ← hkn, ← HVT.out]; exact (List.take_of_length_le (by have := HVL.out; omega)).symm)
      have hul : us.length = n := by rw [HU.out, owners_len]
      have hge : ¬ (k : Int) < (n : Int) := by omega
      go_wp2_with fail
      subst hul
      refine bodyPost_ret (v := .tuple #[.slice (some ⟨w3.heap.size, 0, none⟩) us.length us.length, .int .i64 0]) (by simp [results, Tryd.results6, go_sem]) rfl ⟨some ⟨w3.heap.size, 0, none⟩, us.length, rfl, Nat.le_refl _, by show us.length ≤ maxLen; unfold maxLen; omega, ?_, below_next HB3.out HB.out⟩
      have hO := HO.out
      rw [HEV.out] at hO
      refine .inr ⟨w3.heap.size, 0, rfl, fun j u hu => ?_⟩
      have hj : j < us.length := by have := (List.getElem?_eq_some_iff.1 hu).1; rwa [iv_len] at this
      rw [Nat.zero_add, hO.cellAt j (by omega)]
      exact hu
theorem ckAssign (l : List Int) (groups : Int) (A : Option Addr) (c : Nat) (w : World) (h : Row w A (iv l)) (hl : l.length ≤ 9223372036854775807) :
    Calls Tryd.prog 6 #[.slice A l.length c, .int .i64 groups] w (GivesA (assign l groups) w) := by
  unfold assign
  by_cases hr : right l = false
  · rw [if_pos hr]; exact ckAssign_wk l groups A c w h hl hr
  · rw [if_neg hr]
    have hr' : right l = true := by simpa using hr
    by_cases hg : groups < 1 ∨ 32 < groups
    · rw [if_pos hg]; exact ckAssign_arg l groups A c w h hl hr' hg
    · rw [if_neg hg]
      obtain ⟨n, rfl⟩ : ∃ n : Nat, groups = n := ⟨groups.toNat, by omega⟩
      exact ckAssign_ok l n A c w h hl hr' (by omega) (by omega)
end Rg
end Go.Proofs.YtgpcbiballdioaaDoor
