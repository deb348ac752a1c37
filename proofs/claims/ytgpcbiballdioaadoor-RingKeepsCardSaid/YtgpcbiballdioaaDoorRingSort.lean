/- slices.Sorted of the points. -/
import Derived.Test.YtgpcbiballdioaaDoorRingCol
import Derived.Test.YtgpcbiballdioaaDoorSrtTop
namespace Go.Proofs.YtgpcbiballdioaaDoor
open Go.RowKit Go.Shelf
set_option linter.unusedVariables false
set_option maxRecDepth 8000
namespace Rg
/-- All points, rising. -/
def OkS (m : Nat → Int) (ys : List Nat) : Prop := ys.Pairwise (· < ·) ∧ ∀ h, h ∈ ys ↔ h < 4294967296 ∧ m h ≠ 0
def fnOf (xs : List Nat) : Srt.Fn := fun t => ((xs.getD t 0 : Nat) : Int)
theorem at_of_own {w : World} {B n cap g : Nat} {xs : List Nat} (h : w.ownsRow B 45 1 (.slice (some ⟨g, 0, none⟩) n cap) n (uc xs)) : Srt.At g 0 n (fnOf xs) w := by
  obtain ⟨hl, ⟨h1, _⟩ | ⟨g', cap', cur, h1, hg, hh, hn, hm, hc, hx⟩⟩ := h
  · cases h1
  · cases h1
    rw [uc_len, Nat.mul_one] at hl
    refine ⟨fun t ht => ?_, fun t ht => ?_⟩
    · have hc1 : cur.toList[t]? = some (u32 (xs.getD t 0)) := by
        have e : (cur.toList.take (n * 1))[t]? = (uc xs)[t]? := by rw [hx]
        rw [List.getElem?_take, if_pos (by omega)] at e
        rw [e]
        unfold uc
        rw [List.getElem?_map, List.getD_eq_getElem?_getD, List.getElem?_eq_getElem (by omega)]; rfl
      have hc2 : cur[t]? = some (u32 (xs.getD t 0)) := by rw [← hc1]; simp
      unfold World.cell?
      simp only [Nat.zero_add, hh]
      rw [hc2]; rfl
    · unfold World.frozen?
      simp [hh]
theorem map_toNat (xs : List Nat) : ((List.range xs.length).map (fnOf xs)).map Int.toNat = xs := by
  refine List.ext_getElem? fun k => ?_
  rw [List.getElem?_map, List.getElem?_map]
  by_cases hk : k < xs.length
  · rw [List.getElem?_range hk, List.getElem?_eq_getElem hk]
    simp [fnOf, List.getD_eq_getElem?_getD, List.getElem?_eq_getElem hk]
  · rw [List.getElem?_eq_none (by simp; omega), List.getElem?_eq_none (by omega)]; rfl
def GivesSorted (m : Nat → Int) (w : World) (e : Ending) (w' : World) : Prop :=
  ∃ (g cap : Nat) (ys : List Nat), e = .returned (.slice (some ⟨g, 0, none⟩) ys.length cap) ∧ OkS m ys ∧ ys.length ≤ 64 ∧ (∀ (t x : Nat), ys[t]? = some x → w'.cell? ⟨g, t, none⟩ = some (u32 x)) ∧ w.heap.size ≤ g ∧ g < w'.heap.size ∧ Below w.heap.size w w'
theorem sorted_list {m : Nat → Int} {nn : Nat} {xs : List Nat} (hl : LastP m nn xs) {d' : Srt.Fn} (hsw : Srt.Sw 0 xs.length (fnOf xs) d') (hso : Srt.Sorted 0 xs.length d') :
    ∃ ys : List Nat, ys.length = xs.length ∧ OkS m ys ∧ ∀ (t x : Nat), ys[t]? = some x → d' t = (x : Int) := by
  have hp : ((List.range xs.length).map d').Perm ((List.range xs.length).map (fnOf xs)) := hsw.perm (Nat.le_refl _)
  have hpos : ∀ k, 0 ≤ k → k < xs.length → 0 ≤ d' k := hsw.all (P := fun v => 0 ≤ v) (fun k _ _ => by unfold fnOf; omega)
  have hp2 : (((List.range xs.length).map d').map Int.toNat).Perm xs := by
    have := hp.map Int.toNat
    rwa [map_toNat] at this
  obtain ⟨ys, hys⟩ : ∃ ys, ys = ((List.range xs.length).map d').map Int.toNat := ⟨_, rfl⟩
  rw [← hys] at hp2
  have hlen : ys.length = xs.length := hp2.length_eq
  have hat : ∀ (t x : Nat), ys[t]? = some x → d' t = (x : Int) := by
    intro t x hx
    have ht : t < xs.length := by rw [← hlen]; exact (List.getElem?_eq_some_iff.1 hx).1
    rw [hys, List.getElem?_map, List.getElem?_map, List.getElem?_range ht] at hx
    simp at hx
    have := hpos t (Nat.zero_le _) ht
    omega
  refine ⟨ys, hlen, ⟨?_, fun h => ?_⟩, hat⟩
  · have hnd : ys.Nodup := hp2.nodup_iff.2 hl.1.1
    refine List.pairwise_iff_getElem.2 fun i j hi hj hij => ?_
    have e1 := hat i ys[i] (List.getElem?_eq_getElem hi)
    have e2 := hat j ys[j] (List.getElem?_eq_getElem hj)
    have h1 := hso i j (Nat.zero_le _) (by omega) (by omega)
    have h2 : ys[i] ≠ ys[j] := List.pairwise_iff_getElem.1 hnd i j hi hj hij
    omega
  · rw [hp2.mem_iff]
    exact ⟨fun hm => hl.1.2.2 h hm, fun hm => hl.2 h hm.1 hm.2⟩
set_option maxRecDepth 100000 in
set_option maxHeartbeats 1000000 in
theorem ckSorted (Bm b nn : Nat) (m : Nat → Int) (w : World) (hbm : Boxed w Bm 41 (.map (some b))) (hp : HasP w b nn m) (hn : nn ≤ 64) (hne : ∃ h, h < 4294967296 ∧ m h ≠ 0) :
    Calls Tryd.prog 23 #[.func (.func 30) #[] #[.pointer (some ⟨Bm, 0, none⟩)]] w (GivesSorted m w) := by
  have HC := Lib.hid (collectU Fence.wide Over.wide 6 (by omega) 30 #[.pointer (some ⟨Bm, 0, none⟩)] (fun args w => by first | rfl | simp [go_sem] | kernel_rfl) (OkP m nn) (LastP m nn) (fun xs h => by have := h.2.1; omega) w w
    (keys_feeds Fence.wide Over.wide 5 (by omega) Bm b nn m w hbm hp) (Below.refl _ _))
  have HNE := Lib.hid hne
  clear hbm hp hne
  go_enter Tryd.func23, Tryd.ntmps23
  go_wp2_with fail
  refine HC.out.mono ?_
  rintro e w1 ⟨v, xs, rfl, hlast, hown, hb⟩
  have hpos : 1 ≤ xs.length := by
    obtain ⟨h, h1, h2⟩ := HNE.out
    exact List.length_pos_of_mem (hlast.2 h h1 h2)
  have hx64 : xs.length ≤ 64 := by have := hlast.1.2.1; omega
  obtain ⟨g, cap, rfl⟩ : ∃ g cap, v = .slice (some ⟨g, 0, none⟩) xs.length cap := by
    obtain ⟨hl, ⟨_, h1⟩ | ⟨g', cap', cur, h1, _⟩⟩ := hown
    · omega
    · exact ⟨g', cap', h1⟩
  have hat := at_of_own hown
  have hgB : w.heap.size ≤ g ∧ g < w1.heap.size := hown.lt g rfl
  have HS := Lib.hid (Srt.uSort g 0 xs.length cap (fnOf xs) w1 hat (by omega))
  have HL := Lib.hid hlast
  have HB := Lib.hid hb
  clear hlast hown hb hat HC
  go_wp2_with fail
  refine HS.out.mono ?_
  rintro e w2 ⟨rfl, d', k1, k2, k3⟩
  obtain ⟨ys, y1, y2, y3⟩ := sorted_list HL.out k1 k2
  have HR := Lib.hid (show GivesSorted m w (.returned (.slice (some ⟨g, 0, none⟩) xs.length cap)) w2 from
    ⟨g, cap, ys, by rw [y1], y2, by omega, fun t x hx => by
      have ht : t < xs.length := by rw [← y1]; exact (List.getElem?_eq_some_iff.1 hx).1
      have := k3.at_.cell t ht
      rw [Nat.zero_add, y3 t x hx] at this
      exact this, hgB.1, by have := k3.only.size; omega, Srt.Only.below HB.out k3.only hgB.1 HB.out.size⟩)
  clear k1 k2 k3 y1 y2 y3
  go_wp2_with fail
  go_ret
  exact HR.out
end Rg
end Go.Proofs.YtgpcbiballdioaaDoor
