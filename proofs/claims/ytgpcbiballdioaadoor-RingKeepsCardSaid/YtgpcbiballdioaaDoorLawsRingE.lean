/- The walk of the law RingOwns. -/
import Derived.Test.YtgpcbiballdioaaDoorLawsRingD
namespace Go.Proofs.YtgpcbiballdioaaDoor
open Go.ChangeShapes Go.WideShapes Go.ChangeAt Go.RowKit
set_option linter.unusedVariables false
set_option maxRecDepth 8000
namespace Rg
theorem owners_at {l : List Int} {n k : Nat} (h : k < n) : (owners l n)[k]? = some (owner l k) := by
  unfold owners
  rw [List.getElem?_map, List.getElem?_range h]; rfl
theorem assign_ok {l : List Int} {groups : Int} {us : List Int} {en : Int} (h : (us, en) = assign l groups) : (us = [] ∧ en ≠ 0) ∨ (en = 0 ∧ right l = true ∧ ∃ n : Nat, groups = n ∧ 1 ≤ n ∧ n ≤ 32 ∧ us = owners l n) := by
  unfold assign at h
  split at h
  · cases h; exact .inl ⟨rfl, by decide⟩
  · split at h
    · cases h; exact .inl ⟨rfl, by decide⟩
    · rename_i h1 h2
      cases h
      exact .inr ⟨rfl, by simpa using h1, groups.toNat, by omega, by omega, by omega, rfl⟩
theorem group_bd (s : ByteArray) {n : Nat} (h : 1 ≤ n) : 0 ≤ group s n ∧ group s n < n := by
  unfold group
  rw [if_neg (by omega), Int.tmod_eq_emod_of_nonneg (by omega)]
  exact ⟨Int.emod_nonneg _ (by omega), Int.emod_lt_of_pos _ (by omega)⟩
set_option maxRecDepth 100000 in
set_option maxHeartbeats 2000000 in
theorem walkRingOwns_no (l : List Int) (groups en : Int) (s : ByteArray) (A : Option Addr) (c : Nat) (w : World) (hA : Row w A (iv l)) (hl : l.length ≤ 9223372036854775807) (hr : ([], en) = assign l groups) (hen : en ≠ 0) :
    Calls Tryd.prog 5 #[.slice A l.length c, .int .i64 groups, .string s] w (TellsR true w) := by
  have HC := Lib.hid (ckAssign l groups A c w hA hl)
  rw [← hr] at HC
  have HA := Lib.hid (fun w => lawAliveR w)
  have e1 := nb hen
  have e2 := eq_b (rfl : (0 : Int) = 0)
  clear hr hA hen
  go_enter Tryd.func5, Tryd.ntmps5
  go_wp2_with fail
  refine HC.out.mono ?_
  rintro e w1 ⟨A1, c1, rfl, _, _, _, hb1⟩
  have B1 := Lib.hid hb1
  clear hb1
  simp only [List.length_nil]
  go_wp2_with fail
  refine (HA.out _).mono ?_
  rintro e w2 ⟨rfl, hb2⟩
  have B2 := Lib.hid (below_next B1.out hb2)
  clear hb2
  go_wp2_with fail
  go_ret
  exact ⟨rfl, B2.out⟩
set_option maxRecDepth 100000 in
set_option maxHeartbeats 2000000 in
theorem walkRingOwns_ok (l : List Int) (n : Nat) (s : ByteArray) (A : Option Addr) (c : Nat) (w : World) (hA : Row w A (iv l)) (hr : right l = true) (h1 : 1 ≤ n) (h2 : n ≤ 32) (hs : s.size ≤ 9223372036854775807) :
    Calls Tryd.prog 5 #[.slice A l.length c, .int .i64 n, .string s] w (TellsR true w) := by
  have hr2 := hr
  unfold right at hr2
  rw [Bool.and_eq_true, decide_eq_true_eq] at hr2
  have hl8 := hr2.1
  have HC := Lib.hid (ckAssign_ok l n A c w hA (by omega) hr h1 h2)
  have HM := Lib.hid (fun g => owner_mem hr g)
  have HA := Lib.hid (fun w => lawAliveR w)
  have HG := Lib.hid (fun w => ckGroup s n w hs (by omega))
  obtain ⟨gi, hgi⟩ : ∃ gi, gi = group s n := ⟨_, rfl⟩
  have hgb := group_bd s h1
  rw [← hgi] at HG hgb
  obtain ⟨us, hus⟩ : ∃ us, us = owners l n := ⟨_, rfl⟩
  have hul : us.length = n := by rw [hus, owners_len]
  have HU := Lib.hid (fun k (hk : k < n) => show us[k]? = some (owner l k) by rw [hus]; exact owners_at hk)
  rw [← hus] at HC
  have RA := Lib.hid hA
  have e0 := nb0 (rfl : (0 : Int) = 0)
  have g1 := hgb.1
  have g2 := hgb.2
  have en := eq_b (rfl : (n : Int) = (n : Int))
  clear hr hr2 hgb hgi hus hA
  subst hul
  go_enter Tryd.func5, Tryd.ntmps5
  go_wp2_with fail
  refine HC.out.mono ?_
  rintro e w1 ⟨A1, c1, rfl, _, _, r1, hb1⟩
  have B1 := Lib.hid hb1; have R1 := Lib.hid r1; have R0 := Lib.hid (RA.out.below hb1)
  clear hb1 r1
  simp only
  go_wp2_with fail
  go_loopw [10, 11, 13, 31] (fun _ _ _ s31 wr => ∃ k : Nat, s31 = .int .i64 k ∧ k ≤ us.length ∧ wr = w1) (fun _ _ _ s31 _ => us.length - (intOf s31).toNat)
  case atStart => exact ⟨0, rfl, Nat.zero_le _, rfl⟩
  case round =>
    obtain ⟨k, rfl, hk, rfl⟩ := hrel
    by_cases hlt : k < us.length
    · obtain ⟨o, ho⟩ : ∃ o, o = owner l k := ⟨_, rfl⟩
      have hok := HU.out k hlt
      rw [← ho] at hok
      obtain ⟨b, off, hA1, c0⟩ := row_int R1.out hok
      subst hA1
      have HO := Lib.hid (show o ∈ l from ho ▸ HM.out k)
      clear ho hok
      go_wp2_with fail
      go_loopw [11, 13, 37] (fun s11 _ s37 wi => ∃ (j : Nat) (t : Bool), s37 = .int .i64 j ∧ s11 = .bool t ∧ j ≤ l.length ∧ (t = true ↔ o ∈ l.take j) ∧ wi = wr) (fun _ _ s37 _ => l.length - (intOf s37).toNat)
      case atStart => exact ⟨0, false, rfl, rfl, Nat.zero_le _, by simp, rfl⟩
      case round =>
        obtain ⟨j, t, rfl, rfl, hj, ht, rfl⟩ := hrel
        have HT := Lib.hid ht
        clear ht
        by_cases hjl : j < l.length
        · obtain ⟨x, hx⟩ : ∃ x, l[j]? = some x := ⟨_, List.getElem?_eq_getElem hjl⟩
          obtain ⟨b', off', hA2, d0⟩ := row_int R0.out hx
          subst hA2
          have HN := Lib.hid (show o ∈ l.take (j + 1) ↔ (o ∈ l.take j ∨ o = x) by rw [List.take_add_one, hx, List.mem_append]; simp)
          clear hx
          cases t
          · by_cases hxo : x = o
            · have e1 := eq_b hxo
              have HNN := Lib.hid (show (true = true ↔ o ∈ l.take (j + 1)) from ⟨fun _ => HN.out.2 (.inr hxo.symm), fun _ => rfl⟩)
              clear hxo
              go_wp2_with fail
              go_roundw
              case rel => exact ⟨j + 1, true, by go_num, rfl, by omega, HNN.out, by first | trivial | rfl⟩
              case measure => simp [intOf]; omega
            · have e1 := ne_b hxo
              have HNN := Lib.hid (show (false = true ↔ o ∈ l.take (j + 1)) from ⟨fun h => (by cases h), fun h => (HN.out.1 h).elim (fun h => HT.out.2 h) (fun h => absurd h.symm hxo)⟩)
              clear hxo
              go_wp2_with fail
              go_roundw
              case rel => exact ⟨j + 1, false, by go_num, rfl, by omega, HNN.out, by first | trivial | rfl⟩
              case measure => simp [intOf]; omega
          · have HNN := Lib.hid (show (true = true ↔ o ∈ l.take (j + 1)) from ⟨fun _ => HN.out.2 (.inl (HT.out.1 rfl)), fun _ => rfl⟩)
            go_wp2_with fail
            go_roundw
            case rel => exact ⟨j + 1, true, by go_num, rfl, by omega, HNN.out, by first | trivial | rfl⟩
            case measure => simp [intOf]; omega
        · have htt : t = true := HT.out.2 (by rw [List.take_of_length_le (by omega)]; exact HO.out)
          subst htt
          by_cases hl1 : l.length = 1
          · have h0 : l[0]? = some o := by
              obtain ⟨y, hy⟩ := List.length_eq_one_iff.1 hl1
              have := HO.out
              rw [hy] at this ⊢
              simp at this
              rw [this]; rfl
            obtain ⟨b', off', hA2, d0⟩ := row_int R0.out h0
            subst hA2
            rw [Nat.add_zero] at d0
            have e1 := eq_b (show (l.length : Int) = 1 by omega)
            have e2 := nb0 (rfl : o = o)
            have z0 : (0 : Int) < (l.length : Int) := by omega
            clear h0
            go_wp2_with fail
            go_roundw
            case rel => exact ⟨k + 1, by go_num, by omega, by first | trivial | rfl⟩
            case measure => simp [intOf]; omega
          · have e1 := ne_b (show (l.length : Int) ≠ 1 by omega)
            go_wp2_with fail
            go_roundw
            case rel => exact ⟨k + 1, by go_num, by omega, by first | trivial | rfl⟩
            case measure => simp [intOf]; omega
    · have hge : us.length ≤ k := by omega
      go_wp2_with fail
      refine (HG.out _).mono ?_
      rintro e w2 ⟨rfl, rfl⟩
      go_wp2_with fail
      refine (HA.out _).mono ?_
      rintro e w3 ⟨rfl, hb3⟩
      have B3 := Lib.hid (below_next B1.out hb3)
      clear hb3
      go_wp2_with fail
      go_ret
      exact ⟨by first | rfl | (simp; done) | (simp; omega), B3.out⟩
theorem walkRingOwns (l : List Int) (groups : Int) (s : ByteArray) (A : Option Addr) (c : Nat) (w : World) (hA : Row w A (iv l)) (hl : l.length ≤ 9223372036854775807) (hs : s.size ≤ 9223372036854775807) :
    Calls Tryd.prog 5 #[.slice A l.length c, .int .i64 groups, .string s] w (TellsR true w) := by
  obtain ⟨⟨us, en⟩, hr⟩ : ∃ r, r = assign l groups := ⟨_, rfl⟩
  rcases assign_ok hr with ⟨rfl, h2⟩ | ⟨rfl, h2, n, rfl, h3, h4, rfl⟩
  · exact walkRingOwns_no l groups en s A c w hA hl hr h2
  · exact walkRingOwns_ok l n s A c w hA h2 h3 h4 hs
theorem lawRingOwns : Lift.Owes 5 [22, 3, 9] := by
  intro H enc W base args ds ps hval hA _ _
  obtain ⟨v0, v1, v2, d0, d1, d2, p0, p1, p2, rfl, rfl, rfl, h0, h1, h2⟩ := trodAll_three hA
  obtain ⟨A, c, zs, rfl, hl, hm, hr, _, hd⟩ := openInts Tryd.underlying22 Tryd.underlying3 (by kernel_rfl) (hval 0 _ v0 rfl rfl) h0
  obtain ⟨n, rfl, rfl, rfl, w1⟩ := open_int Tryd.underlying3 (hval 1 _ v1 rfl rfl) h1
  obtain ⟨s, rfl, rfl, rfl, ws⟩ := ChangeMaps.open_string Tryd.underlying9 (hval 2 _ v2 rfl rfl) h2
  exact walkRingOwns zs n s A c W hr (by unfold maxLen at hm; omega) (by unfold maxLen at ws; omega)
end Rg
theorem lawRingOwns : Lift.Owes 5 [22, 3, 9] := Rg.lawRingOwns
end Go.Proofs.YtgpcbiballdioaaDoor
