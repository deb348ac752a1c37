/- Contracts of the sums: package seal's and the reference's. -/
import Derived.Test.YtldaflofdbognaaSealMath
import Derived.Test.YtldaflofdbognaaMem
import Derived.Laws.BitsAllLaws
namespace Go.Proofs.Ytldaflofdbognaa
open Go.RowKit
open Vlq Seal
set_option linter.unusedVariables false
theorem bit1_same {r b : Nat} (h : r / 2147483648 = b) : bit1 r b = r * 2 % 4294967296 := by unfold bit1; rw [if_pos h]
theorem bit1_diff {r b : Nat} (h : r / 2147483648 ≠ b) : bit1 r b = (r * 2 % 4294967296) ^^^ 79764919 := by unfold bit1; rw [if_neg h]
theorem u8_and1 (x : Nat) (hx : x < 256) : bits .and .u8 (x : Int) 1 = ((x % 2 : Nat) : Int) := by
  have := u8_and_nat x 1 hx (by omega)
  rw [nat_mask1] at this
  exact this
theorem u32_xorp (x : Nat) (hx : x < 4294967296) : bits .xor .u32 (x : Int) 79764919 = ((x ^^^ 79764919 : Nat) : Int) := u32_xor_nat x 79764919 hx (by omega)
theorem cast_shr (c k : Nat) : (c : Int) / 2 ^ k = ((c / 2 ^ k : Nat) : Int) := by norm_cast
theorem shift_bit (c k : Nat) (hc : c < 256) : bits .and .u8 ((c : Int) / 2 ^ k) 1 % 4294967296 = ((c / 2 ^ k % 2 : Nat) : Int) := by
  have h1 : c / 2 ^ k ≤ c := Nat.div_le_self _ _
  rw [cast_shr, u8_and1 _ (by omega)]
  omega
theorem ref_bit (c k : Nat) (hc : c < 256) : ((c : Int) % 4294967296 / 2 ^ k).tmod 2 = ((c / 2 ^ k % 2 : Nat) : Int) := by
  rw [show (c : Int) % 4294967296 = c by omega, cast_shr, Int.tmod_eq_emod_of_nonneg (Int.natCast_nonneg _)]
  omega
theorem half_eq (R : Nat) : (R : Int) / 2147483648 = ((R / 2147483648 : Nat) : Int) := by omega
theorem twice_eq (R : Nat) : (R : Int) * 2 % 4294967296 = ((R * 2 % 4294967296 : Nat) : Int) := by omega
theorem step_diff {R b : Nat} {X : Int} (hR : R < 4294967296) (hX : X = (b : Int)) (h : ((R : Int) / 2147483648 != X) = true) :
    bits .xor .u32 ((R : Int) * 2 % 4294967296) 79764919 = ((bit1 R b : Nat) : Int) := by
  rw [hX, half_eq] at h
  have h2 : R / 2147483648 ≠ b := by
    intro e
    rw [e] at h
    simp at h
  rw [bit1_diff h2, ← u32_xorp _ (by omega), twice_eq]
theorem step_same {R b : Nat} {X : Int} (hX : X = (b : Int)) (h : ((R : Int) / 2147483648 != X) = false) : (R : Int) * 2 % 4294967296 = ((bit1 R b : Nat) : Int) := by
  rw [hX, half_eq] at h
  have h2 : R / 2147483648 = b := by
    have h3 : ((R / 2147483648 : Nat) : Int) = (b : Int) := by simpa using h
    omega
  rw [bit1_same h2, twice_eq]
set_option maxRecDepth 100000 in
theorem sealShift (r : Nat) (hr : r < 4294967296) (c : UInt8) (w : World) :
    Calls Try.prog 21 #[.int .u32 r, .int .u8 (c.toNat : Int)] w fun e w' => e = .returned (.int .u32 (byte1 r c : Nat)) ∧ w = w' := by
  have hc := u8_lt c
  go_enter Try.func21, Try.ntmps21
  go_wp2_with fail
  go_loop [0, 7] (fun u i => ∃ k : Nat, k ≤ 8 ∧ i = .int .i64 k ∧ u = .int .u32 (bitsTo r c.toNat k : Nat)) (fun _ i => 8 - (intOf i).toNat)
  case atStart => exact ⟨0, by omega, rfl, rfl⟩
  case round =>
    obtain ⟨k, hk, rfl, rfl⟩ := hrel
    by_cases hk8 : k < 8
    · have hlt := bitsTo_lt (c := c.toNat) hr k
      go_wp2_with fail
      all_goals
        go_round
        case rel =>
          refine ⟨k + 1, by omega, by go_num, ?_⟩
          first
          | rw [step_diff hlt (shift_bit c.toNat (7 - k) hc) (by assumption)]; rfl
          | rw [step_same (shift_bit c.toNat (7 - k) hc) (by assumption)]; rfl
        case measure => simp [intOf]; omega
    · obtain rfl : k = 8 := by omega
      go_wp2_with fail
      go_ret
      exact ⟨rfl, rfl⟩
/-- The sum of the first k bytes. -/
def crcK (s : ByteArray) (k : Nat) : Nat := crcFrom 4294967295 (s.data.toList.take k)
theorem crcK_lt (s : ByteArray) (k : Nat) : crcK s k < 4294967296 := crcFrom_lt _ (by omega)
theorem crcK_next (s : ByteArray) (k : Nat) (h : k < s.size) : crcK s (k + 1) = byte1 (crcK s k) s[k] := by
  unfold crcK
  rw [List.take_succ_eq_append_getElem (by simpa using h), crcFrom_snoc]
  rfl
theorem crcK_all (s : ByteArray) : crcK s s.size = crc s.data.toList := by
  unfold crcK crc
  rw [List.take_of_length_le]
  exact Nat.le_refl _
theorem sealSum (s : ByteArray) (hs : s.size ≤ 9223372036854775807) (w : World) :
    Calls Try.prog 11 #[.string s] w fun e w' => e = .returned (.int .u32 (crc s.data.toList : Nat)) ∧ w = w' := by
  go_enter Try.func11, Try.ntmps11
  go_wp2_with fail
  go_loop [3, 7] (fun u i => ∃ k : Nat, k ≤ s.size ∧ i = .int .i64 k ∧ u = .int .u32 (crcK s k : Nat)) (fun _ i => s.size - (intOf i).toNat)
  case atStart => exact ⟨0, Nat.zero_le _, rfl, rfl⟩
  case round =>
    obtain ⟨k, hk, rfl, rfl⟩ := hrel
    by_cases hlt : k < s.size
    · have hn := Lib.hid (crcK_next s k hlt)
      go_wp2_with fail
      refine (sealShift _ (crcK_lt s k) s[k] _).mono ?_
      rintro e w' ⟨rfl, rfl⟩
      go_wp2_with fail
      go_round
      case rel => exact ⟨k + 1, by omega, by go_num, by rw [hn.out]⟩
      case measure => simp [intOf]; omega
    · obtain rfl : s.size = k := by omega
      have ha := Lib.hid (crcK_all s)
      go_wp2_with fail
      go_ret
      exact ⟨by rw [← ha.out]; rfl, rfl⟩
set_option maxRecDepth 100000 in
theorem refSum (s : ByteArray) (hs : s.size ≤ 9223372036854775807) (w : World) :
    Calls Try.prog 12 #[.string s] w fun e w' => e = .returned (.int .u32 (crc s.data.toList : Nat)) ∧ w = w' := by
  go_enter Try.func12, Try.ntmps12
  go_wp2_with fail
  go_loop [3, 4] (fun u i => ∃ k : Nat, k ≤ s.size ∧ i = .int .i64 k ∧ u = .int .u32 (crcK s k : Nat)) (fun _ i => s.size - (intOf i).toNat)
  case atStart => exact ⟨0, Nat.zero_le _, rfl, rfl⟩
  case round =>
    obtain ⟨k, hk, rfl, rfl⟩ := hrel
    by_cases hlt : k < s.size
    · have hn := Lib.hid (crcK_next s k hlt)
      go_wp2_with fail
      go_loop [3, 5] (fun u i => ∃ j : Nat, j ≤ 8 ∧ i = .int .i64 (7 - j : Int) ∧ u = .int .u32 (bitsTo (crcK s k) s[k].toNat j : Nat)) (fun _ i => (intOf i + 1).toNat)
      case atStart => exact ⟨0, Nat.zero_le _, rfl, rfl⟩
      case round =>
        obtain ⟨j, hj, rfl, rfl⟩ := hrel
        by_cases hlt' : j < 8
        · have hl := bitsTo_lt (c := s[k].toNat) (crcK_lt s k) j
          go_wp2_with fail
          all_goals
            go_round
            case rel =>
              refine ⟨j + 1, by omega, by congr 1; omega, ?_⟩
              first
              | rw [step_diff hl (ref_bit s[k].toNat (7 - j) (u8_lt _)) (by assumption)]; rfl
              | rw [step_same (ref_bit s[k].toNat (7 - j) (u8_lt _)) (by assumption)]; rfl
            case measure => simp [intOf]; omega
        · obtain rfl : j = 8 := by omega
          go_wp2_with fail
          go_round
          case rel => exact ⟨k + 1, by omega, by go_num, by rw [hn.out]; rfl⟩
          case measure => simp [intOf]; omega
    · obtain rfl : s.size = k := by omega
      have ha := Lib.hid (crcK_all s)
      go_wp2_with fail
      go_ret
      exact ⟨by rw [← ha.out]; rfl, rfl⟩
end Go.Proofs.Ytldaflofdbognaa
