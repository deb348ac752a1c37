/- The code's Hash and Group; the reference's Group. -/
import Derived.Test.YtgpcbiballdioaaDoorRingHash32
namespace Go.Proofs.YtgpcbiballdioaaDoor
open Go.RowKit
set_option linter.unusedVariables false
set_option maxRecDepth 8000
namespace Rg
/-- The group of a key. -/
def group (s : ByteArray) (g : Int) : Int := if g < 1 then 0 else (hash s.data.toList : Int).tmod g
set_option maxRecDepth 100000 in
set_option maxHeartbeats 1000000 in
theorem ckHash (s : ByteArray) (w : World) (hl : s.size ≤ 9223372036854775807) : Calls Tryd.prog 20 #[.string s] w fun e w' => e = .returned (.int .u32 (hash s.data.toList : Nat)) ∧ w' = w := by
  obtain ⟨r, hr⟩ : ∃ r, r = hash s.data.toList := ⟨_, rfl⟩
  have HR := Lib.hid hr
  rw [← hr]
  clear hr
  go_enter Tryd.func20, Tryd.ntmps20
  go_wp2_with fail
  go_loopw [3, 4, 7] (fun h s4 i wr => ∃ (k g : Nat), i = .int .i64 k ∧ h = .int .u32 (g : Nat) ∧ g = hash (s.data.toList.take k) ∧ k ≤ s.size ∧ wr = w) (fun _ _ i _ => s.size - (intOf i).toNat)
  case atStart => exact ⟨0, 2166136261, rfl, rfl, rfl, Nat.zero_le _, rfl⟩
  case round =>
    obtain ⟨k, g, rfl, rfl, hg, hk, rfl⟩ := hrel
    have HG := Lib.hid hg
    have hgl : g < 4294967296 := by rw [hg]; exact hash_lt _
    clear hg
    by_cases hlt : k < s.size
    · have HS := Lib.hid (step_val32 s[k] hgl)
      have HN := Lib.hid (hash_next (str_at hlt))
      go_wp2_with fail
      go_roundw
      case rel => exact ⟨k + 1, step g s[k], by go_num, by rw [← HS.out]; simp only [IntKind.wrap_u32], by rw [HN.out, ← HG.out], by omega, trivial⟩
      case measure => simp [intOf]; omega
    · have hke : s.data.toList.take k = s.data.toList := List.take_of_length_le (by rw [Array.length_toList]; exact Nat.le_of_not_lt hlt)
      have HE := Lib.hid (show g = r by rw [HG.out, hke, HR.out])
      have hge : s.size ≤ k := by omega
      clear hke
      go_wp2_with fail
      go_ret
      exact ⟨by rw [HE.out]; rfl, rfl⟩
set_option maxRecDepth 100000 in
theorem ckGroup (s : ByteArray) (g : Int) (w : World) (hl : s.size ≤ 9223372036854775807) (hg : g ≤ 9223372036854775807) : Calls Tryd.prog 14 #[.string s, .int .i64 g] w fun e w' => e = .returned (.int .i64 (group s g)) ∧ w' = w := by
  have HH := Lib.hid (fun w => ckHash s w hl)
  have hh := hash_lt s.data.toList
  obtain ⟨x, hx⟩ : ∃ x, x = hash s.data.toList := ⟨_, rfl⟩
  have HG := Lib.hid (show group s g = if g < 1 then 0 else (x : Int).tmod g by rw [hx]; rfl)
  rw [← hx] at HH hh
  clear hx
  by_cases h1 : g < 1
  · go_enter Tryd.func14, Tryd.ntmps14
    go_wp2_with fail
    go_ret
    exact ⟨by rw [HG.out, if_pos (by omega)]; rfl, rfl⟩
  · have e1 : IntKind.u64.wrap (x : Int) = (x : Int) := by rw [IntKind.wrap_u64]; omega
    have e2 : IntKind.u64.wrap g = g := by rw [IntKind.wrap_u64]; omega
    have e3 : ¬ g = 0 := by omega
    have e3b := ne_b e3
    obtain ⟨q, hq⟩ : ∃ q, (x : Int).tmod g = q := ⟨_, rfl⟩
    have hq0 : 0 ≤ q ∧ q < 4294967296 := by
      rw [← hq]
      have h2 := Int.tmod_nonneg g (show (0 : Int) ≤ x by omega)
      have h3 : (x : Int).tmod g ≤ x := by
        obtain ⟨n, rfl⟩ : ∃ n : Nat, g = n := ⟨g.toNat, by omega⟩
        rw [Int.tmod_eq_emod_of_nonneg (by omega), ← Int.natCast_emod]
        have := Nat.mod_le x n
        omega
      omega
    have e4 : IntKind.u64.wrap q = q := by rw [IntKind.wrap_u64]; omega
    have e5 : IntKind.i64.wrap q = q := by simp [IntKind.wrap, IntKind.bits, IntKind.signed]; omega
    have HQ := Lib.hid hq
    go_enter Tryd.func14, Tryd.ntmps14
    go_wp2_with fail
    refine (HH.out _).mono ?_
    rintro e w1 ⟨rfl, rfl⟩
    go_wp2_with fail
    go_ret
    exact ⟨by rw [HG.out, if_neg (by omega), HQ.out]; rfl, rfl⟩
end Rg
end Go.Proofs.YtgpcbiballdioaaDoor
