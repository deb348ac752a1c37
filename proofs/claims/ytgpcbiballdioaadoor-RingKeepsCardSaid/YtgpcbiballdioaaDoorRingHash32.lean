/- The hash by 32-bit numbers. -/
import Derived.Test.YtgpcbiballdioaaDoorRingHashR
namespace Go.Proofs.YtgpcbiballdioaaDoor
set_option linter.unusedVariables false
namespace Rg
theorem step_val32 {g : Nat} (b : UInt8) (hg : g < 4294967296) : IntKind.u32.wrap (bits .xor .u32 (g : Int) (IntKind.u32.wrap (b.toNat : Int)) * 16777619) = ((step g b : Nat) : Int) := by
  have hb := b.toNat_lt
  have hx := xor_lt hg b
  have e1 : IntKind.u32.wrap (b.toNat : Int) = (b.toNat : Int) := by rw [IntKind.wrap_u32]; omega
  rw [e1, u32_xor_nat g b.toNat (by omega) (by omega)]
  unfold step
  obtain ⟨x, ex⟩ : ∃ x, x = g ^^^ b.toNat := ⟨_, rfl⟩
  rw [← ex] at hx ⊢
  rw [IntKind.wrap_u32]
  omega
/-- The two operations one after the other. -/
theorem step_xor32 {g : Nat} (b : UInt8) (hg : g < 4294967296) : bits .xor .u32 (g : Int) (IntKind.u32.wrap (b.toNat : Int)) = ((g ^^^ b.toNat : Nat) : Int) := by
  have hb := b.toNat_lt
  have e1 : IntKind.u32.wrap (b.toNat : Int) = (b.toNat : Int) := by rw [IntKind.wrap_u32]; omega
  rw [e1, u32_xor_nat g b.toNat (by omega) (by omega)]
theorem step_mul32 {g : Nat} (b : UInt8) (hg : g < 4294967296) : IntKind.u32.wrap (((g ^^^ b.toNat : Nat) : Int) * 16777619) = ((step g b : Nat) : Int) := by
  have hx := xor_lt hg b
  unfold step
  obtain ⟨x, ex⟩ : ∃ x, x = g ^^^ b.toNat := ⟨_, rfl⟩
  rw [← ex] at hx ⊢
  rw [IntKind.wrap_u32]
  omega
end Rg
end Go.Proofs.YtgpcbiballdioaaDoor
