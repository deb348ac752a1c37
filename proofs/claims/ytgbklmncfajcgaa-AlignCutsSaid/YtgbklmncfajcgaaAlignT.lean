/- Items that waited: the reference's LikeLate. -/
import Derived.Test.YtgbklmncfajcgaaAlignL
namespace Go.Proofs.Ytgbklmncfajcgaa
open Go.ChangeShapes Go.WideShapes Go.ChangeAt Go.RowKit
set_option linter.unusedVariables false
set_option maxRecDepth 8000
namespace Aln
open Gen (TellsB row_one flat_len flat_get)
open Itm
abbrev Lt := Int × It
abbrev ltC (x : Lt) : Array Value := #[.int .i64 x.1, .int .i64 x.2.k, .string x.2.ek, .int .i64 x.2.ea, .int .i64 x.2.ev, .int .i64 x.2.m, .int .i64 x.2.n, .int .i64 x.2.lo, .int .i64 x.2.hi, .string x.2.rk, .int .i64 x.2.rn, .int .i64 x.2.rv]
abbrev ltL (x : Lt) : List Value := (ltC x).toList
abbrev ltc (l : List Lt) : List Value := l.flatMap ltL
theorem ltL_len (x : Lt) : (ltL x).length = 12 := rfl
theorem late_row {w : World} {A : Option Addr} {l : List Lt} (h : Row w A (ltc l)) {k : Nat} {x : Lt} (hk : l[k]? = some x) :
    ∃ q off, A = some ⟨q, off, none⟩ ∧ ∀ (j : Nat) (u : Value), (ltL x)[j]? = some u → w.cell? ⟨q, off + k * 12 + j, none⟩ = some u :=
  row_one ltL_len (by omega) h hk
theorem fields_lt : Try.prog.underlying 58 = some (.struct (Try.prog.fieldsOf 58)) := by kernel_rfl
theorem stood_lt : Try.prog.stoodInHeld 58 = false := by kernel_rfl
theorem size_it : (Try.prog.info? 42).map (·.size) = some 11 := by kernel_rfl
theorem run_eqItD (d : Nat) (a b : It) (w : World) : (Op.equalIn (d + 4) 42 (itV a) (itV b)).run Try.prog w = .ok (eqI a b) w := by
  have h2 := Try.underlying2
  have h3 := Try.underlying3
  obtain ⟨i0, hi0, hs0⟩ := Option.map_eq_some_iff.1 size_ev
  obtain ⟨i1, hi1, hs1⟩ := Option.map_eq_some_iff.1 size_res
  have hszE : ∀ w, (sizeOf 36).run Try.prog w = .ok 3 w := fun w => by simp [sizeOf, typeInfo, hi0, hs0]
  have hszR : ∀ w, (sizeOf 40).run Try.prog w = .ok 5 w := fun w => by simp [sizeOf, typeInfo, hi1, hs1]
  have hE := run_eqE (d + 1) a.ek b.ek a.ea a.ev b.ea b.ev w
  have hR := run_eqR d a.rk b.rk a.lo a.hi a.rn a.rv b.lo b.hi b.rn b.rv w
  rw [show d + 4 = (d + 3) + 1 from rfl, run_equalIn_agg w _ _ _ _ fields_it stood_it]
  simp [Program.fieldsOf, Try.underlying42, Op.eqFields, part, isAgg, run_underlying h2, run_underlying h3, run_underlying Try.underlying36, run_underlying Try.underlying40, hszE, hszR, hE, hR, run_equalIn_int w (d + 2) _ .i64 .i64 _ _ h2, run_equalIn_int w (d + 2) _ .i64 .i64 _ _ h3]
  unfold eqI
  by_cases g1 : a.k = b.k <;> by_cases g2 : a.m = b.m <;> by_cases g3 : a.n = b.n <;> cases eqE a.ek b.ek a.ea a.ev b.ea b.ev <;> cases eqR a.rk b.rk a.lo a.hi a.rn a.rv b.lo b.hi b.rn b.rv <;> simp [g1, g2, g3]
theorem run_sameLt (x : Lt) (w : World) : (binOp .neq 58 (.agg (ltC x)) (.agg (ltC x))).run Try.prog w = .ok (.bool false) w := by
  have h3 := Try.underlying3
  obtain ⟨i0, hi0, hs0⟩ := Option.map_eq_some_iff.1 size_it
  have hsz : ∀ w, (sizeOf 42).run Try.prog w = .ok 11 w := fun w => by simp [sizeOf, typeInfo, hi0, hs0]
  have hI := run_eqItD 9995 x.2 x.2 w
  rw [eqI_same] at hI
  rw [run_neq_struct, show (10000 : Nat) = 9999 + 1 from rfl, run_equalIn_agg w _ _ _ _ fields_lt stood_lt]
  simp [Program.fieldsOf, Try.underlying58, Op.eqFields, part, isAgg, run_underlying h3, run_underlying Try.underlying42, hsz, hI, run_equalIn_int w 9998 _ .i64 .i64 _ _ h3]
set_option maxHeartbeats 1000000 in
/-- The same that waited in two rows. -/
theorem rfLikeLate (l : List Lt) (n : Nat) (hn : n = l.length) (hl : n ≤ 100000) (A A' : Option Addr) (c c' : Nat) (w : World) (hA : Row w A (ltc l)) (hA' : Row w A' (ltc l)) :
    Calls Try.prog 19 #[.slice A n c, .slice A' n c'] w (TellsB true w) := by
  have HR := Lib.hid hA
  have HR' := Lib.hid hA'
  have HN := Lib.hid hn
  clear hA hA' hn
  go_enter Try.func19, Try.ntmps19
  go_wp2_with fail
  go_loopw [13] (fun i wr => ∃ k : Nat, i = .int .i64 k ∧ k ≤ n ∧ ∃ m, wr = w.drewN m) (fun i _ => n - (intOf i).toNat)
  case atStart => exact ⟨0, rfl, Nat.zero_le _, 0, rfl⟩
  case round =>
    obtain ⟨k, rfl, hk, m, rfl⟩ := hrel
    by_cases hlt : k < n
    · obtain ⟨x, hx⟩ : ∃ x, l[k]? = some x := ⟨_, List.getElem?_eq_getElem (by have := HN.out; omega)⟩
      obtain ⟨b, off, rfl, c0⟩ := late_row HR.out hx
      obtain ⟨b', off', rfl, d0⟩ := late_row HR'.out hx
      have he : ∀ w : World, (binOp .neq 58 (.agg (ltC x)) (.agg (ltC x))).run Try.prog w = .ok (.bool false) w := fun w => run_sameLt x w
      have hki : (k : Int) < (n : Int) := by omega
      have hw := wrapKA (k := k) (by omega)
      have c00 := c0 0 _ rfl; have c01 := c0 1 _ rfl; have c02 := c0 2 _ rfl; have c03 := c0 3 _ rfl; have c04 := c0 4 _ rfl; have c05 := c0 5 _ rfl; have c06 := c0 6 _ rfl; have c07 := c0 7 _ rfl; have c08 := c0 8 _ rfl; have c09 := c0 9 _ rfl; have c10 := c0 10 _ rfl; have c11 := c0 11 _ rfl
      have d00 := d0 0 _ rfl; have d01 := d0 1 _ rfl; have d02 := d0 2 _ rfl; have d03 := d0 3 _ rfl; have d04 := d0 4 _ rfl; have d05 := d0 5 _ rfl; have d06 := d0 6 _ rfl; have d07 := d0 7 _ rfl; have d08 := d0 8 _ rfl; have d09 := d0 9 _ rfl; have d10 := d0 10 _ rfl; have d11 := d0 11 _ rfl
      rw [Nat.add_zero] at c00 d00
      clear hx c0 d0
      go_wp2_with fail
      go_quiet (fail)
      go_wp2_with fail
      go_roundw
      case rel => exact ⟨k + 1, rfl, by omega, _, rfl⟩
      case measure => simp [intOf]; omega
    · have hki : ¬ (k : Int) < (n : Int) := by omega
      go_wp2_with fail
      go_ret
      exact ⟨rfl, below_drewN (Below.refl _ _)⟩
end Aln
end Go.Proofs.Ytgbklmncfajcgaa
