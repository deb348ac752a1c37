/- Aligners: rows of items, rows of such rows; the reference's LikeItems, Right. -/
import Derived.Test.YtgbklmncfajcgaaItemOkRef
import Derived.Test.YtgbklmncfajcgaaGen
import Derived.Test.YtgbklmncfajcgaaStill
import Derived.Test.YtgbklmncfajcgaaWide
import Derived.Laws.StructEq
import Derived.Deep.RegionHeld3
import Derived.BigQuiet
import Derived.LoopTactic
import Derived.Deep.Cut
import Derived.Deep.CutBlock
namespace Go.Proofs.Ytgbklmncfajcgaa
open Go.ChangeShapes Go.WideShapes Go.ChangeAt Go.RowKit
set_option linter.unusedVariables false
set_option maxRecDepth 8000
namespace Aln
open Gen (TellsB row_one flat_len flat_get)
open Itm
instance : Inhabited It := ⟨bare 0⟩
abbrev itL (a : It) : List Value := (itC a).toList
abbrev itc (l : List It) : List Value := l.flatMap itL
theorem itL_len (a : It) : (itL a).length = 11 := rfl
theorem item_row {w : World} {A : Option Addr} {l : List It} (h : Row w A (itc l)) {k : Nat} {x : It} (hk : l[k]? = some x) :
    ∃ q off, A = some ⟨q, off, none⟩ ∧ ∀ (j : Nat) (u : Value), (itL x)[j]? = some u → w.cell? ⟨q, off + k * 11 + j, none⟩ = some u :=
  row_one itL_len (by omega) h hk
theorem wrapA {n : Int} (h1 : -9223372036854775808 ≤ n) (h2 : n ≤ 9223372036854775807) : IntKind.i64.wrap n = n := by
  simp [IntKind.wrap, IntKind.bits, IntKind.signed]; omega
theorem wrapKA {k : Nat} (h : k < 9223372036854775807) : IntKind.i64.wrap ((k : Int) + 1) = ((k + 1 : Nat) : Int) := by rw [wrapA (by omega) (by omega)]; rfl
theorem eqI_same (a : It) : eqI a a = true := by simp [eqI, eqE, eqR, eqS]
theorem run_sameIt (a : It) (w : World) : (binOp .neq 42 (itV a) (itV a)).run Try.prog w = .ok (.bool false) w := by
  have h := run_eqIt a a w
  rw [eqI_same] at h
  rw [run_eql_struct] at h
  rw [run_neq_struct]
  revert h
  generalize (Op.equalIn 10000 42 (itV a) (itV a)).run Try.prog w = r
  intro h
  cases r <;> simp_all
set_option maxHeartbeats 1000000 in
/-- The same items in two rows. -/
theorem rfLikeItems (l : List It) (n : Nat) (hn : n = l.length) (hl : n ≤ 100000) (A A' : Option Addr) (c c' : Nat) (w : World) (hA : Row w A (itc l)) (hA' : Row w A' (itc l)) :
    Calls Try.prog 23 #[.slice A n c, .slice A' n c'] w (TellsB true w) := by
  have HR := Lib.hid hA
  have HR' := Lib.hid hA'
  have HN := Lib.hid hn
  clear hA hA' hn
  go_enter Try.func23, Try.ntmps23
  go_wp2_with fail
  go_loopw [13] (fun i wr => ∃ k : Nat, i = .int .i64 k ∧ k ≤ n ∧ ∃ m, wr = w.drewN m) (fun i _ => n - (intOf i).toNat)
  case atStart => exact ⟨0, rfl, Nat.zero_le _, 0, rfl⟩
  case round =>
    obtain ⟨k, rfl, hk, m, rfl⟩ := hrel
    by_cases hlt : k < n
    · obtain ⟨x, hx⟩ : ∃ x, l[k]? = some x := ⟨_, List.getElem?_eq_getElem (by have := HN.out; omega)⟩
      obtain ⟨b, off, rfl, c0⟩ := item_row HR.out hx
      obtain ⟨b', off', rfl, d0⟩ := item_row HR'.out hx
      have he : ∀ w : World, (binOp .neq 42 (itV x) (itV x)).run Try.prog w = .ok (.bool false) w := fun w => run_sameIt x w
      have hki : (k : Int) < (n : Int) := by omega
      have hw := wrapKA (k := k) (by omega)
      have c00 := c0 0 _ rfl; have c01 := c0 1 _ rfl; have c02 := c0 2 _ rfl; have c03 := c0 3 _ rfl; have c04 := c0 4 _ rfl; have c05 := c0 5 _ rfl; have c06 := c0 6 _ rfl; have c07 := c0 7 _ rfl; have c08 := c0 8 _ rfl; have c09 := c0 9 _ rfl; have c10 := c0 10 _ rfl
      have d00 := d0 0 _ rfl; have d01 := d0 1 _ rfl; have d02 := d0 2 _ rfl; have d03 := d0 3 _ rfl; have d04 := d0 4 _ rfl; have d05 := d0 5 _ rfl; have d06 := d0 6 _ rfl; have d07 := d0 7 _ rfl; have d08 := d0 8 _ rfl; have d09 := d0 9 _ rfl; have d10 := d0 10 _ rfl
      rw [Nat.add_zero] at c00 d00
      clear hx c0 d0
      go_wp2_with fail
      go_quiet (fail)
      go_wp2_with fail
      go_roundw
      case rel => exact ⟨k + 1, rfl, by omega, _, rfl⟩
      case measure => simp [intOf]; omega
    · have hki : ¬ (k : Int) < (n : Int) := by omega
      go_wp2_with fail
      go_ret
      exact ⟨rfl, below_drewN (Below.refl _ _)⟩
end Aln
end Go.Proofs.Ytgbklmncfajcgaa
