/- Items, events and results compared as whole structs. -/
import Derived.Test.YtmkbdlailffjeaaItemMath
import Derived.Test.YtmkbdlailffjeaaMem
import Derived.Laws.StructEq
namespace Go.Proofs.Ytmkbdlailffjeaa
open Go.RowKit
open Itm
set_option linter.unusedVariables false
set_option maxRecDepth 8000
theorem fields_ev : Try.prog.underlying 63 = some (.struct (Try.prog.fieldsOf 63)) := by kernel_rfl
theorem fields_win : Try.prog.underlying 27 = some (.struct (Try.prog.fieldsOf 27)) := by kernel_rfl
theorem fields_res : Try.prog.underlying 29 = some (.struct (Try.prog.fieldsOf 29)) := by kernel_rfl
theorem fields_it : Try.prog.underlying 65 = some (.struct (Try.prog.fieldsOf 65)) := by kernel_rfl
theorem stood_ev : Try.prog.stoodInHeld 63 = false := by kernel_rfl
theorem stood_win : Try.prog.stoodInHeld 27 = false := by kernel_rfl
theorem stood_res : Try.prog.stoodInHeld 29 = false := by kernel_rfl
theorem stood_it : Try.prog.stoodInHeld 65 = false := by kernel_rfl
theorem run_eqE (d : Nat) (k k' : ByteArray) (a v a' v' : Int) (w : World) : (Op.equalIn (d + 2) 63 (evV k a v) (evV k' a' v')).run Try.prog w = .ok (eqE k k' a v a' v') w := by
  have h1 := Try.underlying9
  have h2 := Try.underlying2
  rw [run_equalIn_agg w _ _ _ _ fields_ev stood_ev]
  simp [Program.fieldsOf, Try.underlying63, Op.eqFields, part, isAgg, run_underlying h1, run_underlying h2, run_equalIn_int w d _ .i64 .i64 _ _ h2, run_equalIn_string w d _ _ _ h1]
  unfold eqE eqS
  by_cases g1 : k.toList = k'.toList <;> by_cases g2 : a = a' <;> by_cases g3 : v = v' <;> simp [g1, g2, g3]
theorem run_eqW (d : Nat) (lo hi lo' hi' : Int) (w : World) : (Op.equalIn (d + 2) 27 (.agg #[.int .i64 lo, .int .i64 hi]) (.agg #[.int .i64 lo', .int .i64 hi'])).run Try.prog w = .ok ((lo == lo') && (hi == hi')) w := by
  have h2 := Try.underlying2
  rw [run_equalIn_agg w _ _ _ _ fields_win stood_win]
  simp [Program.fieldsOf, Try.underlying27, Op.eqFields, part, isAgg, run_underlying h2, run_equalIn_int w d _ .i64 .i64 _ _ h2]
  by_cases g1 : lo = lo' <;> by_cases g2 : hi = hi' <;> simp [g1, g2]
theorem size_win : (Try.prog.info? 27).map (·.size) = some 2 := by kernel_rfl
theorem size_ev : (Try.prog.info? 63).map (·.size) = some 3 := by kernel_rfl
theorem size_res : (Try.prog.info? 29).map (·.size) = some 5 := by kernel_rfl
theorem run_eqR (d : Nat) (k k' : ByteArray) (lo hi n v lo' hi' n' v' : Int) (w : World) : (Op.equalIn (d + 3) 29 (resV lo hi k n v) (resV lo' hi' k' n' v')).run Try.prog w = .ok (eqR k k' lo hi n v lo' hi' n' v') w := by
  have h1 := Try.underlying9
  have h2 := Try.underlying2
  obtain ⟨i0, hi0, hs0⟩ := Option.map_eq_some_iff.1 size_win
  have hsz : ∀ w, (sizeOf 27).run Try.prog w = .ok 2 w := fun w => by simp [sizeOf, typeInfo, hi0, hs0]
  have hW := run_eqW d lo hi lo' hi' w
  rw [run_equalIn_agg w _ _ _ _ fields_res stood_res]
  simp [Program.fieldsOf, Try.underlying29, Op.eqFields, part, isAgg, run_underlying h1, run_underlying h2, run_underlying Try.underlying27, hsz, hW, run_equalIn_int w (d + 1) _ .i64 .i64 _ _ h2, run_equalIn_string w (d + 1) _ _ _ h1]
  unfold eqR eqS
  by_cases g1 : k.toList = k'.toList <;> by_cases g2 : lo = lo' <;> by_cases g3 : hi = hi' <;> by_cases g4 : n = n' <;> by_cases g5 : v = v' <;> simp [g1, g2, g3, g4, g5]
theorem run_eqIt (a b : It) (w : World) : (binOp .eql 65 (itV a) (itV b)).run Try.prog w = .ok (.bool (eqI a b)) w := by
  have h2 := Try.underlying2
  have h3 := Try.underlying3
  obtain ⟨i0, hi0, hs0⟩ := Option.map_eq_some_iff.1 size_ev
  obtain ⟨i1, hi1, hs1⟩ := Option.map_eq_some_iff.1 size_res
  have hszE : ∀ w, (sizeOf 63).run Try.prog w = .ok 3 w := fun w => by simp [sizeOf, typeInfo, hi0, hs0]
  have hszR : ∀ w, (sizeOf 29).run Try.prog w = .ok 5 w := fun w => by simp [sizeOf, typeInfo, hi1, hs1]
  have hE := run_eqE 9997 a.ek b.ek a.ea a.ev b.ea b.ev w
  have hR := run_eqR 9996 a.rk b.rk a.lo a.hi a.rn a.rv b.lo b.hi b.rn b.rv w
  rw [run_eql_struct, show (10000 : Nat) = 9999 + 1 from rfl, run_equalIn_agg w _ _ _ _ fields_it stood_it]
  simp [Program.fieldsOf, Try.underlying65, Op.eqFields, part, isAgg, run_underlying h2, run_underlying h3, run_underlying Try.underlying63, run_underlying Try.underlying29, hszE, hszR, hE, hR, run_equalIn_int w 9998 _ .i64 .i64 _ _ h2, run_equalIn_int w 9998 _ .i64 .i64 _ _ h3]
  unfold eqI
  by_cases g1 : a.k = b.k <;> by_cases g2 : a.m = b.m <;> by_cases g3 : a.n = b.n <;> cases eqE a.ek b.ek a.ea a.ev b.ea b.ev <;> cases eqR a.rk b.rk a.lo a.hi a.rn a.rv b.lo b.hi b.rn b.rv <;> simp [g1, g2, g3]
theorem run_neE (k k' : ByteArray) (a v a' v' : Int) (w : World) : (binOp .neq 63 (evV k a v) (evV k' a' v')).run Try.prog w = .ok (.bool (!eqE k k' a v a' v')) w := by
  rw [run_neq_struct, show (10000 : Nat) = 9998 + 2 from rfl, run_eqE]; rfl
theorem run_neR (k k' : ByteArray) (lo hi n v lo' hi' n' v' : Int) (w : World) : (binOp .neq 29 (resV lo hi k n v) (resV lo' hi' k' n' v')).run Try.prog w = .ok (.bool (!eqR k k' lo hi n v lo' hi' n' v')) w := by
  rw [run_neq_struct, show (10000 : Nat) = 9997 + 3 from rfl, run_eqR]; rfl
end Go.Proofs.Ytmkbdlailffjeaa
