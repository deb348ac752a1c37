/- bits.Len of small numbers; powers of two; the generator of breakPatterns. -/
import Derived.Test.YtgpcbiballdioaaDoorSrtPiv
import Derived.Laws.BitsAllLaws
import Derived.Test.YtgpcbiballdioaaDoorHold
namespace Go.Proofs.YtgpcbiballdioaaDoor
open Go.RowKit
set_option linter.unusedVariables false
set_option maxRecDepth 8000
namespace Srt
/-- The walk stops ahead of the operation that writes slot n. -/
theorem halt_at {P : Program} {ops : Array Oper} {Q : Exit → Act → World → Prop} {o : Oper} {rest : List Oper} {a : Act} {w : World} (n : Nat) (hd : o.dst = some n) (h : Hold (wpList P ops Q (o :: rest) a w)) : wpList P ops Q (o :: rest) a w := h
theorem wpList_index_str {P : Program} {w : World} {ops : Array Oper} {rest : List Oper} {o : Oper} {a : Act} {Q : Exit → Act → World → Prop} (hgd : o.guard = none) (x i : Operand) (t : TypeId) (ho : o.op = .index t x i) (s : ByteArray) (n k : Nat) (kk : IntKind)
    (hx : a.eval x = .string s) (hi : a.eval i = .int kk (k : Int)) (ht : P.underlying t = some .string) (hs : s.size = n) (hk : k < n)
    (h : ∀ z : Nat, z = (s[k]'(hs ▸ hk)).toNat → wpList P ops Q rest (a.put o.dst (.int .u8 (z : Int))) w) : wpList P ops Q (o :: rest) a w := by
  refine wpList_plain hgd fun K hK => ?_
  have hr : (Instr.index t (.string s) (.int kk (k : Int))).run P w = .ok (.int .u8 ((s[k]'(hs ▸ hk)).toNat : Int)) w := by
    rw [run_index_string w t s kk k ht, dif_pos ⟨by omega, by omega⟩]
    rfl
  unfold Oper.wp
  simp [execOp, ho, hx, hi, hr, Result.andThen]
  exact hK _ _ (h _ rfl)
def tb : ByteArray := ⟨(((([0, 1] : List UInt8) ++ (List.replicate 2 2 ++ List.replicate 4 3)) ++ (List.replicate 8 4 ++ List.replicate 16 5)) ++ (List.replicate 32 6 ++ (List.replicate 64 7 ++ List.replicate 128 8))).toArray⟩
theorem tb_size : tb.size = 256 := by kernel_rfl
theorem tb_ok : ∀ k : Fin 101, (tb[k.1]'(by rw [tb_size]; omega)).toNat ≤ 8 ∧ (1 ≤ k.1 → 2 ^ (tb[k.1]'(by rw [tb_size]; omega)).toNat ≤ 2 * k.1) := by decide +kernel
set_option maxRecDepth 100000 in
set_option maxHeartbeats 1000000 in
theorem uLen (x : Nat) (w : World) (hx : x ≤ 100) : ∃ L : Nat, L ≤ 8 ∧ (1 ≤ x → 2 ^ L ≤ 2 * x) ∧ ∀ w : World, Calls Tryd.prog 34 #[.int .u64 x] w fun e w' => e = .returned (.int .i64 (L : Int)) ∧ w' = w := by
  obtain ⟨L, hL⟩ : ∃ L, L = (tb[x]'(by rw [tb_size]; omega)).toNat := ⟨_, rfl⟩
  have hok := tb_ok ⟨x, by omega⟩
  simp only at hok
  rw [← hL] at hok
  refine ⟨L, hok.1, hok.2, fun w => ?_⟩
  have HL := Lib.hid hL
  have h64 : ∀ w : World, Calls Tryd.prog 49 #[.int .u64 x] w fun e w' => e = .returned (.int .i64 (L : Int)) ∧ w' = w := fun w => by
    have b1 : ¬ (4294967296 : Int) ≤ (x : Int) := by omega
    have b2 : ¬ (65536 : Int) ≤ (x : Int) := by omega
    have b3 : ¬ (256 : Int) ≤ (x : Int) := by omega
    have e1 : IntKind.u8.wrap (x : Int) = (x : Int) := by rw [IntKind.wrap_u8]; omega
    have hL8 := hok.1
    clear hok hL
    go_enter Tryd.func49, Tryd.ntmps49
    go_wp2_with (with_reducible refine halt_at 22 rfl ?_)
    refine hold_out ?_
    refine wpList_index_str rfl _ _ _ rfl tb 256 x .u8 (by first | rfl | kernel_rfl) rfl Tryd.underlying9 tb_size (by omega) ?_
    intro z hz
    have ez : z = L := by rw [hz, HL.out]
    clear hz
    subst ez
    simp only [Act.put, List.setIfInBounds_toArray, List.set_cons_zero, List.set_cons_succ]
    have e2 : IntKind.i64.wrap (z : Int) = (z : Int) := by simp [IntKind.wrap, IntKind.bits, IntKind.signed]; omega
    go_wp2_with fail
    go_ret
    exact ⟨by first | rfl | simp, rfl⟩
  have H64 := Lib.hid h64
  have e1 : IntKind.u64.wrap (x : Int) = (x : Int) := by rw [IntKind.wrap_u64]; omega
  clear h64 hok hL
  go_enter Tryd.func34, Tryd.ntmps34
  go_wp2_with fail
  refine (H64.out _).mono ?_
  rintro e w1 ⟨rfl, rfl⟩
  go_wp2_with fail
  go_ret
  exact ⟨rfl, rfl⟩
set_option maxRecDepth 100000 in
set_option maxHeartbeats 1000000 in
theorem uPow (x : Nat) (w : World) (h0 : 1 ≤ x) (hx : x ≤ 100) : ∃ M : Nat, 1 ≤ M ∧ M ≤ 2 * x ∧ ∀ w : World, Calls Tryd.prog 55 #[.int .i64 x] w fun e w' => e = .returned (.int .u64 (M : Int)) ∧ w' = w := by
  obtain ⟨L, h1, h2, h3⟩ := uLen x w hx
  have H3 := Lib.hid h3
  have h2 := h2 h0
  refine ⟨2 ^ L, Nat.one_le_two_pow, h2, fun w => ?_⟩
  have e1 : IntKind.u64.wrap (x : Int) = (x : Int) := by rw [IntKind.wrap_u64]; omega
  have hc : L = 0 ∨ L = 1 ∨ L = 2 ∨ L = 3 ∨ L = 4 ∨ L = 5 ∨ L = 6 ∨ L = 7 ∨ L = 8 := by omega
  clear h3 h2 h1
  rcases hc with rfl | rfl | rfl | rfl | rfl | rfl | rfl | rfl | rfl
  all_goals (
    go_enter Tryd.func55, Tryd.ntmps55
    go_wp2_with fail
    refine (H3.out _).mono ?_
    rintro e w1 ⟨rfl, rfl⟩
    go_wp2_with fail
    go_ret
    exact ⟨by first | rfl | simp, rfl⟩)
theorem xor_any (v : Nat) (y : Int) (hv : v < 18446744073709551616) (h0 : 0 ≤ y) (h1 : y < 18446744073709551616) : ∃ u : Nat, u < 18446744073709551616 ∧ bits .xor .u64 (v : Int) y = (u : Int) := by
  obtain ⟨m, rfl⟩ : ∃ m : Nat, y = m := ⟨y.toNat, by omega⟩
  exact ⟨v ^^^ m, Nat.xor_lt_two_pow (n := 64) hv (by omega), u64_xor_nat v m (by omega) (by omega)⟩
theorem wrap_bd (y : Int) : 0 ≤ IntKind.u64.wrap y ∧ IntKind.u64.wrap y < 18446744073709551616 := by rw [IntKind.wrap_u64]; omega
/-- The generator's cell. -/
structure Gn (r : Nat) (v : Nat) (w : World) : Prop where
  small : v < 18446744073709551616
  cell : w.cell? ⟨r, 0, none⟩ = some (.int .u64 v)
  free : w.frozen? ⟨r, 0, none⟩ = false
theorem Gn.set {r v : Nat} {w : World} (h : Gn r v w) {u : Nat} (hu : u < 18446744073709551616) : Gn r u ((w.setCell ⟨r, 0, none⟩ (.int .u64 u)).drew) :=
  ⟨hu, (World.cell?_setCell_same (h := h.cell) .. : (w.setCell ⟨r, 0, none⟩ (.int .u64 u)).cell? ⟨r, 0, none⟩ = _), (by rw [World.frozen?_setCell]; exact h.free : (w.setCell ⟨r, 0, none⟩ (.int .u64 u)).frozen? ⟨r, 0, none⟩ = false)⟩
set_option maxRecDepth 100000 in
set_option maxHeartbeats 1000000 in
theorem uNext (r v : Nat) (w : World) (h : Gn r v w) :
    Calls Tryd.prog 56 #[.pointer (some ⟨r, 0, none⟩)] w fun e w' => ∃ u : Nat, e = .returned (.int .u64 u) ∧ Gn r u w' ∧ Only r w w' := by
  have hv := h.small
  obtain ⟨v1, b1, e1⟩ := xor_any v (IntKind.u64.wrap ((v : Int) * 8192)) hv (wrap_bd _).1 (wrap_bd _).2
  obtain ⟨v2, b2, e2⟩ := xor_any v1 ((v1 : Int) / 128) b1 (by omega) (by omega)
  obtain ⟨v3, b3, e3⟩ := xor_any v2 (IntKind.u64.wrap ((v2 : Int) * 131072)) b2 (wrap_bd _).1 (wrap_bd _).2
  have hc := h.cell; have hf := h.free
  have G1 := Lib.hid (h.set b1)
  have O1 := Lib.hid (((Only.refl r w).set 0 (.int .u64 v1)).drew)
  clear h
  go_enter Tryd.func56, Tryd.ntmps56
  go_wp2_with fail
  go_region
  obtain ⟨w1, hw1⟩ : ∃ w1, w1 = (w.setCell ⟨r, 0, none⟩ (.int .u64 v1)).drew := ⟨_, rfl⟩
  rw [← hw1] at G1 O1 ⊢
  clear hw1 hc hf
  have hc := G1.out.cell; have hf := G1.out.free
  have G2 := Lib.hid (G1.out.set b2)
  have O2 := Lib.hid ((O1.out.set 0 (.int .u64 v2)).drew)
  go_wp2_with fail
  go_region
  obtain ⟨w2, hw2⟩ : ∃ w2, w2 = (w1.setCell ⟨r, 0, none⟩ (.int .u64 v2)).drew := ⟨_, rfl⟩
  rw [← hw2] at G2 O2 ⊢
  clear hw2 hc hf
  have hc := G2.out.cell; have hf := G2.out.free
  have G3 := Lib.hid (G2.out.set b3)
  have O3 := Lib.hid ((O2.out.set 0 (.int .u64 v3)).drew)
  go_wp2_with fail
  go_region
  obtain ⟨w3, hw3⟩ : ∃ w3, w3 = (w2.setCell ⟨r, 0, none⟩ (.int .u64 v3)).drew := ⟨_, rfl⟩
  rw [← hw3] at G3 O3 ⊢
  clear hw3 hc hf
  have hc := G3.out.cell; have hf := G3.out.free
  go_wp2_with fail
  go_ret
  exact ⟨v3, rfl, G3.out, O3.out⟩
end Srt
end Go.Proofs.YtgpcbiballdioaaDoor
