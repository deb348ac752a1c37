/- Hash of the reference; strconv.Itoa of small numbers. -/
import Derived.Test.YtgpcbiballdioaaDoorRingMath
import Derived.Test.YtgpcbiballdioaaDoorMem
import Derived.Laws.BitsAllLaws
import Derived.Laws.DeepStrings4
import Derived.Test.YtgpcbiballdioaaDoorHold
import Derived.Lib.Strings
import Derived.Lib.SliceRun
namespace Go.Proofs.YtgpcbiballdioaaDoor
open Go.RowKit
set_option linter.unusedVariables false
set_option maxRecDepth 8000
namespace Rg
theorem step_val {g : Nat} (b : UInt8) (hg : g < 4294967296) : (IntKind.u64.wrap (bits .xor .u64 (g : Int) (IntKind.u64.wrap (b.toNat : Int)) * 16777619)).tmod 4294967296 = ((step g b : Nat) : Int) := by
  have hb := b.toNat_lt
  have hx := xor_lt hg b
  have e1 : IntKind.u64.wrap (b.toNat : Int) = (b.toNat : Int) := by rw [IntKind.wrap_u64]; omega
  rw [e1, u64_xor_nat g b.toNat (by omega) (by omega)]
  unfold step
  obtain ⟨x, ex⟩ : ∃ x, x = g ^^^ b.toNat := ⟨_, rfl⟩
  rw [← ex] at hx ⊢
  rw [IntKind.wrap_u64, Int.tmod_eq_emod_of_nonneg (by omega)]
  omega
theorem str_at {s : ByteArray} {k : Nat} (h : k < s.size) : s.data.toList[k]? = some s[k] := by
  rw [Array.getElem?_toList]
  exact Array.getElem?_eq_getElem (xs := s.data) (i := k) h
set_option maxRecDepth 100000 in
set_option maxHeartbeats 1000000 in
theorem rfHash (s : ByteArray) (w : World) (hl : s.size ≤ 9223372036854775807) : Calls Tryd.prog 26 #[.string s] w fun e w' => e = .returned (.int .u32 (hash s.data.toList : Nat)) ∧ w' = w := by
  obtain ⟨r, hr⟩ : ∃ r, r = hash s.data.toList := ⟨_, rfl⟩
  have HR := Lib.hid hr
  rw [← hr]
  clear hr
  go_enter Tryd.func26, Tryd.ntmps26
  go_wp2_with fail
  go_loopw [3, 4] (fun h i wr => ∃ (k g : Nat), i = .int .i64 k ∧ h = .int .u64 (g : Nat) ∧ g = hash (s.data.toList.take k) ∧ k ≤ s.size ∧ wr = w) (fun _ i _ => s.size - (intOf i).toNat)
  case atStart => exact ⟨0, 2166136261, rfl, rfl, rfl, Nat.zero_le _, rfl⟩
  case round =>
    obtain ⟨k, g, rfl, rfl, hg, hk, rfl⟩ := hrel
    have HG := Lib.hid hg
    have hgl : g < 4294967296 := by rw [hg]; exact hash_lt _
    clear hg
    by_cases hlt : k < s.size
    · have HS := Lib.hid (step_val s[k] hgl)
      have HN := Lib.hid (hash_next (str_at hlt))
      go_wp2_with fail
      go_roundw
      case rel => exact ⟨k + 1, step g s[k], by go_num, by rw [HS.out], by rw [HN.out, ← HG.out], by omega, trivial⟩
      case measure => simp [intOf]; omega
    · have hke : s.data.toList.take k = s.data.toList := List.take_of_length_le (by rw [Array.length_toList]; exact Nat.le_of_not_lt hlt)
      have HE := Lib.hid (show g = r by rw [HG.out, hke, HR.out])
      have hge : s.size ≤ k := by omega
      have hw : IntKind.u32.wrap (g : Int) = (g : Int) := by rw [IntKind.wrap_u32]; omega
      clear hke
      go_wp2_with fail
      go_ret
      exact ⟨by rw [HE.out]; rfl, rfl⟩
/-- The walk stops ahead of the operation that writes slot n. -/
theorem stop_at {P : Program} {ops : Array Oper} {Q : Exit → Act → World → Prop} {o : Oper} {rest : List Oper} {a : Act} {w : World} (n : Nat) (hd : o.dst = some n) (h : Hold (wpList P ops Q (o :: rest) a w)) : wpList P ops Q (o :: rest) a w := h
/-- s[i:j] of a string. -/
theorem wpList_slice_str {P : Program} {w : World} {ops : Array Oper} {rest : List Oper} {o : Oper} {a : Act} {Q : Exit → Act → World → Prop} (hgd : o.guard = none) (x lo hi : Operand) (t : TypeId) (ho : o.op = .slice t x (some lo) (some hi) none) (s : ByteArray) (sz : Nat) (i j : Int)
    (hx : a.eval x = .string s) (hlo : a.eval lo = .int .i64 i) (hhi : a.eval hi = .int .i64 j) (ht : P.underlying t = some .string) (hsz : s.size = sz) (h0 : 0 ≤ i) (h1 : i ≤ j) (h2 : j ≤ sz)
    (h : wpList P ops Q rest (a.put o.dst (.string (s.extract i.toNat j.toNat))) w) : wpList P ops Q (o :: rest) a w := by
  refine wpList_plain hgd fun K hK => ?_
  have hr : (Instr.slice t (.string s) (some (.int .i64 i)) (some (.int .i64 j)) none).run P w = .ok (.string (s.extract i.toNat j.toNat)) w := by
    rw [run_slice_string_if (t := t) (s := s) (k := .i64) (k' := .i64) (i := i) (j := j) (h := ht), if_pos ⟨by omega, by omega⟩, if_pos ⟨h0, h1⟩]
  unfold Oper.wp
  have hr2 : (Instr.sliceAt t (.string s) (some (.int .i64 i)) (some (.int .i64 j)) none).run P w = .ok (.string (s.extract i.toNat j.toNat)) w := by
    rw [run_sliceAt_string w t _ _ _ _ ht]; exact hr
  simp [execOp, ho, hx, hlo, hhi, hr2, Result.andThen]
  exact hK _ _ h
theorem ext_len (s : ByteArray) (i j : Nat) : (s.extract i j).size ≤ j - i := by
  rw [ByteArray.size_extract]; omega
def dig : ByteArray := ⟨#[48, 49, 50, 51, 52, 53, 54, 55, 56, 57, 97, 98, 99, 100, 101, 102, 103, 104, 105, 106, 107, 108, 109, 110, 111, 112, 113, 114, 115, 116, 117, 118, 119, 120, 121, 122]⟩
def tab : ByteArray := ⟨((List.range 100).flatMap fun i => [(48 + i / 10).toUInt8, (48 + i % 10).toUInt8]).toArray⟩
theorem itSmall (n : Nat) (h : n < 100) : ∃ r : ByteArray, r.size ≤ 2 ∧ ∀ w : World, Calls Tryd.prog 35 #[.int .i64 n] w fun e w' => e = .returned (.string r) ∧ w' = w := by
  by_cases h10 : n < 10
  · have e1 : (n : Int) < 10 := by omega
    refine ⟨dig.extract n (n + 1), Nat.le_trans (ext_len _ _ _) (by omega), fun w => ?_⟩
    · go_enter Tryd.func35, Tryd.ntmps35
      go_wp2_with (with_reducible refine stop_at 8 rfl ?_)
      refine hold_out ?_
      refine wpList_slice_str rfl _ _ _ _ rfl dig 36 n ((n : Int) + 1) (by first | rfl | kernel_rfl) rfl rfl Tryd.underlying9 (by kernel_rfl) (by omega) (by omega) (by omega) ?_
      simp only [Act.put, List.setIfInBounds_toArray, List.set_cons_zero, List.set_cons_succ]
      go_wp2_with fail
      go_ret
      refine ⟨?_, rfl⟩
      first | rfl | (congr 2; omega) | (simp; done)
  · have e1 : ¬ (n : Int) < 10 := by omega
    refine ⟨tab.extract (n * 2) (n * 2 + 2), Nat.le_trans (ext_len _ _ _) (by omega), fun w => ?_⟩
    · go_enter Tryd.func35, Tryd.ntmps35
      go_wp2_with (with_reducible refine stop_at 14 rfl ?_)
      refine hold_out ?_
      refine wpList_slice_str rfl _ _ _ _ rfl tab 200 ((n : Int) * 2) ((n : Int) * 2 + 2) (by first | rfl | kernel_rfl) rfl rfl Tryd.underlying9 (by kernel_rfl) (by omega) (by omega) (by omega) ?_
      simp only [Act.put, List.setIfInBounds_toArray, List.set_cons_zero, List.set_cons_succ]
      go_wp2_with fail
      go_ret
      refine ⟨?_, rfl⟩
      first | rfl | (congr 2; omega) | (simp; done)
/-- A small number's digits, as strconv has them. -/
noncomputable def dec (n : Nat) : ByteArray := if h : n < 100 then Classical.choose (itSmall n h) else ⟨#[]⟩
theorem dec_spec {n : Nat} (h : n < 100) : (dec n).size ≤ 2 ∧ ∀ w : World, Calls Tryd.prog 35 #[.int .i64 n] w fun e w' => e = .returned (.string (dec n)) ∧ w' = w := by
  have e : dec n = Classical.choose (itSmall n h) := dif_pos h
  rw [e]
  exact Classical.choose_spec (itSmall n h)
theorem itFormat {n : Nat} (h : n < 100) (w : World) : Calls Tryd.prog 31 #[.int .i64 n, .int .i64 10] w fun e w' => e = .returned (.string (dec n)) ∧ w' = w := by
  have HS := Lib.hid (dec_spec h).2
  obtain ⟨r, hr⟩ : ∃ r, r = dec n := ⟨_, rfl⟩
  rw [← hr] at HS ⊢
  have e1 : (0 : Int) ≤ n := by omega
  have e2 : (n : Int) < 100 := by omega
  clear hr
  go_enter Tryd.func31, Tryd.ntmps31
  go_wp2_with fail
  refine (HS.out _).mono ?_
  rintro e w1 ⟨rfl, rfl⟩
  go_wp2_with fail
  go_ret
  exact ⟨rfl, rfl⟩
theorem itItoa {n : Nat} (h : n < 100) (w : World) : Calls Tryd.prog 22 #[.int .i64 n] w fun e w' => e = .returned (.string (dec n)) ∧ w' = w := by
  have HF := Lib.hid (fun w => itFormat h w)
  obtain ⟨r, hr⟩ : ∃ r, r = dec n := ⟨_, rfl⟩
  rw [← hr] at HF ⊢
  clear hr
  have HI : ∀ w : World, Calls Tryd.prog 27 #[.int .i64 n] w fun e w' => e = .returned (.string r) ∧ w' = w := fun w => by
    go_enter Tryd.func27, Tryd.ntmps27
    go_wp2_with fail
    refine (HF.out _).mono ?_
    rintro e w1 ⟨rfl, rfl⟩
    go_wp2_with fail
    go_ret
    exact ⟨rfl, rfl⟩
  have HI2 := Lib.hid HI
  clear HI
  go_enter Tryd.func22, Tryd.ntmps22
  go_wp2_with fail
  refine (HI2.out _).mono ?_
  rintro e w1 ⟨rfl, rfl⟩
  go_wp2_with fail
  go_ret
  exact ⟨rfl, rfl⟩
end Rg
end Go.Proofs.YtgpcbiballdioaaDoor
