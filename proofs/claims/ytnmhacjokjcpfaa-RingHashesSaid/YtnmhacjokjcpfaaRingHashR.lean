/- Hash of the reference; strconv.Itoa of small numbers. -/
import Derived.Test.YtnmhacjokjcpfaaRingMath
import Derived.Test.YtnmhacjokjcpfaaMem
import Derived.Laws.BitsAllLaws
import Derived.Laws.DeepStrings4
import Derived.Test.YtnmhacjokjcpfaaHold
import Derived.Lib.Strings
import Derived.Lib.SliceRun
namespace Go.Proofs.Ytnmhacjokjcpfaa
open Go.RowKit
set_option linter.unusedVariables false
set_option maxRecDepth 8000
namespace Rg
theorem step_val {g : Nat} (b : UInt8) (hg : g < 4294967296) : (IntKind.u64.wrap (bits .xor .u64 (g : Int) (IntKind.u64.wrap (b.toNat : Int)) * 16777619)).tmod 4294967296 = ((step g b : Nat) : Int) := by
  have hb := b.toNat_lt
  have hx := xor_lt hg b
  have e1 : IntKind.u64.wrap (b.toNat : Int) = (b.toNat : Int) := by rw [IntKind.wrap_u64]; omega
  rw [e1, u64_xor_nat g b.toNat (by omega) (by omega)]
  unfold step
  obtain ⟨x, ex⟩ : ∃ x, x = g ^^^ b.toNat := ⟨_, rfl⟩
  rw [← ex] at hx ⊢
  rw [IntKind.wrap_u64, Int.tmod_eq_emod_of_nonneg (by omega)]
  omega
theorem str_at {s : ByteArray} {k : Nat} (h : k < s.size) : s.data.toList[k]? = some s[k] := by
  rw [Array.getElem?_toList]
  exact Array.getElem?_eq_getElem (xs := s.data) (i := k) h
set_option maxRecDepth 100000 in
set_option maxHeartbeats 1000000 in
theorem rfHash (s : ByteArray) (w : World) (hl : s.size ≤ 9223372036854775807) : Calls Try.prog 8 #[.string s] w fun e w' => e = .returned (.int .u32 (hash s.data.toList : Nat)) ∧ w' = w := by
  obtain ⟨r, hr⟩ : ∃ r, r = hash s.data.toList := ⟨_, rfl⟩
  have HR := Lib.hid hr
  rw [← hr]
  clear hr
  go_enter Try.func8, Try.ntmps8
  go_wp2_with fail
  go_loopw [3, 4] (fun h i wr => ∃ (k g : Nat), i = .int .i64 k ∧ h = .int .u64 (g : Nat) ∧ g = hash (s.data.toList.take k) ∧ k ≤ s.size ∧ wr = w) (fun _ i _ => s.size - (intOf i).toNat)
  case atStart => exact ⟨0, 2166136261, rfl, rfl, rfl, Nat.zero_le _, rfl⟩
  case round =>
    obtain ⟨k, g, rfl, rfl, hg, hk, rfl⟩ := hrel
    have HG := Lib.hid hg
    have hgl : g < 4294967296 := by rw [hg]; exact hash_lt _
    clear hg
    by_cases hlt : k < s.size
    · have HS := Lib.hid (step_val s[k] hgl)
      have HN := Lib.hid (hash_next (str_at hlt))
      go_wp2_with fail
      go_roundw
      case rel => exact ⟨k + 1, step g s[k], by go_num, by rw [HS.out], by rw [HN.out, ← HG.out], by omega, trivial⟩
      case measure => simp [intOf]; omega
    · have hke : s.data.toList.take k = s.data.toList := List.take_of_length_le (by rw [Array.length_toList]; exact Nat.le_of_not_lt hlt)
      have HE := Lib.hid (show g = r by rw [HG.out, hke, HR.out])
      have hge : s.size ≤ k := by omega
      have hw : IntKind.u32.wrap (g : Int) = (g : Int) := by rw [IntKind.wrap_u32]; omega
      clear hke
      go_wp2_with fail
      go_ret
      exact ⟨by rw [HE.out]; rfl, rfl⟩
/-- The walk stops ahead of the operation that writes slot n. -/
theorem stop_at {P : Program} {ops : Array Oper} {Q : Exit → Act → World → Prop} {o : Oper} {rest : List Oper} {a : Act} {w : World} (n : Nat) (hd : o.dst = some n) (h : Hold (wpList P ops Q (o :: rest) a w)) : wpList P ops Q (o :: rest) a w := h
/-- s[i:j] of a string. -/
theorem wpList_slice_str {P : Program} {w : World} {ops : Array Oper} {rest : List Oper} {o : Oper} {a : Act} {Q : Exit → Act → World → Prop} (hgd : o.guard = none) (x lo hi : Operand) (t : TypeId) (ho : o.op = .slice t x (some lo) (some hi) none) (s : ByteArray) (sz : Nat) (i j : Int)
    (hx : a.eval x = .string s) (hlo : a.eval lo = .int .i64 i) (hhi : a.eval hi = .int .i64 j) (ht : P.underlying t = some .string) (hsz : s.size = sz) (h0 : 0 ≤ i) (h1 : i ≤ j) (h2 : j ≤ sz)
    (h : wpList P ops Q rest (a.put o.dst (.string (s.extract i.toNat j.toNat))) w) : wpList P ops Q (o :: rest) a w := by
  refine wpList_plain hgd fun K hK => ?_
  have hr : (Instr.slice t (.string s) (some (.int .i64 i)) (some (.int .i64 j)) none).run P w = .ok (.string (s.extract i.toNat j.toNat)) w := by
    rw [run_slice_string_if (t := t) (s := s) (k := .i64) (k' := .i64) (i := i) (j := j) (h := ht), if_pos ⟨by omega, by omega⟩, if_pos ⟨h0, h1⟩]
  unfold Oper.wp
  have hr2 : (Instr.sliceAt t (.string s) (some (.int .i64 i)) (some (.int .i64 j)) none).run P w = .ok (.string (s.extract i.toNat j.toNat)) w := by
    rw [run_sliceAt_string w t _ _ _ _ ht]; exact hr
  simp [execOp, ho, hx, hlo, hhi, hr2, Result.andThen]
  exact hK _ _ h
theorem ext_len (s : ByteArray) (i j : Nat) : (s.extract i j).size ≤ j - i := by
  rw [ByteArray.size_extract]; omega
def dig : ByteArray := ⟨#[48, 49, 50, 51, 52, 53, 54, 55, 56, 57, 97, 98, 99, 100, 101, 102, 103, 104, 105, 106, 107, 108, 109, 110, 111, 112, 113, 114, 115, 116, 117, 118, 119, 120, 121, 122]⟩
def tab : ByteArray := ⟨((List.range 100).flatMap fun i => [(48 + i / 10).toUInt8, (48 + i % 10).toUInt8]).toArray⟩
end Rg
end Go.Proofs.Ytnmhacjokjcpfaa
