/- The fold's word, as the code reads it. -/
import Derived.Test.YtileonenphmkkaaDoorJobCut
import Derived.Test.YtileonenphmkkaaDoorJobRight
namespace Go.Proofs.YtileonenphmkkaaDoor
open Go.RowKit
set_option linter.unusedVariables false
set_option maxRecDepth 8000
namespace Jo
open Gen
def kd (s : List UInt8) : Option Nat :=
  if word s = name 1 then some 1 else if word s = name 2 then some 2 else if word s = name 3 then some 3 else if word s = name 4 then some 4 else if word s = name 5 then some 5 else none
theorem kd_yes {s : List UInt8} {n : Nat} (h1 : 1 ≤ n) (h5 : n ≤ 5) (h : word s = name n) : kd s = some n := by
  have hn : n = 1 ∨ n = 2 ∨ n = 3 ∨ n = 4 ∨ n = 5 := by omega
  unfold kd
  rw [h]
  rcases hn with rfl | rfl | rfl | rfl | rfl <;> decide
theorem kd_no {s : List UInt8} (h : ∀ j, 1 ≤ j → j < 6 → word s ≠ name j) : kd s = none := by
  unfold kd
  rw [if_neg (h 1 (by omega) (by omega)), if_neg (h 2 (by omega) (by omega)), if_neg (h 3 (by omega) (by omega)), if_neg (h 4 (by omega) (by omega)), if_neg (h 5 (by omega) (by omega))]
theorem word_pre (s : List UInt8) : Lib.trimPrefix s (word s) = s.drop (word s).length ∧ Lib.hasPrefix s (word s) = true := by
  have h : Lib.hasPrefix s (word s) = true := by
    unfold Lib.hasPrefix
    rw [List.isPrefixOf_iff_prefix]
    exact List.takeWhile_prefix _
  refine ⟨?_, h⟩
  unfold Lib.trimPrefix
  rw [if_pos h]
/-- A kind handed back; the reader goes on so. -/
def Kinded (b : Nat) (s : List UInt8) (k : Nat) (wr : Bool) (w : World) (e : Ending) (w' : World) : Prop :=
  ∃ n : Nat, n ≤ 5 ∧ e = .returned (.int .i64 (n : Int)) ∧ ((kd s = some n ∧ St b (s.drop (word s).length) k wr w') ∨ (kd s = none ∧ n = 0 ∧ St b s k true w')) ∧ Mine (· = b) w w'
set_option maxHeartbeats 4000000 in
theorem jKind (b : Nat) (s : List UInt8) (k : Nat) (wr : Bool) (w : World) (h : St b s k wr w) (hs : s.length ≤ 140737488355328) :
    Calls Tryd.prog 42 #[.pointer (some ⟨b, 0, none⟩)] w (Kinded b s k wr w) := by
  have HC := Lib.hid (fun w => jCut s hs w)
  have HF := Lib.hid (fun n w => jFold n w)
  have HNm := Lib.hid (fun n hn w => jName n hn w)
  have HS := Lib.hid (fun w h => jSkip b s (word s) k wr w h)
  rw [(word_pre s).1, (word_pre s).2] at HS
  have HY := Lib.hid (fun n h1 h5 h => kd_yes (s := s) (n := n) h1 h5 h)
  have HNo := Lib.hid (kd_no (s := s))
  obtain ⟨l, hl⟩ : ∃ l, l = word s := ⟨_, rfl⟩
  obtain ⟨r, hr⟩ : ∃ r, r = s.drop l.length := ⟨_, rfl⟩
  unfold Kinded
  rw [← hl] at HC HS HY HNo ⊢
  rw [← hr] at HS ⊢
  have H0 := Lib.hid h
  have c0 := h.cells.1
  clear h hl hr hs
  go_enter Tryd.func42, Tryd.ntmps42
  go_wp2_with fail
  refine (HC.out _).mono ?_
  rintro e w1 ⟨z, q, rfl, hb1⟩
  have S1 := Lib.hid (H0.out.below hb1)
  have M1 := Lib.hid (Mine.up (M := (· = b)) hb1)
  clear hb1
  go_wp2_with fail
  go_loopw [6] (fun i wr => wr = w1 ∧ ∃ n : Nat, i = .int .i64 (n : Int) ∧ 1 ≤ n ∧ n ≤ 6 ∧ ∀ j, 1 ≤ j → j < n → l ≠ name j) (fun i _ => 6 - (intOf i).toNat)
  case atStart => exact ⟨rfl, 1, rfl, by omega, by omega, fun j h1 h2 => by omega⟩
  case round =>
    obtain ⟨rfl, n, rfl, h1, h6, hno⟩ := hrel
    have HJ := Lib.hid hno
    clear hno
    by_cases h5 : n ≤ 5
    · have hf : foldOk (n : Int) = true := by unfold foldOk; exact decide_eq_true (by omega)
      have HFn := Lib.hid (fun w => hf ▸ HF.out (n : Int) w)
      clear hf
      go_wp2_with fail
      refine (HFn.out _).mono ?_
      rintro e w2 ⟨rfl, rfl⟩
      go_wp2_with fail
      refine (HNm.out n (by omega) _).mono ?_
      rintro e w2 ⟨rfl, rfl⟩
      by_cases he : l = name n
      · have hq : (l == name n) = true := by rw [he]; simp
        have HE := Lib.hid he
        clear he
        go_wp2_with fail
        refine (HS.out _ S1.out).mono ?_
        rintro e w3 ⟨rfl, s3, m3⟩
        have S3 := Lib.hid s3
        have M3 := Lib.hid (M1.out.trans m3)
        clear s3 m3
        go_wp2_with fail
        go_ret
        refine ⟨n, h5, rfl, .inl ⟨HY.out n h1 h5 HE.out, ?_⟩, M3.out⟩
        simpa using S3.out
      · have hq : (l == name n) = false := by simpa using he
        have HE := Lib.hid he
        have hw : IntKind.i64.wrap ((n : Int) + 1) = ((n + 1 : Nat) : Int) := wrap_k (by omega)
        clear he
        go_wp2_with fail
        go_roundw
        case rel =>
          refine ⟨trivial, n + 1, rfl, by omega, by omega, fun j g1 g2 => ?_⟩
          rcases Nat.lt_succ_iff_lt_or_eq.1 g2 with h | rfl
          · exact HJ.out j g1 h
          · exact HE.out
        case measure => simp [intOf]; omega
    · have hn6 : n = 6 := by omega
      subst hn6
      have HFn := Lib.hid (fun w => (show foldOk (6 : Int) = false by decide) ▸ HF.out (6 : Int) w)
      have d2 := S1.out.free 2
      have e2 := S1.out.cells.2.2
      clear h1 h6 h5
      go_wp2_with fail
      refine (HFn.out _).mono ?_
      rintro e w2 ⟨rfl, rfl⟩
      go_wp2_with fail
      go_ret
      exact ⟨0, by omega, rfl, .inr ⟨HNo.out HJ.out, rfl, S1.out.set2 true⟩, M1.out.trans (Mine.set (M := (· = b)) _ (a := ⟨b, 2, none⟩) _ rfl)⟩
end Jo
end Go.Proofs.YtileonenphmkkaaDoor
