/- fold, small of the reference. -/
import Derived.Test.YtileonenphmkkaaDoorJobRefS
namespace Go.Proofs.YtileonenphmkkaaDoor
open Go.RowKit
set_option linter.unusedVariables false
set_option maxRecDepth 8000
namespace Jo
open Gen
theorem rName (k : Nat) (hk : k ≤ 6) (w : World) : Calls Tryd.prog 22 #[.int .i64 (k : Int)] w fun e w' => e = .returned (strv (name k)) ∧ w' = w := by
  have hway : k = 1 ∨ k = 2 ∨ k = 3 ∨ k = 4 ∨ k = 5 ∨ (k ≠ 1 ∧ k ≠ 2 ∧ k ≠ 3 ∧ k ≠ 4 ∧ k ≠ 5 ∧ name k = []) := by
    by_cases h : k = 0 ∨ k = 6
    · rcases h with rfl | rfl <;> simp [name]
    · omega
  rcases hway with rfl | rfl | rfl | rfl | rfl | ⟨h1, h2, h3, h4, h5, h6⟩
  · go_enter Tryd.func22, Tryd.ntmps22
    go_wp2
    go_ret
    exact ⟨rfl, rfl⟩
  · go_enter Tryd.func22, Tryd.ntmps22
    go_wp2
    go_ret
    exact ⟨rfl, rfl⟩
  · go_enter Tryd.func22, Tryd.ntmps22
    go_wp2
    go_ret
    exact ⟨rfl, rfl⟩
  · go_enter Tryd.func22, Tryd.ntmps22
    go_wp2
    go_ret
    exact ⟨rfl, rfl⟩
  · go_enter Tryd.func22, Tryd.ntmps22
    go_wp2
    go_ret
    exact ⟨rfl, rfl⟩
  · rw [h6]
    have g1 : ((k : Int) == 1) = false := ne_b (by omega)
    have g2 : ((k : Int) == 2) = false := ne_b (by omega)
    have g3 : ((k : Int) == 3) = false := ne_b (by omega)
    have g4 : ((k : Int) == 4) = false := ne_b (by omega)
    have g5 : ((k : Int) == 5) = false := ne_b (by omega)
    clear h1 h2 h3 h4 h5 h6
    go_enter Tryd.func22, Tryd.ntmps22
    go_wp2
    go_ret
    exact ⟨rfl, rfl⟩
theorem rSmall (n : Nat) (w : World) : Calls Tryd.prog 26 #[.int .i64 (n : Int)] w (SaysI (small n) w) := by
  by_cases h : n > 1073741824
  · have h1 : (1073741824 : Int) < n := by omega
    rw [show small n = 1073741824 by unfold small; rw [if_pos h]]
    clear h
    go_enter Tryd.func26, Tryd.ntmps26
    go_wp2
    go_ret
    exact ⟨rfl, rfl⟩
  · have h1 : ¬ (1073741824 : Int) < n := by omega
    rw [show small n = n by unfold small; rw [if_neg h]]
    clear h
    go_enter Tryd.func26, Tryd.ntmps26
    go_wp2
    go_ret
    exact ⟨rfl, rfl⟩
theorem lnF_at {s r : List UInt8} {k : Nat} (h1 : 1 ≤ k) (h5 : k ≤ 5) (h : pre (txF k) s = some r) : lnF s = some (k, r) := by
  rw [pre_once h]
  exact lnF_tx h1 h5 r
theorem lnF_no {s : List UInt8} (h : ∀ j, 1 ≤ j → j < 6 → pre (txF j) s = none) : lnF s = none := by
  unfold lnF
  rw [h 1 (by omega) (by omega), h 2 (by omega) (by omega), h 3 (by omega) (by omega), h 4 (by omega) (by omega), h 5 (by omega) (by omega)]
  rfl
/-- A kind handed back, or none. -/
def FoldR (s : List UInt8) (w : World) (e : Ending) (w' : World) : Prop :=
  w' = w ∧ ((∃ n r, lnF s = some (n, r) ∧ e = .returned (.tuple #[.int .i64 (n : Int), strv r, .bool true])) ∨ (lnF s = none ∧ e = .returned (.tuple #[.int .i64 0, strv s, .bool false])))
theorem name_len (k : Nat) : (name k).length ≤ 8 := by
  unfold name
  split <;> simp
set_option maxHeartbeats 2000000 in
theorem rFoldL (s : List UInt8) (hs : s.length ≤ 140737488355328) (w : World) : Calls Tryd.prog 25 #[strv s] w (FoldR s w) := by
  have HN := Lib.hid (fun k hk w => rName k hk w)
  have HA := Lib.hid (fun t w => rAfter t s hs w)
  have HY := Lib.hid (fun k r h1 h5 h => lnF_at (s := s) (r := r) (k := k) h1 h5 h)
  have HNo := Lib.hid (lnF_no (s := s))
  clear hs
  go_enter Tryd.func25, Tryd.ntmps25
  go_wp2_with fail
  go_loopw [5] (fun i wr => wr = w ∧ ∃ n : Nat, i = .int .i64 (n : Int) ∧ 1 ≤ n ∧ n ≤ 6 ∧ ∀ j, 1 ≤ j → j < n → pre (txF j) s = none) (fun i _ => 6 - (intOf i).toNat)
  case atStart => exact ⟨rfl, 1, rfl, by omega, by omega, fun j h1 h2 => by omega⟩
  case round =>
    obtain ⟨rfl, n, rfl, h1, h6, hno⟩ := hrel
    have HJ := Lib.hid hno
    clear hno
    by_cases h5 : n ≤ 5
    · have g5 : (n : Int) ≤ 5 := by omega
      have hw : IntKind.i64.wrap ((n : Int) + 1) = ((n + 1 : Nat) : Int) := wrap_k (by omega)
      have ha1 : ∀ w, (Op.stringOp .add (⟨#[102, 111, 108, 100, 32]⟩ : ByteArray) (⟨(name n).toArray⟩ : ByteArray)).run Tryd.prog w = .ok (strv (wFold ++ name n)) w := addS wFold (name n) (by have := name_len n; simp; omega)
      have ha2 : ∀ w, (Op.stringOp .add (⟨(wFold ++ name n).toArray⟩ : ByteArray) (⟨#[10]⟩ : ByteArray)).run Tryd.prog w = .ok (strv (txF n)) w := addS (wFold ++ name n) [10] (by have := name_len n; simp; omega)
      obtain ⟨f1, hf1⟩ : ∃ f, f = wFold ++ name n := ⟨_, rfl⟩
      obtain ⟨f2, hf2⟩ : ∃ f, f = txF n := ⟨_, rfl⟩
      rw [← hf1] at ha1 ha2
      rw [← hf2] at ha2
      have HNm := Lib.hid (fun w => HN.out n (by omega) w)
      have HAf := Lib.hid (fun w => HA.out f2 w)
      have HYn := Lib.hid (fun r h => HY.out n r h1 h5 (hf2 ▸ h))
      have HF2 := Lib.hid hf2
      obtain ⟨nm, hnm⟩ : ∃ f, f = name n := ⟨_, rfl⟩
      rw [← hnm] at ha1 HNm
      clear hf1 hf2 hnm
      cases hp : pre f2 s with
      | some r =>
        have HAf := Lib.hid (fun w => show Calls Tryd.prog 44 #[strv s, strv f2] w (fun e w' => e = .returned (.tuple #[strv r, .bool true]) ∧ w' = w) from by have h := HAf.out w; unfold Aft at h; rw [hp] at h; exact h)
        have HP := Lib.hid hp
        clear hp
        go_wp2_with fail
        refine (HNm.out _).mono ?_
        rintro e w2 ⟨rfl, rfl⟩
        go_wp2_with fail
        refine (HAf.out _).mono ?_
        rintro e w2 ⟨rfl, rfl⟩
        go_wp2_with fail
        go_ret3
        exact ⟨rfl, .inl ⟨n, r, HYn.out r HP.out, rfl⟩⟩
      | none =>
        have HAf := Lib.hid (fun w => show Calls Tryd.prog 44 #[strv s, strv f2] w (fun e w' => e = .returned (.tuple #[strv s, .bool false]) ∧ w' = w) from by have h := HAf.out w; unfold Aft at h; rw [hp] at h; exact h)
        have HP := Lib.hid hp
        clear hp
        go_wp2_with fail
        refine (HNm.out _).mono ?_
        rintro e w2 ⟨rfl, rfl⟩
        go_wp2_with fail
        refine (HAf.out _).mono ?_
        rintro e w2 ⟨rfl, rfl⟩
        go_wp2_with fail
        go_roundw
        case rel =>
          refine ⟨trivial, n + 1, rfl, by omega, by omega, fun j g1 g2 => ?_⟩
          rcases Nat.lt_succ_iff_lt_or_eq.1 g2 with h | rfl
          · exact HJ.out j g1 h
          · rw [← HF2.out]; exact HP.out
        case measure => simp [intOf]; omega
    · have hn6 : n = 6 := by omega
      subst hn6
      clear h1 h6 h5
      go_wp2_with fail
      go_ret3
      exact ⟨rfl, .inr ⟨HNo.out HJ.out, rfl⟩⟩
theorem lnN1_none {wd s : List UInt8} (h : lnN wd 1 s = none) : ln1 wd s = none := by
  rw [lnN_one] at h
  cases h2 : ln1 wd s with
  | none => rfl
  | some q => rw [h2] at h; cases h
theorem lnN1_some {wd s t : List UInt8} {ns : List Int} (h : lnN wd 1 s = some (ns, t)) : ∃ n : Nat, ln1 wd s = some (n, t) ∧ ns = [(n : Int)] := by
  rw [lnN_one] at h
  cases h2 : ln1 wd s with
  | none => rw [h2] at h; cases h
  | some q =>
    rw [h2] at h
    simp only [Option.map_some, Option.some.injEq, Prod.mk.injEq] at h
    exact ⟨q.1, by rw [← h.2], h.1.symm⟩
theorem lnN2_none {wd s : List UInt8} (h : lnN wd 2 s = none) : ln2 wd s = none := by
  rw [lnN_two] at h
  cases h2 : ln2 wd s with
  | none => rfl
  | some q => rw [h2] at h; cases h
theorem lnN2_some {wd s t : List UInt8} {ns : List Int} (h : lnN wd 2 s = some (ns, t)) : ∃ n m : Nat, ln2 wd s = some (n, m, t) ∧ ns = [(n : Int), (m : Int)] := by
  rw [lnN_two] at h
  cases h2 : ln2 wd s with
  | none => rw [h2] at h; cases h
  | some q =>
    rw [h2] at h
    simp only [Option.map_some, Option.some.injEq, Prod.mk.injEq] at h
    exact ⟨q.1, q.2.1, by rw [← h.2], h.1.symm⟩
theorem ln1_len {wd s r : List UInt8} {n : Nat} (h : ln1 wd s = some (n, r)) : r.length ≤ s.length := by
  rw [(ln1_once h).1, List.length_append]; omega
theorem ln2_len {wd s r : List UInt8} {n m : Nat} (h : ln2 wd s = some (n, m, r)) : r.length ≤ s.length := by
  rw [(ln2_once h).1, List.length_append]; omega
theorem lnF_len {s r : List UInt8} {n : Nat} (h : lnF s = some (n, r)) : r.length ≤ s.length := by
  rw [(lnF_once h).1, List.length_append]; omega
end Jo
end Go.Proofs.YtileonenphmkkaaDoor
