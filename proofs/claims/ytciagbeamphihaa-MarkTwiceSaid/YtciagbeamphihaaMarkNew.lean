/- The code's New; alive of the law. -/
import Derived.Test.YtciagbeamphihaaMarkCp
import Derived.Laws.MakeOwn
namespace Go.Proofs.Ytciagbeamphihaa
open Go.RowKit
set_option linter.unusedVariables false
set_option maxRecDepth 8000
namespace Wm
theorem made_ic (n : Nat) : (madeCells (Value.agg #[.int .i64 0, .bool false]).cells (n * 2)).toList = ic (List.replicate n ⟨0, false⟩) := by
  have hl : (ic (List.replicate n (⟨0, false⟩ : In))).length = n * 2 := by rw [ic_len, List.length_replicate]
  apply List.ext_getElem?
  intro j
  by_cases hj : j < n * 2
  · have hm : (madeCells (Value.agg #[.int .i64 0, .bool false]).cells (n * 2)).toList[j]? = some (((Value.agg #[.int .i64 0, .bool false]).cells)[j % 2]!) := by
      rw [Array.getElem?_toList, Array.getElem?_eq_getElem (by rw [size_madeCells]; exact hj)]
      simp only [madeCells, Array.getElem_map, Array.getElem_range]
      rfl
    have hx : (List.replicate n (⟨0, false⟩ : In))[j / 2]? = some ⟨0, false⟩ := by rw [List.getElem?_replicate, if_pos (by omega)]
    have hg := fl_get iL (fun _ => rfl) (n := 2) (j := j % 2) hx (by omega)
    rw [show j / 2 * 2 + j % 2 = j by omega] at hg
    rw [hm]
    show _ = (List.flatMap iL (List.replicate n ⟨0, false⟩))[j]?
    rw [hg]
    have : j % 2 = 0 ∨ j % 2 = 1 := by omega
    rcases this with e | e <;> rw [e] <;> rfl
  · rw [List.getElem?_eq_none (by rw [Array.length_toList, size_madeCells]; omega), List.getElem?_eq_none (by omega)]
set_option maxRecDepth 100000 in
set_option maxHeartbeats 1000000 in
theorem ckNew (n : Int) (w : World) : Calls Try.prog 9 #[.int .i64 n] w (GivesM (new n) w) := by
  have hway : (n < 1 ∧ new n = (none_, 1)) ∨ (¬ n < 1 ∧ 8 < n ∧ new n = (none_, 1)) ∨ (¬ n < 1 ∧ ¬ 8 < n) := by
    by_cases h1 : n < 1
    · left; exact ⟨h1, if_neg (by omega)⟩
    · right
      by_cases h2 : 8 < n
      · left; exact ⟨h1, h2, if_neg (by omega)⟩
      · right; exact ⟨h1, h2⟩
  rcases hway with ⟨a1, e⟩ | ⟨a1, a2, e⟩ | ⟨a1, a2⟩
  · rw [e]
    clear e
    go_enter Try.func9, Try.ntmps9
    go_wp2_with fail
    refine newC_ret (o := (none_, 1)) (R := w.heap.size) (A := none) (c := 0) (B := none) (d := 0) rfl rfl rfl ?_ (Has.zero _) (al_below _ _)
    exact Lies.new w _ _
  · rw [e]
    clear e
    go_enter Try.func9, Try.ntmps9
    go_wp2_with fail
    refine newC_ret (o := (none_, 1)) (R := w.heap.size) (A := none) (c := 0) (B := none) (d := 0) rfl rfl rfl ?_ (Has.zero _) (al_below _ _)
    exact Lies.new w _ _
  · obtain ⟨N, rfl⟩ : ∃ N : Nat, n = N := ⟨n.toNat, by omega⟩
    have HO := Lib.hid (show new (N : Int) = (⟨List.replicate N ⟨0, false⟩, [], 0⟩, 0) from if_pos (by omega))
    have hN1 : 1 ≤ N := by omega
    have hN8 : N ≤ 8 := by omega
    obtain ⟨i0, hi, hz0, hz1, hz2⟩ := info_parts inInfo
    obtain ⟨M, hM⟩ : ∃ M, M = madeCells (Value.agg #[.int .i64 0, .bool false]).cells (((N : Nat) : Int).toNat * i0.size) := ⟨_, rfl⟩
    have hMs : M.size = N * 2 := by rw [hM, size_madeCells, hz1]; simp
    have hmk : ∀ W : World, (Instr.makeSlice 22 (.int .i64 (N : Int)) (.int .i64 (N : Int))).run Try.prog W = .ok (.slice (some ⟨W.heap.size, 0, none⟩) N N) (W.alloc (.cells M 42)) := fun W => by
      have h := run_make (P := Try.prog) W 22 42 i0 _ Try.underlying22 hi hz0 .i64 .i64 (N : Int) (N : Int) (by omega) (by omega) (by rw [hz2]; omega) (by omega)
      rw [← hM] at h
      simpa using h
    have HMC := Lib.hid (show M.toList = ic (List.replicate N ⟨0, false⟩) from by rw [hM, hz1, Int.toNat_natCast]; exact made_ic N)
    have HMS := Lib.hid hMs
    clear hM hMs hi hz0 hz1 hz2
    go_enter Try.func9, Try.ntmps9
    go_wp2_with fail
    rw [HO.out]
    have hmc := HMC.out
    have hl : (List.replicate N (⟨0, false⟩ : In)).length = N := List.length_replicate
    obtain ⟨ins, hins⟩ : ∃ ins, ins = List.replicate N (⟨0, false⟩ : In) := ⟨_, rfl⟩
    rw [← hins] at hmc hl ⊢
    clear hins HO HMC HMS hmk
    subst hl
    have hL : Lies w.heap.size (mkC (.slice (some ⟨w.heap.size + 1, 0, none⟩) ins.length ins.length) (.slice none 0 0) 0) 25 ((w.alloc (.cells (mkC (.slice (some ⟨w.heap.size + 1, 0, none⟩) ins.length ins.length) (.slice none 0 0) 0) 25)).alloc (.cells M 42)) := (Lies.new w _ _).al
    have hM : Lies (w.heap.size + 1) M 42 ((w.alloc (.cells (mkC (.slice (some ⟨w.heap.size + 1, 0, none⟩) ins.length ins.length) (.slice none 0 0) 0) 25)).alloc (.cells M 42)) := lies_at (by simp) _ _
    have hI := i0.size
    refine newC_ret (o := (⟨ins, [], 0⟩, 0)) (A := some ⟨w.heap.size + 1, 0, none⟩) (c := ins.length) (B := none) (d := 0) rfl rfl rfl hL ⟨.inr ⟨w.heap.size + 1, 0, rfl, fun j u hu => ?_⟩, Row.nil, Nat.le_refl _, ?_, Nat.le_refl _, by simp [maxLen]⟩ (below_al (al_below _ _))
    · rw [Nat.zero_add]
      refine hM.cell ?_
      rw [← hu, ← hmc, Array.getElem?_toList]
    · show ins.length ≤ maxLen
      unfold maxLen; omega
/-- alive of the law. -/
theorem lawAliveM (w : World) : Calls Try.prog 11 #[] w (TellsB true w) := by
  have HN := Lib.hid (fun w => ckNew 1 w)
  have e : new 1 = (⟨[⟨0, false⟩], [], 0⟩, 0) := rfl
  rw [e] at HN
  clear e
  go_enter Try.func11, Try.ntmps11
  go_wp2_with fail
  refine (HN.out _).mono ?_
  rintro e w1 ⟨A1, c1, B1, d1, rfl, h1, hb1⟩
  have HB1 := Lib.hid hb1
  clear hb1 h1
  go_wp2_with fail
  go_ret
  exact ⟨rfl, below_al HB1.out⟩
end Wm
end Go.Proofs.Ytciagbeamphihaa
