/- slices.Delete of one hold out of a row of the call's own. -/
import Derived.Test.YtciagbeamphihaaMarkIns
import Derived.Deep.DeepAppendRoom
namespace Go.Proofs.Ytciagbeamphihaa
open Go.RowKit
set_option linter.unusedVariables false
set_option maxRecDepth 8000
namespace Wm
theorem setCells_block (g : Nat) : ∀ (vs : List Value) (o : Nat) (w : World) (k : Nat), k ≠ g → (w.setCells g o vs).heap[k]? = w.heap[k]?
  | [], _, _, _, _ => rfl
  | v :: r, o, w, k, hk => (setCells_block g r (o + 1) _ k hk).trans (Below.heap_setCell w ⟨g, o, none⟩ v k hk)
theorem setCells_mine (g : Nat) : ∀ (vs : List Value) (o : Nat) (w : World), Mine (· = g) w (w.setCells g o vs)
  | [], _, w => Mine.refl _ _
  | v :: r, o, w => (Mine.set (M := (· = g)) w (a := ⟨g, o, none⟩) v rfl).trans (setCells_mine g r (o + 1) _)
theorem own_behind {B g n cap : Nat} {e : TypeId} {xs : List Value} : ∀ (vs : List Value) (o : Nat) (w : World), w.ownsRow B e 2 (.slice (some ⟨g, 0, none⟩) n cap) n xs → n * 2 ≤ o → (w.setCells g o vs).ownsRow B e 2 (.slice (some ⟨g, 0, none⟩) n cap) n xs
  | [], _, _, h, _ => h
  | v :: r, o, w, h, ho => by
    have h1 := (h.stored o v).1
    rw [List.set_eq_of_length_le (by rw [h.1]; exact ho)] at h1
    exact own_behind r (o + 1) _ h1 (by omega)
theorem run_clear {P : Program} (w : World) (t e ty : TypeId) (z : Value) (ht : P.underlying t = some (.slice e)) (hv : ∀ w, (zeroValue e).run P w = .ok z w) (hz : z.cells.size = 2) (h1 : ∀ i, i < 2 → (z.cells[i]!).oneCell' = true) (b o n c : Nat) (hn : 0 < n)
    (hc : ∀ j, j < n * 2 → (w.cell? ⟨b, o + j, none⟩).isSome = true) (hf : ∀ j, j < n * 2 → w.frozen? ⟨b, o + j, none⟩ = false) :
    (Builtin.clear_ #[t] ty #[.slice (some ⟨b, o, none⟩) n c]).run P w = .ok (.tuple #[]) (w.setCells b o (Builtin.zeroCells z.cells n).toList) := by
  have hl : (Builtin.zeroCells z.cells n).toList.length = n * 2 := by simp [Builtin.zeroCells, hz]
  have hst := run_storeCells_cells (P := P) b o (Builtin.zeroCells z.cells n).toList 0 w (by rw [hl]; simpa using hc) (by rw [hl]; simpa using hf) (by
    intro v hv'
    simp only [Builtin.zeroCells, Array.toList_map, List.mem_map] at hv'
    obtain ⟨i, _, rfl⟩ := hv'
    rw [hz]
    exact h1 _ (Nat.mod_lt _ (by omega)))
  simp only [Nat.add_zero] at hst
  obtain ⟨m, rfl⟩ : ∃ m, n = m + 1 := ⟨n - 1, by omega⟩
  simp [Builtin.clear_, run_underlying ht, hv, hst]
theorem hoZero (w : World) : (zeroValue 44).run Try.prog w = .ok (.agg #[.int .i64 0, .int .i64 0]) w := by
  obtain ⟨i0, hi0, hz0, hz1, hz2⟩ := info_parts hoInfoC
  simp [zeroValue, typeInfo, hi0, hz0]
/-- The row behind a deletion. -/
def GivesDel (xs : List Ho) (i g c K : Nat) (w : World) (e : Ending) (w' : World) : Prop :=
  e = .returned (.slice (some ⟨g, 0, none⟩) (xs.length - 1) c) ∧ w'.ownsRow K 44 2 (.slice (some ⟨g, 0, none⟩) (xs.length - 1) c) (xs.length - 1) (hc (xs.take i ++ xs.drop (i + 1))) ∧ Mine (· = g) w w'
set_option maxRecDepth 100000 in
set_option maxHeartbeats 4000000 in
theorem ckDelete (xs : List Ho) (g c K i k : Nat) (w : World) (hn : xs.length = k + 1) (ho : w.ownsRow K 44 2 (.slice (some ⟨g, 0, none⟩) (k + 1) c) (k + 1) (hc xs)) (hl : k + 1 ≤ 100000) (hi : i < k + 1) :
    Calls Try.prog 37 #[.slice (some ⟨g, 0, none⟩) (k + 1) c, .int .i64 i, .int .i64 ((i : Int) + 1)] w (GivesDel xs i g c K w) := by
  obtain ⟨_, _, e, hnc, hcm, _⟩ := own_form ho (by omega)
  cases e
  unfold maxLen at hcm
  obtain ⟨i0, hi0, hz0, hzs, hzb⟩ := info_parts hoInfoC
  have hd : (hc (xs.drop (i + 1))).length = (k - i) * 2 := by rw [hc_len, List.length_drop, hn]; omega
  have hless := own_less ho (k := i) (by omega)
  rw [hc_take] at hless
  obtain ⟨q, hq, hsrc⟩ : ∃ q : Addr, (q = if c = i + 1 then ⟨g, 0, none⟩ else ⟨g, (i + 1) * 2, none⟩) ∧ ∀ j v, (hc (xs.drop (i + 1)))[j]? = some v → w.drew.cell? (q.add j) = some v := by
    refine ⟨_, rfl, fun j v hj => ?_⟩
    have hjl := (List.getElem?_eq_some_iff.1 hj).1
    rw [if_neg (by omega), Go.WideShapes.add_plain]
    show w.cell? ⟨g, (i + 1) * 2 + j, none⟩ = some v
    rw [ho.cellAt _ (by omega)]
    rw [← hc_drop, List.getElem?_drop] at hj
    exact hj
  obtain ⟨w1, hr1, ho1, hg1⟩ := run_append_own_spare (P := Try.prog) w.drew K 23 23 44 i0 2 Try.underlying23 hi0 hzs g i c (hc (xs.take i)) hless.drew q (k - i) (c - (i + 1)) (hc (xs.drop (i + 1))) hd hsrc (hc_ones _) (by omega)
  have hik : i + (k - i) = k := by omega
  rw [hik, ← hc_app] at ho1
  rw [hik] at hr1
  obtain ⟨us, hu, ho1m⟩ := own_more ho1 (by omega)
  have hcl : ∀ ty cp, (Builtin.clear_ #[23] ty #[.slice (some ⟨g, k * 2, none⟩) 1 cp]).run Try.prog w1 = .ok (.tuple #[]) (w1.setCells g (k * 2) (Builtin.zeroCells (Value.agg #[.int .i64 0, .int .i64 0]).cells 1).toList) := fun ty cp =>
    run_clear w1 _ _ ty _ Try.underlying23 hoZero rfl (fun i hi => by rcases i with _ | _ | i; rfl; rfl; omega) g (k * 2) 1 cp (by omega)
      (fun j hj => by rw [ho1m.cellAt _ (by omega), Option.isSome_iff_ne_none, ne_eq, List.getElem?_eq_none_iff, ho1m.1]; omega) (fun j hj => ho1m.frozenAt _)
  have HF := Lib.hid (own_behind (Builtin.zeroCells (Value.agg #[.int .i64 0, .int .i64 0]).cells 1).toList (k * 2) w1 ho1 (Nat.le_refl _))
  have HM := Lib.hid (((⟨rfl, rfl, rfl, Nat.le_refl _, fun _ _ _ => rfl⟩ : Mine (· = g) w w.drew).trans ((Mine.grown hg1).sub fun k _ hk => (Option.some.inj hk).symm)).trans (setCells_mine g (Builtin.zeroCells (Value.agg #[.int .i64 0, .int .i64 0]).cells 1).toList (k * 2) w1))
  have HN := Lib.hid hn
  have HR1 := Lib.hid hr1
  have HQ := Lib.hid hq
  have hwi : IntKind.i64.wrap ((i : Int) + 1) = (i : Int) + 1 := wrap64_in (by omega) (by omega)
  have hn1 : ((i : Int) == (i : Int) + 1) = false := ne_b (by omega)
  have htn : ((i : Int) + 1).toNat = i + 1 := by omega
  have hb1 : (0 : Int) ≤ (i : Int) + 1 := by omega
  have hb2 : ¬ (k + 1 = i) := by omega
  have hb3 : ¬ (c = i) := by omega
  have hb4 : ¬ (c = k) := by omega
  have hin : i ≤ k := by omega
  have hbi : (i : Int) ≤ (k : Int) := by omega
  have hic : i ≤ c := by omega
  have hic2 : (i : Int) ≤ (c : Int) := by omega
  have hik1 : i ≤ k + 1 := by omega
  have hik2 : (i : Int) ≤ (k : Int) + 1 := by omega
  clear ho ho1 ho1m hr1 hg1 hless hd hsrc hn hi0 hz0 hzs hzb hu hq hik
  have hway : (c = i + 1 ∧ k = i ∧ q = ⟨g, 0, none⟩) ∨ (¬ c = i + 1 ∧ q = ⟨g, (i + 1) * 2, none⟩) := by
    have e := HQ.out
    by_cases hce : c = i + 1
    · left; exact ⟨hce, by omega, by rw [e, if_pos hce]⟩
    · right; exact ⟨hce, by rw [e, if_neg hce]⟩
  clear HQ
  rcases hway with ⟨rfl, rfl, rfl⟩ | ⟨hce, rfl⟩
  all_goals (
    go_enter Try.func37, Try.ntmps37
    go_wp2_with fail
    refine wide_tail 6 (fun w5 => w5 = w.drew) (by kernel_rfl) (by kernel_rfl) rfl ?_
    simp only [List.take_succ_cons, List.take_zero, List.drop_succ_cons, List.drop_zero]
    repeat (first
    | go_big_quiet_skip
    | (go_big_quiet_want
       apply wide_op
       · (intro w5 h5; go_simp; first | done | with_reducible rfl | exact ⟨rfl, h5⟩)
       (try simp only [Act.put, List.setIfInBounds_toArray, List.set_cons_zero, List.set_cons_succ])
       go_big_quiet_on))
    refine wpQuiet_nil ?_
    intro w4 h4
    subst h4
    refine Lib.wpList_append_run _ rfl _ _ 23 23 rfl _ _ rfl rfl _ _ (by first | exact HR1.out | (have h := HR1.out; simp only [Nat.sub_self] at h; exact h)) ?_
    simp only [Act.put, List.setIfInBounds_toArray, List.set_cons_zero, List.set_cons_succ]
    go_wp2_with fail
    go_ret
    refine ⟨?_, ?_, HM.out⟩
    · rw [HN.out]; rfl
    · rw [HN.out]; exact HF.out)
end Wm
end Go.Proofs.Ytciagbeamphihaa
