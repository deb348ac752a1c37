/- slices.Clone and slices.Delete of bodies. -/
import Derived.Test.YtbdlmokgmgpbfaaLinkBld
import Derived.Test.YtbdlmokgmgpbfaaHold
import Derived.Test.YtbdlmokgmgpbfaaWide
import Derived.Lib.SliceRun
import Derived.Deep.DeepAppendRoom
import Derived.Laws.OwnMore
import Derived.Lib.AppendZeros
namespace Go.Proofs.Ytbdlmokgmgpbfaa
open Go.ChangeShapes Go.WideShapes Go.ChangeAt Go.RowKit
set_option linter.unusedVariables false
set_option maxRecDepth 8000
namespace Lk
open Gen (TellsB Mine)
/-- Hands back a row of strings of its own. -/
def GivesOB (n : Nat) (bs : List ByteArray) (w : World) (e : Ending) (w' : World) : Prop :=
  ∃ A c, e = .returned (.slice A n c) ∧ w'.ownsRow w.heap.size 9 1 (.slice A n c) n (bcs bs) ∧ Below w.heap.size w w'
set_option maxHeartbeats 1000000 in
theorem ckClone (bs : List ByteArray) (n : Nat) (hn : n = bs.length) (A : Option Addr) (c : Nat) (w : World) (hA : Row w A (bcs bs)) (hl : n ≤ 100000) :
    Calls Try.prog 40 #[.slice A n c] w (GivesOB n bs w) := by
  rcases A with _ | ⟨b, off, sp⟩
  · have e : bs = [] := by
      rcases hA with h | ⟨_, _, h, _⟩
      · have := bcs_len bs; rw [h] at this; exact List.eq_nil_of_length_eq_zero (by simp at this; omega)
      · cases h
    subst e
    have e0 : n = 0 := hn
    subst e0
    clear hA hn
    have q : ∀ (w : World) (n c n' c' : Nat), (binOp .eql 22 (.slice none n c) (.slice none n' c')).run Try.prog w = .ok (.bool true) w := fun w n c n' c' => Lib.run_eql_slice_nil w _ _ none n c n' c' Try.underlying22
    go_enter Try.func40, Try.ntmps40
    go_wp2_with fail
    go_ret
    exact ⟨none, 0, rfl, own_none, Below.refl _ _⟩
  · have HA := Lib.hid hA
    have HN := Lib.hid hn
    have q : ∀ (w : World) (n c n' c' : Nat), (binOp .eql 22 (.slice (some ⟨b, off, sp⟩) n c) (.slice none n' c')).run Try.prog w = .ok (.bool false) w := fun w n c n' c' => Lib.run_eql_slice_nil w _ _ (some _) n c n' c' Try.underlying22
    clear hA hn
    go_enter Try.func40, Try.ntmps40
    go_wp2_with (at_builtin; refine hold_mk ?_)
    refine hold_out ?_
    refine wpPushB (w0 := w) rfl _ _ rfl (.slice (some ⟨w.heap.size, 0, none⟩) 0 0) [] rfl ⟨own_new (Nat.le_refl _), below_al (Below.refl _ _)⟩ _ n c bs rfl (HA.out.below (below_al (Below.refl _ _))) HN.out (by have := HN.out; simp; omega) ?_
    intro v2 w2 hB _ _
    have HOW := Lib.hid hB
    clear hB
    go_wp2_with fail
    go_ret
    have ho := HOW.out.own
    rw [List.nil_append, ← HN.out] at ho
    obtain ⟨A', c', e', _⟩ := own_form ho (by omega)
    subst e'
    exact ⟨A', c', rfl, ho, HOW.out.below⟩
theorem own_room {w : World} {B g n cap : Nat} {e : TypeId} {xs : List Value} (h : w.ownsRow B e 1 (.slice (some ⟨g, 0, none⟩) n cap) n xs) {j : Nat} (hj : j < cap) : (w.cell? ⟨g, j, none⟩).isSome = true ∧ w.frozen? ⟨g, j, none⟩ = false := by
  obtain ⟨hl, ⟨h0, _⟩ | ⟨g', cap', cur, hv, hg, hh, hn, hm, hs, hx⟩⟩ := h
  · cases h0
  cases hv
  have hjs : j < cur.size := by omega
  refine ⟨?_, by simp [World.frozen?, hh]⟩
  simp [World.cell?, hh, hjs]
theorem own_head {w : World} {B g n cap : Nat} {e : TypeId} {xs : List Value} (h : w.ownsRow B e 1 (.slice (some ⟨g, 0, none⟩) n cap) n xs) : w.ownsRow B e 1 (.slice (some ⟨g, 0, none⟩) 0 cap) 0 [] := by
  obtain ⟨hl, ⟨h0, _⟩ | ⟨g', cap', cur, hv, hg, hh, hn, hm, hs, hx⟩⟩ := h
  · cases h0
  cases hv
  exact ⟨rfl, .inr ⟨g, cap, cur, rfl, hg, hh, Nat.zero_le _, hm, hs, by simp⟩⟩
theorem setCells_mineL (g : Nat) : ∀ (vs : List Value) (o : Nat) (w : World), Mine (· = g) w (w.setCells g o vs)
  | [], _, w => Mine.refl _ _
  | v :: r, o, w => (Mine.set (M := (· = g)) w (a := ⟨g, o, none⟩) v rfl).trans (setCells_mineL g r (o + 1) _)
theorem own_behindL {B g n cap : Nat} {e : TypeId} {xs : List Value} : ∀ (vs : List Value) (o : Nat) (w : World), w.ownsRow B e 1 (.slice (some ⟨g, 0, none⟩) n cap) n xs → n ≤ o → (w.setCells g o vs).ownsRow B e 1 (.slice (some ⟨g, 0, none⟩) n cap) n xs
  | [], _, _, h, _ => h
  | v :: r, o, w, h, ho => by
    have h1 := (h.stored o v).1
    rw [List.set_eq_of_length_le (by rw [h.1]; omega)] at h1
    exact own_behindL r (o + 1) _ h1 (by omega)
theorem strZero (w : World) : (zeroValue 9).run Try.prog w = .ok (.string ByteArray.empty) w := by
  obtain ⟨i0, hi0, hz0, hz1, hz2⟩ := info_partsL BInfo
  simp [zeroValue, typeInfo, hi0, hz0]
/-- The row behind a deletion of the first ones. -/
def GivesDL (bs : List ByteArray) (n d g c K : Nat) (w : World) (e : Ending) (w' : World) : Prop :=
  e = .returned (.slice (some ⟨g, 0, none⟩) (n - d) c) ∧ w'.ownsRow K 9 1 (.slice (some ⟨g, 0, none⟩) (n - d) c) (n - d) (bcs (bs.drop d)) ∧ Mine (· = g) w w'
set_option maxRecDepth 100000 in
set_option maxHeartbeats 4000000 in
theorem ckDelete (bs : List ByteArray) (n d g c K : Nat) (w : World) (hn : n = bs.length) (ho : w.ownsRow K 9 1 (.slice (some ⟨g, 0, none⟩) n c) n (bcs bs)) (hl : n ≤ 100000) (hd0 : 0 < d) (hdn : d ≤ n) :
    Calls Try.prog 34 #[.slice (some ⟨g, 0, none⟩) n c, .int .i64 0, .int .i64 (d : Int)] w (GivesDL bs n d g c K w) := by
  obtain ⟨_, _, e, hnc, hcm, _, hrow, _⟩ := own_form ho (by omega)
  cases e
  unfold maxLen at hcm
  obtain ⟨i0, hi0, hz0, hzs, hzb⟩ := info_partsL BInfo
  have hdl : (bcs (bs.drop d)).length = (n - d) * 1 := by rw [bcs_len, List.length_drop, hn, Nat.mul_one]
  obtain ⟨q, hq, hsrc⟩ : ∃ q : Addr, (q = if c = d then ⟨g, 0, none⟩ else ⟨g, d, none⟩) ∧ ∀ j v, (bcs (bs.drop d))[j]? = some v → w.drew.cell? (q.add j) = some v := by
    refine ⟨_, rfl, fun j v hj => ?_⟩
    have hjl := (List.getElem?_eq_some_iff.1 hj).1
    rw [if_neg (by omega), Go.WideShapes.add_plain]
    show w.cell? ⟨g, d + j, none⟩ = some v
    rw [List.getElem?_map, List.getElem?_drop, ← List.getElem?_map] at hj
    rcases hrow with hr | ⟨b, off, hb, hr⟩
    · rw [show List.map Value.string bs = [] from hr] at hj; simp at hj
    · cases hb
      have := hr (d + j) v hj
      rwa [Nat.zero_add] at this
  obtain ⟨w1, hr1, ho1, hg1⟩ := run_append_own_spare (P := Try.prog) w.drew K 22 22 9 i0 1 Try.underlying22 hi0 hzs g 0 c [] (own_head ho).drew q (n - d) (c - d) (bcs (bs.drop d)) hdl hsrc (bcs_ones _) (by omega)
  rw [Nat.zero_add, List.nil_append] at ho1
  rw [Nat.zero_add] at hr1
  obtain ⟨t, ht⟩ : ∃ t, t = n - d := ⟨_, rfl⟩
  rw [← ht] at hr1 ho1
  have hntd : n - t = d := by omega
  have hcl : ∀ ty cp, (Builtin.clear_ #[22] ty #[.slice (some ⟨g, t, none⟩) d cp]).run Try.prog w1 = .ok (.tuple #[]) (w1.setCells g t (List.replicate d (.string ByteArray.empty))) := fun ty cp =>
    Lib.run_clear_slice w1 _ _ ty _ Try.underlying22 strZero rfl rfl g t d cp hd0 (fun j hj => (own_room ho1 (by omega)).1) (fun j hj => (own_room ho1 (by omega)).2)
  have HF := Lib.hid (own_behindL (List.replicate d (.string ByteArray.empty)) t w1 ho1 (Nat.le_refl _))
  have HM := Lib.hid (((Mine.drew (· = g) w).trans (Mine.grown_one hg1)).trans (setCells_mineL g (List.replicate d (.string ByteArray.empty)) t w1))
  have HT := Lib.hid ht
  have HR1 := Lib.hid hr1
  have HQ := Lib.hid hq
  have hn1 : ((0 : Int) == (d : Int)) = false := ne_b (by omega)
  have hb2 : ¬ (n = 0) := by omega
  have hb3 : ¬ (c = 0) := by omega
  have hb4 : ¬ (c = t) := by omega
  have hdn2 : (d : Int) ≤ (n : Int) := by omega
  have hdc : d ≤ c := by omega
  have hdc2 : (d : Int) ≤ (c : Int) := by omega
  have hnc2 : (n : Int) ≤ (c : Int) := by omega
  have htn : t ≤ n := by omega
  have htn2 : (t : Int) ≤ (n : Int) := by omega
  clear ho ho1 hr1 hg1 hdl hsrc hn hi0 hz0 hzs hzb hq hrow
  have hway : (c = d ∧ n = d ∧ q = ⟨g, 0, none⟩) ∨ (¬ c = d ∧ q = ⟨g, d, none⟩) := by
    have e := HQ.out
    by_cases hce : c = d
    · left; exact ⟨hce, by omega, by rw [e, if_pos hce]⟩
    · right; exact ⟨hce, by rw [e, if_neg hce]⟩
  have hnd : n - d = t := ht.symm
  clear HQ ht
  have hway2 : (c = d ∧ n = d ∧ t = 0 ∧ q = ⟨g, 0, none⟩) ∨ (¬ c = d ∧ q = ⟨g, d, none⟩) := by
    rcases hway with ⟨h1, h2, h3⟩ | h
    · left; exact ⟨h1, h2, by omega, h3⟩
    · right; exact h
  clear hway
  rcases hway2 with ⟨rfl, rfl, rfl, rfl⟩ | ⟨hce, rfl⟩
  all_goals (
    go_enter Try.func34, Try.ntmps34
    go_wp2_with fail
    refine wide_tail 6 (fun w5 => w5 = w.drew) (by kernel_rfl) (by kernel_rfl) rfl ?_
    simp only [List.take_succ_cons, List.take_zero, List.drop_succ_cons, List.drop_zero]
    repeat (first
    | go_big_quiet_skip
    | (go_big_quiet_want
       apply wide_op
       · (intro w5 h5; go_simp; first | done | with_reducible rfl | exact ⟨rfl, h5⟩)
       (try simp only [Act.put, List.setIfInBounds_toArray, List.set_cons_zero, List.set_cons_succ])
       go_big_quiet_on))
    refine wpQuiet_nil ?_
    intro w4 h4
    subst h4
    refine Lib.wpList_append_run _ rfl _ _ 22 22 rfl _ _ rfl rfl _ _ (by first | exact HR1.out | (have h := HR1.out; simp only [Nat.sub_self] at h; exact h)) ?_
    simp only [Act.put, List.setIfInBounds_toArray, List.set_cons_zero, List.set_cons_succ]
    go_wp2_with fail
    go_ret
    unfold GivesDL
    rw [← HT.out]
    exact ⟨rfl, HF.out, HM.out⟩)
end Lk
end Go.Proofs.Ytbdlmokgmgpbfaa
