/- Rows of panes: taken apart, cloned, compared. -/
import Derived.Test.YtklpfifellghlaaPaneFind
import Derived.Lib.SliceRun
namespace Go.Proofs.Ytklpfifellghlaa
open Go.RowKit
open Pan
set_option linter.unusedVariables false
def Hold (p : Prop) : Prop := p
theorem hold_mk {p : Prop} (h : Hold p) : p := h
theorem hold_out {p : Prop} (h : p) : Hold p := h
theorem pc_take (xs : List Pn) (n : Nat) : (pc xs).take (n * 6) = pc (xs.take n) := by
  rcases Nat.lt_or_ge n xs.length with h | h
  · have e : pc xs = pc (xs.take n) ++ pc (xs.drop n) := by rw [← pc_app, List.take_append_drop]
    have hl : (pc (xs.take n)).length = n * 6 := by rw [pc_len, List.length_take]; omega
    rw [e, ← hl, List.take_left]
  · rw [List.take_of_length_le h, List.take_of_length_le (by rw [pc_len]; omega)]
theorem pc_drop (xs : List Pn) (n : Nat) : (pc xs).drop (n * 6) = pc (xs.drop n) := by
  rcases Nat.lt_or_ge n xs.length with h | h
  · have e : pc xs = pc (xs.take n) ++ pc (xs.drop n) := by rw [← pc_app, List.take_append_drop]
    have hl : (pc (xs.take n)).length = n * 6 := by rw [pc_len, List.length_take]; omega
    rw [e, ← hl, List.drop_left]
  · rw [List.drop_eq_nil_of_le h, List.drop_eq_nil_of_le (by rw [pc_len]; omega)]; rfl
theorem Row.takeP {w : World} {A : Option Addr} {xs : List Pn} (h : Row w A (pc xs)) (n : Nat) : Row w A (pc (xs.take n)) := by
  rw [← pc_take]
  rcases h with h | ⟨b, off, rfl, h⟩
  · left; rw [h]; simp
  · refine .inr ⟨b, off, rfl, fun i u hu => ?_⟩
    rw [List.getElem?_take] at hu
    split at hu
    · exact h _ _ hu
    · cases hu
theorem Row.dropP {w : World} {A : Option Addr} {xs : List Pn} (h : Row w A (pc xs)) (n : Nat) : Row w (Option.map (fun x => x.add (n * 6)) A) (pc (xs.drop n)) := by
  rw [← pc_drop]
  rcases h with h | ⟨b, off, rfl, h⟩
  · left; rw [h]; simp
  · refine .inr ⟨b, off + n * 6, by rw [Option.map_some, Go.WideShapes.add_plain], fun i u hu => ?_⟩
    rw [List.getElem?_drop] at hu
    rw [Nat.add_assoc]
    exact h _ _ hu
theorem own_up {w w' : World} {B size n : Nat} {e : TypeId} {v : Value} {xs : List Value} (h : w.ownsRow B e size v n xs) (hb : Below w.heap.size w w') : w'.ownsRow B e size v n xs := by
  obtain ⟨hl, ⟨rfl, rfl⟩ | ⟨g, cap, cur, rfl, hg, hh, hn, hm, hc, hx⟩⟩ := h
  · exact ⟨hl, .inl ⟨rfl, rfl⟩⟩
  · exact ⟨hl, .inr ⟨g, cap, cur, rfl, hg, (hb.block g (Array.getElem?_eq_some_iff.1 hh).1).trans hh, hn, hm, hc, hx⟩⟩
/-- Hands back a row of panes; what was stays. -/
def GivesP (xs : List Pn) (w : World) (e : Ending) (w' : World) : Prop :=
  ∃ A c, e = .returned (.slice A xs.length c) ∧ xs.length ≤ c ∧ c ≤ maxLen ∧ Row w' A (pc xs) ∧ Below w.heap.size w w'
theorem paInfo : (Try.prog.info? 52).map (fun i => (i.zero, i.size, i.bytes)) = some (some (.agg #[.int .i64 0, .int .i64 0, .string ByteArray.empty, .int .i64 0, .int .i64 0, .int .i64 0]), 6, 56) := by kernel_rfl
theorem own_givesP {w w' : World} {v : Value} {xs : List Pn} {n : Nat} (h : w'.ownsRow w.heap.size 52 6 v n (pc xs)) (hn : n = xs.length) (hb : Below w.heap.size w w') : GivesP xs w (.returned v) w' := by
  subst hn
  obtain ⟨A, c, rfl, h1, h2, _, h3, _⟩ := own_form h (by omega)
  exact ⟨A, c, rfl, h1, h2, h3, hb⟩
set_option maxHeartbeats 1000000 in
theorem paClone (xs : List Pn) (A : Option Addr) (c : Nat) (w : World) (hA : Row w A (pc xs)) (hl : xs.length ≤ 100000) : Calls Try.prog 35 #[.slice A xs.length c] w (GivesP xs w) := by
  rcases A with _ | ⟨b, off, sp⟩
  · have e : xs = [] := by
      rcases hA with h | ⟨_, _, h, _⟩
      · have := pc_len xs; rw [h] at this; exact List.eq_nil_of_length_eq_zero (by simp at this; omega)
      · cases h
    subst e
    clear hA
    have q : ∀ (w : World) (n c n' c' : Nat), (binOp .eql 22 (.slice none n c) (.slice none n' c')).run Try.prog w = .ok (.bool true) w := fun w n c n' c' => Lib.run_eql_slice_nil w _ _ none n c n' c' Try.underlying22
    go_enter Try.func35, Try.ntmps35
    go_wp2_with fail
    go_ret
    exact ⟨none, 0, rfl, Nat.le_refl _, by simp [maxLen], Row.nil, Below.refl _ _⟩
  · obtain ⟨i0, hi0, hz0, hz1, hz2⟩ := info_parts paInfo
    have HI0 := Lib.hid hi0; have HZ0 := Lib.hid hz0; have HZ1 := Lib.hid hz1; have HZ2 := Lib.hid hz2
    have HA := Lib.hid hA
    have q : ∀ (w : World) (n c n' c' : Nat), (binOp .eql 22 (.slice (some ⟨b, off, sp⟩) n c) (.slice none n' c')).run Try.prog w = .ok (.bool false) w := fun w n c n' c' => Lib.run_eql_slice_nil w _ _ (some _) n c n' c' Try.underlying22
    clear hA hi0 hz0 hz1 hz2
    go_enter Try.func35, Try.ntmps35
    go_wp2_with (at_builtin; refine hold_mk ?_)
    refine hold_out ?_
    refine wpApp rfl _ _ 22 rfl w.heap.size 52 i0 _ 6 56 Try.underlying22 HI0.out HZ0.out HZ1.out HZ2.out rfl (by omega) _ 0 [] rfl
      (own_new (Nat.le_refl _)) _ xs.length c (pc xs) rfl (HA.out.below (below_al (Below.refl _ _))) (pc_len xs) (pc_ones xs) (by unfold maxLen; omega) (by omega) (by simp) ?_
    intro v2 w2 hown hb
    have HOW := Lib.hid hown
    have HB := Lib.hid ((below_al (o := .cells #[] 52) (Below.refl w.heap.size w)).trans hb)
    clear hown hb
    go_wp2_with fail
    go_ret
    exact own_givesP HOW.out (by omega) HB.out
set_option linter.unusedVariables false
theorem pfields_acc : Try.prog.underlying 50 = some (.struct (Try.prog.fieldsOf 50)) := by kernel_rfl
theorem pstood_acc : Try.prog.stoodInHeld 50 = false := by kernel_rfl
theorem pfields_pn : Try.prog.underlying 52 = some (.struct (Try.prog.fieldsOf 52)) := by kernel_rfl
theorem pstood_pn : Try.prog.stoodInHeld 52 = false := by kernel_rfl
theorem psize_win : (Try.prog.info? 24).map (·.size) = some 2 := by kernel_rfl
theorem psize_acc : (Try.prog.info? 50).map (·.size) = some 3 := by kernel_rfl
theorem run_samePn (x : Pn) (w : World) : (binOp .neq 52 (paV x) (paV x)).run Try.prog w = .ok (.bool false) w := by
  have h1 := Try.underlying9
  have h2 := Try.underlying2
  obtain ⟨i0, hi0, hs0⟩ := Option.map_eq_some_iff.1 psize_win
  obtain ⟨i1, hi1, hs1⟩ := Option.map_eq_some_iff.1 psize_acc
  have hszW : ∀ w, (sizeOf 24).run Try.prog w = .ok 2 w := fun w => by simp [sizeOf, typeInfo, hi0, hs0]
  have hszA : ∀ w, (sizeOf 50).run Try.prog w = .ok 3 w := fun w => by simp [sizeOf, typeInfo, hi1, hs1]
  have hW := run_peqW 9997 x.p.lo x.p.hi x.p.lo x.p.hi w
  have hA : (Op.equalIn 9999 50 (.agg #[.int .i64 x.acc.n, .int .i64 x.acc.a, .int .i64 x.acc.b]) (.agg #[.int .i64 x.acc.n, .int .i64 x.acc.a, .int .i64 x.acc.b])).run Try.prog w = .ok true w := by
    rw [show (9999 : Nat) = 9997 + 2 from rfl, run_equalIn_agg w _ _ _ _ pfields_acc pstood_acc]
    simp [Program.fieldsOf, Try.underlying50, Op.eqFields, part, isAgg, run_underlying h2, run_equalIn_int w _ _ .i64 .i64 _ _ h2]
  rw [run_neq_struct, show (10000 : Nat) = 9999 + 1 from rfl, run_equalIn_agg w _ _ _ _ pfields_pn pstood_pn]
  simp [Program.fieldsOf, Try.underlying52, Op.eqFields, part, isAgg, run_underlying h1, run_underlying Try.underlying24, run_underlying Try.underlying50, hszW, hszA, hW, hA, run_equalIn_string w 9998 _ _ _ h1]
set_option maxRecDepth 100000 in
set_option maxHeartbeats 1000000 in
/-- The same panes in two rows. -/
theorem paLike (xs : List Pn) (hl : xs.length ≤ 9223372036854775807) (A A' : Option Addr) (c c' : Nat) (w : World) (hA : Row w A (pc xs)) (hA' : Row w A' (pc xs)) :
    Calls Try.prog 16 #[.slice A xs.length c, .slice A' xs.length c'] w (TellsB true w) := by
  have HA := Lib.hid hA
  have HA' := Lib.hid hA'
  clear hA hA'
  go_enter Try.func16, Try.ntmps16
  go_wp2_with fail
  go_loopw [13] (fun i wr => ∃ k : Nat, i = .int .i64 k ∧ k ≤ xs.length ∧ ∃ n, wr = w.drewN n) (fun i _ => xs.length - (intOf i).toNat)
  case atStart => exact ⟨0, rfl, Nat.zero_le _, 0, rfl⟩
  case round =>
    obtain ⟨k, rfl, hk, n, rfl⟩ := hrel
    by_cases hlt : k < xs.length
    · obtain ⟨x, hx⟩ : ∃ x, xs[k]? = some x := ⟨_, List.getElem?_eq_getElem hlt⟩
      obtain ⟨b, off, rfl, c0, c1, c2, c3, c4, c5⟩ := HA.out.pn hx
      obtain ⟨b', off', rfl, d0, d1, d2, d3, d4, d5⟩ := HA'.out.pn hx
      have he : ∀ w : World, (binOp .neq 52 (paV x) (paV x)).run Try.prog w = .ok (.bool false) w := fun w => run_samePn x w
      have HX := Lib.hid hx
      clear hx
      go_wp2_with fail
      go_quiet (fail)
      go_wp2_with fail
      go_roundw
      case rel => exact ⟨k + 1, by go_num, by omega, _, rfl⟩
      case measure => simp [intOf]; omega
    · have hge : xs.length ≤ k := by omega
      go_wp2_with fail
      go_ret
      exact ⟨rfl, below_drewN (Below.refl _ _)⟩
end Go.Proofs.Ytklpfifellghlaa
