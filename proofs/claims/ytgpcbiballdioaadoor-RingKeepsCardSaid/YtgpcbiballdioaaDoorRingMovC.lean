/- The code's Moves. -/
import Derived.Test.YtgpcbiballdioaaDoorRingMovR
import Derived.Lib.MinMax
namespace Go.Proofs.YtgpcbiballdioaaDoor
open Go.RowKit
set_option linter.unusedVariables false
set_option maxRecDepth 8000
namespace Rg
/-- The moves, in new memory. -/
def GivesMn (xs : List Mv) (w : World) (e : Ending) (w' : World) : Prop :=
  ∃ A c, e = .returned (.slice A xs.length c) ∧ xs.length ≤ c ∧ c ≤ maxLen ∧ Row w' A (mc xs) ∧ Below w.heap.size w w' ∧ ∀ a, A = some a → w.heap.size ≤ a.block
theorem BuiltM.givesN {w0 a : World} {v : Value} {ms : List Mv} (h : BuiltM w0 a v ms) : GivesMn ms w0 (.returned v) a := by
  obtain ⟨A, c, rfl, h1, h2, _, h3, h4⟩ := own_form h.own (by omega)
  exact ⟨A, c, rfl, h1, h2, h3, h.below, fun a ha => (h4 a ha).1⟩
set_option maxRecDepth 100000 in
set_option maxHeartbeats 2000000 in
theorem ckMovesN (l m : List Int) (A B : Option Addr) (c d : Nat) (w : World) (hA : Row w A (iv l)) (hB : Row w B (iv m)) (hl : l.length ≤ 9223372036854775807) (hm : m.length ≤ 9223372036854775807)
    (hn : l.length * 24 ≤ 140737488355328 ∨ m.length * 24 ≤ 140737488355328) :
    Calls Tryd.prog 13 #[.slice A l.length c, .slice B m.length d] w (GivesMn (moves l m) w) := by
  have HA := Lib.hid hA; have HB := Lib.hid hB
  have HL := Lib.hid hn
  have HB0 : Hid (BuiltM w w (.slice none 0 0) []) := Lib.hid ⟨own_none, Below.refl _ _⟩
  obtain ⟨N, hN0⟩ : ∃ N, N = min l.length m.length := ⟨_, rfl⟩
  have hN : min (l.length : Int) (m.length : Int) = (N : Int) := by rw [hN0]; omega
  have hNb : N ≤ l.length ∧ N ≤ m.length ∧ (l.length ≤ N ∨ m.length ≤ N) := by omega
  have HNB := Lib.hid hNb
  have hN9 : N ≤ 9223372036854775807 := by omega
  clear hN0 hNb
  obtain ⟨us, hus⟩ : ∃ us, us = moves l m := ⟨_, rfl⟩
  have HU := Lib.hid hus
  rw [← hus]
  clear hA hB hn hus
  go_enter Tryd.func13, Tryd.ntmps13
  go_wp2_with fail
  go_loopw [5, 6, 12] (fun v s6 i wr => ∃ k : Nat, i = .int .i64 k ∧ k ≤ N ∧ BuiltM w wr v (moves (l.take k) (m.take k))) (fun _ _ i _ => N - (intOf i).toNat)
  case atStart => exact ⟨0, rfl, Nat.zero_le _, HB0.out⟩
  case round =>
    obtain ⟨k, rfl, hk, hbt⟩ := hrel
    have HBT := Lib.hid hbt
    clear hbt
    by_cases hlt : k < N
    · have hkl : k < l.length := by have := HNB.out; omega
      have hkm : k < m.length := by have := HNB.out; omega
      obtain ⟨x, hx⟩ : ∃ x, l[k]? = some x := ⟨_, List.getElem?_eq_getElem hkl⟩
      obtain ⟨b, off, rfl, c0⟩ := row_int (HA.out.below HBT.out.below) hx
      have HX := Lib.hid hx
      have HMS := Lib.hid (moves_take_len l m k)
      clear hx
      obtain ⟨y, hy⟩ : ∃ y, m[k]? = some y := ⟨_, List.getElem?_eq_getElem hkm⟩
      obtain ⟨b', off', rfl, d0⟩ := row_int (HB.out.below HBT.out.below) hy
      have HN := Lib.hid (moves_next HX.out hy)
      clear hy
      by_cases exy : x = y
      · subst exy
        have HN2 := Lib.hid (show moves (l.take (k + 1)) (m.take (k + 1)) = moves (l.take k) (m.take k) by rw [HN.out, if_pos rfl, List.append_nil])
        clear HN
        go_wp2_with fail
        go_quiet (fail)
        go_wp2_with fail
        go_roundw
        case rel => exact ⟨k + 1, by go_num, by omega, by rw [HN2.out]; exact HBT.out.drewN _⟩
        case measure => simp [intOf]; omega
      · have c1 : ∀ n, ((wr.drewN n).drew).cell? ⟨b, off + k, none⟩ = some (.int .i64 x) := fun n => c0
        have d1 : ∀ n, ((wr.drewN n).drew).cell? ⟨b', off' + k, none⟩ = some (.int .i64 y) := fun n => d0
        obtain ⟨ms, hms⟩ : ∃ ms, ms = moves (l.take k) (m.take k) := ⟨_, rfl⟩
        have hml : (ms.length + 1) * 24 ≤ 140737488355328 := by rw [hms]; have := HMS.out; have := HL.out; omega
        have HNE := Lib.hid (show moves (l.take (k + 1)) (m.take (k + 1)) = ms ++ [⟨(k : Int), x, y⟩] by rw [HN.out, if_neg exy, hms])
        rw [← hms] at HBT
        have HML := Lib.hid hml
        clear hms hml HN HMS
        go_wp2_with fail
        go_quiet (fail)
        go_wp2_with fail
        refine wide_tail1 11 (fun w5 => w5 = (wr.drewN nq).drew) _ u5 rfl rfl rfl (by kernel_rfl) (by kernel_rfl) (fun _ _ _ _ h => h) rfl ?_
        simp only [Nat.add_one_sub_one, List.take_succ_cons, List.take_zero, List.drop_succ_cons, List.drop_zero, Act.put, List.setIfInBounds_toArray, List.set_cons_zero, List.set_cons_succ]
        repeat (first
          | go_big_quiet_skip
          | (go_big_quiet_want
             apply wide_op
             · (intro w5 h5; subst h5; go_simp; first | done | with_reducible rfl | exact ⟨rfl, rfl⟩)
             (try simp only [Act.put, List.setIfInBounds_toArray, List.set_cons_zero, List.set_cons_succ])
             go_big_quiet_on))
        refine wpQuiet_nil ?_
        intro w7 h7
        subst h7
        go_wp2_with (at_builtin; refine hold_mk ?_)
        refine hold_out ?_
        refine wpPushM rfl _ _ rfl u5 ms rfl (((HBT.out.drewN nq).drew).up (al_belowM _ (.cells (mC ⟨(k : Int), x, y⟩) 34))) _ 1 1 [⟨(k : Int), x, y⟩] rfl (one_mv _ _) rfl HML.out ?_
        intro v8 w8 bt8 _
        have HBT8 := Lib.hid bt8
        clear bt8
        go_wp2_with fail
        go_roundw
        case rel => exact ⟨k + 1, by go_num, by omega, by rw [HNE.out]; exact HBT8.out⟩
        case measure => simp [intOf]; omega
    · have hge : N ≤ k := by omega
      have HE := Lib.hid (show moves (l.take k) (m.take k) = us from by rw [moves_end (by have := HNB.out; omega), HU.out])
      clear hlt
      go_wp2_with fail
      go_ret
      rw [← HE.out]
      exact HBT.out.givesN
theorem ckMoves (l m : List Int) (A B : Option Addr) (c d : Nat) (w : World) (hA : Row w A (iv l)) (hB : Row w B (iv m)) (hl : l.length ≤ 9223372036854775807) (hm : m.length ≤ 9223372036854775807)
    (hn : l.length * 24 ≤ 140737488355328 ∨ m.length * 24 ≤ 140737488355328) :
    Calls Tryd.prog 13 #[.slice A l.length c, .slice B m.length d] w (GivesMv (moves l m) w) :=
  (ckMovesN l m A B c d w hA hB hl hm hn).mono fun _ _ ⟨A', c', h1, h2, h3, h4, h5, _⟩ => ⟨A', c', h1, h2, h3, h4, h5⟩
end Rg
end Go.Proofs.YtgpcbiballdioaaDoor
