/- Rows of windows compared; the reference's Open. -/
import Derived.Test.YtehnhhkhnedgeaaWinRef
import Derived.Laws.StructEq
import Derived.Deep.QuietTactic
import Derived.BigQuiet
import Derived.Maps.AppendAt
namespace Go.Proofs.Ytehnhhkhnedgeaa
open Go.RowKit Go.Shelf Tick
set_option linter.unusedVariables false
theorem fields_win : Try.prog.underlying 29 = some (.struct (Try.prog.fieldsOf 29)) := by kernel_rfl
theorem stood_win : Try.prog.stoodInHeld 29 = false := by kernel_rfl
theorem run_eqIn (d : Nat) (lo hi lo' hi' : Int) (w : World) : (Op.equalIn (d + 2) 29 (.agg #[.int .i64 lo, .int .i64 hi]) (.agg #[.int .i64 lo', .int .i64 hi'])).run Try.prog w = .ok ((lo == lo') && (hi == hi')) w := by
  have h2 := Try.underlying2
  rw [run_equalIn_agg w _ _ _ _ fields_win stood_win]
  simp [Program.fieldsOf, Try.underlying29, Op.eqFields, part, isAgg, run_underlying h2, run_equalIn_int w d _ .i64 .i64 _ _ h2]
  by_cases g1 : lo = lo' <;> by_cases g2 : hi = hi' <;> simp [g1, g2]
theorem run_eqWin (lo hi lo' hi' : Int) (w : World) : (binOp .eql 29 (.agg #[.int .i64 lo, .int .i64 hi]) (.agg #[.int .i64 lo', .int .i64 hi'])).run Try.prog w = .ok (.bool ((lo == lo') && (hi == hi'))) w := by
  rw [run_eql_struct, show (10000 : Nat) = 9998 + 2 from rfl, run_eqIn]; rfl
theorem run_neWin (lo hi lo' hi' : Int) (w : World) : (binOp .neq 29 (.agg #[.int .i64 lo, .int .i64 hi]) (.agg #[.int .i64 lo', .int .i64 hi'])).run Try.prog w = .ok (.bool (!((lo == lo') && (hi == hi')))) w := by
  rw [run_neq_struct, show (10000 : Nat) = 9998 + 2 from rfl, run_eqIn]; rfl
/-- The cells of a row's k-th window. -/
theorem Row.win {w : World} {A : Option Addr} {xs : List (Int × Int)} (h : Row w A (wc xs)) {k : Nat} {x : Int × Int} (hk : xs[k]? = some x) :
    ∃ b off, A = some ⟨b, off, none⟩ ∧ w.cell? ⟨b, off + k * 2, none⟩ = some (.int .i64 x.1) ∧ w.cell? ⟨b, off + k * 2 + 1, none⟩ = some (.int .i64 x.2) := by
  have h0 := wc_0 hk
  have h1 := wc_1 hk
  rcases h with h | ⟨b, off, rfl, h⟩
  · rw [h] at h0; simp at h0
  · exact ⟨b, off, rfl, h _ _ h0, by rw [Nat.add_assoc]; exact h _ _ h1⟩
set_option maxRecDepth 100000 in
set_option maxHeartbeats 1000000 in
/-- The same windows in two rows. -/
theorem likeSame (xs : List (Int × Int)) (hl : xs.length ≤ 100000) (A A' : Option Addr) (c c' : Nat) (w : World) (hA : Row w A (wc xs)) (hA' : Row w A' (wc xs)) :
    Calls Try.prog 12 #[.slice A xs.length c, .slice A' xs.length c'] w fun e w' => e = .returned (.bool true) ∧ ∃ n, w' = w.drewN n := by
  have HA := Lib.hid hA
  have HA' := Lib.hid hA'
  clear hA hA'
  go_enter Try.func12, Try.ntmps12
  go_wp2_with fail
  go_loopw [13] (fun i wr => ∃ k : Nat, i = .int .i64 k ∧ k ≤ xs.length ∧ ∃ n, wr = w.drewN n) (fun i _ => xs.length - (intOf i).toNat)
  case atStart => exact ⟨0, rfl, Nat.zero_le _, 0, rfl⟩
  case round =>
    obtain ⟨k, rfl, hk, n, rfl⟩ := hrel
    by_cases hlt : k < xs.length
    · obtain ⟨x, hx⟩ : ∃ x, xs[k]? = some x := ⟨_, List.getElem?_eq_getElem hlt⟩
      obtain ⟨b, off, rfl, c0, c1⟩ := HA.out.win hx
      obtain ⟨b', off', rfl, d0, d1⟩ := HA'.out.win hx
      have he : ∀ w : World, (binOp .neq 29 (.agg #[.int .i64 x.1, .int .i64 x.2]) (.agg #[.int .i64 x.1, .int .i64 x.2])).run Try.prog w = .ok (.bool false) w := fun w => by rw [run_neWin]; simp
      have HX := Lib.hid hx
      clear hx
      go_wp2_with fail
      go_quiet (fail)
      go_wp2_with fail
      go_roundw
      case rel => exact ⟨k + 1, by go_num, by omega, _, rfl⟩
      case measure => simp [intOf]; omega
    · have hge : xs.length ≤ k := by omega
      go_wp2_with fail
      go_ret
      exact ⟨rfl, n, rfl⟩
theorem Row.grown {w w' : World} {A : Option Addr} {cs : List Value} {row : Option Nat} (h : Row w A cs) (hg : w.grownBy w' row) (hne : cs = [] ∨ ∃ b off, A = some ⟨b, off, none⟩ ∧ some b ≠ row) : Row w' A cs := by
  rcases h with h | ⟨b, off, rfl, h⟩
  · exact .inl h
  · rcases hne with h0 | ⟨b', off', e, h1⟩
    · exact .inl h0
    · cases e
      refine .inr ⟨b, off, rfl, fun j u hu => ?_⟩
      have h2 := h j u hu
      exact hg.cell h2 h1
namespace Win
theorem filt_hit {m : Int} {xs : List (Int × Int)} {k : Nat} {x : Int × Int} (hx : xs[k]? = some x) (h : m < x.2) : (xs.take (k + 1)).filter (fun p => decide (m < p.2)) = (xs.take k).filter (fun p => decide (m < p.2)) ++ [x] := by
  rw [List.take_add_one, hx, List.filter_append]; simp [h]
theorem filt_miss {m : Int} {xs : List (Int × Int)} {k : Nat} {x : Int × Int} (hx : xs[k]? = some x) (h : x.2 ≤ m) : (xs.take (k + 1)).filter (fun p => decide (m < p.2)) = (xs.take k).filter (fun p => decide (m < p.2)) := by
  rw [List.take_add_one, hx, List.filter_append]; simp [show ¬ m < x.2 by omega]
end Win
set_option maxRecDepth 100000 in
set_option maxHeartbeats 2000000 in
theorem refOpenRaw (s d t m : Int) (w : World) : Calls Try.prog 17 #[.int .i64 s, .int .i64 d, .int .i64 t, .int .i64 m] w (GivesW ((Win.of s d t).filter fun p => decide (m < p.2)) w) := by
  obtain ⟨i0, hi0, hz0, hz1, hz2⟩ := info_parts winInfo
  have HI0 := Lib.hid hi0; have HZ0 := Lib.hid hz0; have HZ1 := Lib.hid hz1; have HZ2 := Lib.hid hz2
  have hl : (Win.of s d t).length ≤ 16 := by rw [Win.of, List.length_reverse]; exact Win.len_le s d t
  obtain ⟨xs, hxs⟩ : ∃ xs, xs = Win.of s d t := ⟨_, rfl⟩
  have HR := Lib.hid (refOf s d t (w.alloc (.cells #[] 29)))
  rw [← hxs] at hl HR ⊢
  clear hi0 hz0 hz1 hz2 hxs
  go_enter Try.func17, Try.ntmps17
  go_wp2_with (go_at_call 14; refine HR.out.mono ?_; rintro e w1 ⟨A, c, rfl, h1, h2, h3, h4⟩)
  have hzz := h4.size
  rw [World.size_alloc] at hzz
  have hap : xs = [] ∨ ∃ b off, A = some ⟨b, off, none⟩ ∧ b < w1.heap.size ∧ b ≠ w.heap.size := by
    rcases Nat.eq_zero_or_pos xs.length with h0 | h0
    · exact .inl (List.eq_nil_of_length_eq_zero h0)
    · refine .inr ?_
      obtain ⟨b, off, rfl, hc, _⟩ := h3.win (List.getElem?_eq_getElem h0)
      refine ⟨b, off, rfl, lt_of_cell hc, fun e => ?_⟩
      subst e
      have h5 : w1.cell? ⟨w.heap.size, off + 0 * 2, none⟩ = (w.alloc (.cells #[] 29)).cell? ⟨w.heap.size, off + 0 * 2, none⟩ := World.cell?_of_block (h4.block _ (by simp))
      rw [h5] at hc
      unfold World.cell? at hc
      rw [show (w.alloc (.cells #[] 29)).heap[(⟨w.heap.size, off + 0 * 2, none⟩ : Addr).block]? = _ from World.alloc_heap_new w _] at hc
      simp at hc
  have HAP := Lib.hid hap
  have H3 := Lib.hid h3
  have H4 := Lib.hid (((Below.refl _ w).alloc (Nat.le_refl _) (.cells #[] 29)).trans (h4.mono (by simp)))
  have HO := Lib.hid (own_any (own_new (size := 2) (Nat.le_refl w.heap.size)) h4)
  clear hap h3 h4
  go_loopw [9, 18] (fun v i wr => ∃ k : Nat, i = .int .i64 k ∧ k ≤ xs.length ∧ Row wr A (wc xs) ∧ w1.heap.size ≤ wr.heap.size ∧ Below w.heap.size w wr ∧
      wr.ownsRow w.heap.size 29 2 v ((xs.take k).filter fun p => decide (m < p.2)).length (wc ((xs.take k).filter fun p => decide (m < p.2))) ∧ (∀ q, v.ownBlock = some q → q = w.heap.size ∨ w1.heap.size ≤ q))
    (fun _ i _ => xs.length - (intOf i).toNat)
  case atStart =>
    exact ⟨0, rfl, Nat.zero_le _, H3.out, Nat.le_refl _, H4.out, by simpa [wc] using HO.out, fun q hq => .inl (by simpa [Value.ownBlock] using hq.symm)⟩
  case round =>
    obtain ⟨k, rfl, hk, hr, hz, hb, hown, hq⟩ := hrel
    by_cases hlt : k < xs.length
    · obtain ⟨x, hx⟩ : ∃ x, xs[k]? = some x := ⟨_, List.getElem?_eq_getElem hlt⟩
      obtain ⟨b, off, rfl, hbl, hbn⟩ : ∃ b off, A = some ⟨b, off, none⟩ ∧ b < w1.heap.size ∧ b ≠ w.heap.size := by
        rcases HAP.out with h | h
        · subst h; simp at hlt
        · exact h
      obtain ⟨b', off', e, c0, c1⟩ := hr.win hx
      cases e
      have hlen : ((xs.take k).filter fun p => decide (m < p.2)).length ≤ 16 := Nat.le_trans (List.length_filter_le _ _) (by rw [List.length_take]; omega)
      have HX := Lib.hid hx
      have HRW := Lib.hid hr
      have HB := Lib.hid hb
      have HOW := Lib.hid hown
      have HQ := Lib.hid hq
      have HBN := Lib.hid hbn
      have hzw : w.heap.size ≤ wr.heap.size := by omega
      clear hx hr hb hown hq hbn
      obtain ⟨x0, x1⟩ := x
      by_cases hm : m < x1
      · have HF := Lib.hid (Win.filt_hit (m := m) HX.out hm)
        go_wp2_with (at_builtin; refine hold_mk ?_)
        refine hold_out ?_
        refine wpList_append_own_at _ rfl _ _ 25 rfl w.heap.size 29 i0 _ 2 16 Try.underlying25 HI0.out HZ0.out HZ1.out HZ2.out rfl (by omega) _ _ _ rfl
          (own_any (own_any HOW.out ((Below.refl _ _).alloc (Nat.le_refl _) _)) ((Below.refl _ _).alloc (Nat.le_refl _) _)) ⟨wr.heap.size + 1, 0, none⟩ 1 1 [.int .i64 x0, .int .i64 x1] rfl rfl ?_ (by simp [Value.oneCell']) (by unfold maxLen; omega) (by omega) (by simp; omega) ?_
        · have h := cells_new (wr.alloc (.cells #[.int .i64 x0, .int .i64 x1] 29)) [.int .i64 x0, .int .i64 x1] 29
          rw [World.size_alloc] at h
          exact h
        · intro v2 w2 hown2 hg _ hat
          have hown3 : w2.ownsRow w.heap.size 29 2 v2 (((xs.take k).filter fun p => decide (m < p.2)).length + 1) (wc ((xs.take k).filter fun p => decide (m < p.2)) ++ [.int .i64 x0, .int .i64 x1]) := hown2
          obtain ⟨u, hu⟩ : ∃ u, u9 = u := ⟨_, rfl⟩
          rw [hu] at HQ HOW
          have hg' : ((wr.alloc (.cells #[.int .i64 x0, .int .i64 x1] 29)).alloc (.cells #[.int .i64 x0, .int .i64 x1] 29)).grownBy w2 u.ownBlock := by rw [← hu]; exact hg
          have hat' : v2.ownBlock = u.ownBlock ∨ v2.ownBlock = some (wr.heap.size + 1 + 1) := by
            have h2 : v2.ownBlock = u9.ownBlock ∨ v2.ownBlock = some ((wr.alloc (.cells #[.int .i64 x0, .int .i64 x1] 29)).alloc (.cells #[.int .i64 x0, .int .i64 x1] 29)).heap.size := hat
            rw [← hu]; simpa using h2
          have hqb : ∀ q, u.ownBlock = some q → w.heap.size ≤ q := fun q hq => (own_blockLt HOW.out q hq).1
          have R1 := Lib.hid ((HRW.out.below (((Below.refl _ _).alloc (Nat.le_refl _) (.cells #[.int .i64 x0, .int .i64 x1] 29)).alloc (by simp) (.cells #[.int .i64 x0, .int .i64 x1] 29))).grown hg' (.inr ⟨b, off, rfl, fun e => by
            rcases HQ.out b e.symm with h | h
            · exact HBN.out h
            · omega⟩))
          have hsz2 := hg'.size
          have R2 := Lib.hid (((HB.out.alloc hzw (.cells #[.int .i64 x0, .int .i64 x1] 29)).alloc (by simp; omega) (.cells #[.int .i64 x0, .int .i64 x1] 29)).grown hg' (by simp; omega) hqb)
          have R3 := Lib.hid hown3
          have R4 : Hid (∀ q, v2.ownBlock = some q → q = w.heap.size ∨ w1.heap.size ≤ q) := Lib.hid fun q hq => by
            rcases hat' with h | h
            · exact HQ.out q (by rw [← h]; exact hq)
            · rw [h] at hq; cases hq; right; omega
          simp only [World.size_alloc] at hsz2
          clear hown2 hown3 hg hg' hat hat' hqb
          subst hu
          go_wp2_with fail
          go_roundw
          case rel =>
            refine ⟨k + 1, by go_num, by omega, R1.out, by omega, R2.out, ?_, R4.out⟩
            rw [HF.out, wc_app, wc_one, List.length_append, List.length_singleton]
            exact R3.out
          case measure => simp [intOf]; omega
      · have hm2 : x1 ≤ m := by omega
        have HF := Lib.hid (Win.filt_miss (m := m) HX.out hm2)
        clear hm
        go_wp2_with fail
        go_roundw
        case rel =>
          exact ⟨k + 1, by go_num, by omega, HRW.out.below ((Below.refl _ _).alloc (Nat.le_refl _) _), by simp; omega, HB.out.alloc hzw _, by rw [HF.out]; exact own_any HOW.out ((Below.refl _ _).alloc (Nat.le_refl _) _), HQ.out⟩
        case measure => simp [intOf]; omega
    · have hge : xs.length ≤ k := by omega
      have HB := Lib.hid hb
      have HOW := Lib.hid hown
      clear hb hown hq hr hlt
      go_wp2_with fail
      go_ret
      have h1 := HOW.out
      rw [List.take_of_length_le hge] at h1
      exact gives_own h1 rfl HB.out
namespace Win
theorem take_filter {α : Type} (p : α → Bool) : ∀ l : List α, (∀ (i j : Nat) a b, i < j → l[i]? = some a → l[j]? = some b → p b = true → p a = true) → l.takeWhile p = l.filter p
  | [], _ => rfl
  | a :: r, h => by
    have ih := take_filter p r fun i j x y hij hx hy => h (i + 1) (j + 1) x y (by omega) (by simpa using hx) (by simpa using hy)
    by_cases ha : p a = true
    · rw [List.takeWhile_cons_of_pos ha, List.filter_cons_of_pos ha, ih]
    · rw [List.takeWhile_cons_of_neg ha, List.filter_cons_of_neg ha]
      symm
      rw [List.filter_eq_nil_iff]
      intro b hb hpb
      obtain ⟨j, hj, rfl⟩ := List.getElem_of_mem hb
      exact ha (h 0 (j + 1) a r[j] (by omega) (by simp) (by simp [hj]) hpb)
theorem hi_mono {s x y : Int} (h : x ≤ y) : hiOf s x ≤ hiOf s y := by unfold hiOf; split <;> split <;> omega
theorem open_eq (s d t m : Int) : open_ s d t m = (of s d t).filter fun p => decide (m < p.2) := by
  unfold open_ of
  rw [List.filter_reverse]
  congr 1
  apply take_filter
  intro i j a b hij ha hb hp
  by_cases hg : good s d t = true
  · obtain ⟨⟨o1, o2, o3, o4⟩, g1, g2⟩ := good_iff.1 hg
    rw [desc_good hg] at ha hb
    rw [List.getElem?_map] at ha hb
    obtain ⟨i', hi, rfl⟩ := Option.map_eq_some_iff.1 ha
    obtain ⟨j', hj, rfl⟩ := Option.map_eq_some_iff.1 hb
    have ei : i' = i := by
      have := List.getElem?_eq_some_iff.1 hi
      obtain ⟨_, h⟩ := this
      simpa using h.symm
    have ej : j' = j := by
      have := List.getElem?_eq_some_iff.1 hj
      obtain ⟨_, h⟩ := this
      simpa using h.symm
    subst ei ej
    have hm : (i' : Int) * d ≤ (j' : Int) * d := Int.mul_le_mul_of_nonneg_right (by omega) (by omega)
    have := hi_mono (s := s) (show top d t - (j' : Int) * d ≤ top d t - (i' : Int) * d by omega)
    have hp' : m < (win s d t j').2 := of_decide_eq_true hp
    show decide (m < (win s d t i').2) = true
    exact decide_eq_true (by unfold win at hp' ⊢; simp only at hp' ⊢; omega)
  · rw [desc_not (by simpa using hg)] at ha
    simp at ha
end Win
theorem refOpen (s d t m : Int) (w : World) : Calls Try.prog 17 #[.int .i64 s, .int .i64 d, .int .i64 t, .int .i64 m] w (GivesW (Win.open_ s d t m) w) := by
  rw [Win.open_eq]; exact refOpenRaw s d t m w
end Go.Proofs.Ytehnhhkhnedgeaa
