/- slices.Insert of one hold into a row of the call's own; slices.Delete of one. -/
import Derived.Test.YtciagbeamphihaaMarkCp
import Derived.Laws.Externs
import Derived.Lib.Overlaps
import Derived.Lib.AppendZerosOnto
namespace Go.Proofs.Ytciagbeamphihaa
open Go.RowKit
set_option linter.unusedVariables false
set_option maxRecDepth 8000
namespace Wm
theorem hc_take (xs : List Ho) (n : Nat) : (hc xs).take (n * 2) = hc (xs.take n) := by
  rcases Nat.lt_or_ge n xs.length with h | h
  · have e : hc xs = hc (xs.take n) ++ hc (xs.drop n) := by rw [← hc_app, List.take_append_drop]
    have hl : (hc (xs.take n)).length = n * 2 := by rw [hc_len, List.length_take]; omega
    rw [e, ← hl, List.take_left]
  · rw [List.take_of_length_le h, List.take_of_length_le (by rw [hc_len]; omega)]
theorem hc_drop (xs : List Ho) (n : Nat) : (hc xs).drop (n * 2) = hc (xs.drop n) := by
  rcases Nat.lt_or_ge n xs.length with h | h
  · have e : hc xs = hc (xs.take n) ++ hc (xs.drop n) := by rw [← hc_app, List.take_append_drop]
    have hl : (hc (xs.take n)).length = n * 2 := by rw [hc_len, List.length_take]; omega
    rw [e, ← hl, List.drop_left]
  · rw [List.drop_eq_nil_of_le h, List.drop_eq_nil_of_le (by rw [hc_len]; omega)]; rfl
theorem hoSize : (Try.prog.info? 44).map (·.size) = some 2 := by kernel_rfl
/-- The row behind an insertion. -/
def GivesIns (xs : List Ho) (i : Nat) (x : Ho) (K : Nat) (v : Value) (w : World) (e : Ending) (w' : World) : Prop :=
  ∃ A c, e = .returned (.slice A (xs.length + 1) c) ∧ w'.ownsRow K 44 2 (.slice A (xs.length + 1) c) (xs.length + 1) (hc (xs.take i ++ x :: xs.drop i)) ∧ Mine (fun k => v.ownBlock = some k) w w' ∧
    (∀ k, (Value.slice A (xs.length + 1) c).ownBlock = some k → v.ownBlock = some k ∨ w.heap.size ≤ k)
theorem ho_cells {w : World} {vb : Nat} {x : Ho} (h : Lies vb (hoC x) 44 w) : ∀ j v, (hL x)[j]? = some v → w.cell? ((⟨vb, 0, none⟩ : Addr).add j) = some v := by
  intro j v hj
  rw [Go.WideShapes.add_plain]
  refine h.cell ?_
  rw [Nat.zero_add, ← hj]
  show (#[Value.int .i64 x.no, Value.int .i64 x.at_] : Array Value)[j]? = [Value.int .i64 x.no, Value.int .i64 x.at_][j]?
  simp
theorem hL_ones (x : Ho) : ∀ u ∈ hL x, u.oneCell' = true := by
  intro u hu
  simp only [hL, List.mem_cons, List.not_mem_nil, or_false] at hu
  rcases hu with rfl | rfl <;> rfl
theorem ins_one (xs : List Ho) (i : Nat) (x : Ho) : hc (xs.take i ++ x :: xs.drop i) = hc (xs.take i) ++ hL x ++ hc (xs.drop i) := by
  rw [hc_app, show x :: xs.drop i = [x] ++ xs.drop i from rfl, hc_app, hc_one, List.append_assoc]
/-- In place: the tail moves, then the one is laid. -/
theorem ins_shift {xs : List Ho} {us : List Value} {i n : Nat} {x : Ho} (hn : xs.length = n) (hu : us.length = 2) (hi : i < n) (Z : List Value)
    (hZ : Z = (hc xs ++ us).take ((i + 1) * 2) ++ hc (xs.drop i) ++ (hc xs ++ us).drop ((i + 1) * 2 + (hc (xs.drop i)).length)) :
    Z.take (i * 2) ++ hL x ++ Z.drop (i * 2 + (hL x).length) = hc (xs.take i ++ x :: xs.drop i) := by
  have hl : (hc xs ++ us).length = (n + 1) * 2 := by rw [List.length_append, hc_len, hn, hu]; omega
  have hd : (hc (xs.drop i)).length = (n - i) * 2 := by rw [hc_len, List.length_drop, hn]
  have e1 : (hc xs ++ us).drop ((i + 1) * 2 + (hc (xs.drop i)).length) = [] := List.drop_eq_nil_of_le (by rw [hl, hd]; omega)
  rw [e1, List.append_nil] at hZ
  have hk : ((hc xs ++ us).take ((i + 1) * 2)).length = (i + 1) * 2 := by rw [List.length_take, hl]; omega
  have e2 : Z.take (i * 2) = hc (xs.take i) := by
    rw [hZ, List.take_append_of_le_length (by rw [hk]; omega), List.take_take, Nat.min_eq_left (by omega), List.take_append_of_le_length (by rw [hc_len, hn]; omega), hc_take]
  have e3 : Z.drop (i * 2 + (hL x).length) = hc (xs.drop i) := by
    rw [hZ, show i * 2 + (hL x).length = ((hc xs ++ us).take ((i + 1) * 2)).length by rw [hk]; show i * 2 + 2 = _; omega, List.drop_left]
  rw [e2, e3, ins_one]
/-- A new row: the one is laid, then the tail. -/
theorem ins_grow {xs : List Ho} {zs : List Value} {i n : Nat} {x : Ho} (hn : xs.length = n) (hu : zs.length = (n + 1 - i) * 2) (hi : i < n) (Z : List Value)
    (hZ : Z = (hc (xs.take i) ++ zs).take (i * 2) ++ hL x ++ (hc (xs.take i) ++ zs).drop (i * 2 + (hL x).length)) :
    Z.take ((i + 1) * 2) ++ hc (xs.drop i) ++ Z.drop ((i + 1) * 2 + (hc (xs.drop i)).length) = hc (xs.take i ++ x :: xs.drop i) := by
  have hd : (hc (xs.drop i)).length = (n - i) * 2 := by rw [hc_len, List.length_drop, hn]
  have ht : (hc (xs.take i)).length = i * 2 := by rw [hc_len, List.length_take, hn, Nat.min_eq_left (by omega)]
  have e0 : (hc (xs.take i) ++ zs).take (i * 2) = hc (xs.take i) := by rw [← ht, List.take_left]
  rw [e0] at hZ
  have h2 : (hL x).length = 2 := rfl
  have hZl : Z.length = (n + 1) * 2 := by
    rw [hZ]; simp only [List.length_append, List.length_drop, ht, hu, h2]; omega
  have e1 : Z.take ((i + 1) * 2) = hc (xs.take i) ++ hL x := by
    rw [hZ, show (i + 1) * 2 = (hc (xs.take i) ++ hL x).length by rw [List.length_append, ht, h2]; omega, List.take_left]
  have e2 : Z.drop ((i + 1) * 2 + (hc (xs.drop i)).length) = [] := List.drop_eq_nil_of_le (by rw [hZl, hd]; omega)
  rw [e1, e2, List.append_nil, ins_one]
theorem lies_upM {b : Nat} {C : Array Value} {T : TypeId} {w w' : World} (h : Lies b C T w) (hb : Below w.heap.size w w') : Lies b C T w' := (hb.block _ (lt_of_block h)).trans h
theorem slice_own {w : World} {K n : Nat} {T : TypeId} {v : Value} {xs : List Value} (h : w.ownsRow K T 2 v n xs) : ∃ A c, v = .slice A n c := by
  obtain ⟨A, c, e, _⟩ := own_form h (by omega)
  exact ⟨A, c, e⟩
set_option maxRecDepth 100000 in
set_option maxHeartbeats 2000000 in
/-- At the end: an append. -/
theorem insEnd (xs : List Ho) (x : Ho) (A : Option Addr) (c K vb : Nat) (w : World) (ho : w.ownsRow K 44 2 (.slice A xs.length c) xs.length (hc xs)) (hx : Lies vb (hoC x) 44 w) (hl : xs.length ≤ 100000) (hK : K ≤ w.heap.size) :
    Calls Try.prog 36 #[.slice A xs.length c, .int .i64 xs.length, .slice (some ⟨vb, 0, none⟩) 1 1] w (GivesIns xs xs.length x K (.slice A xs.length c) w) := by
  obtain ⟨i0, hi0, hz0, hz1, hz2⟩ := info_parts hoInfoC
  have HI0 := Lib.hid hi0; have HZ0 := Lib.hid hz0; have HZ1 := Lib.hid hz1; have HZ2 := Lib.hid hz2
  have HO := Lib.hid ho
  have HX := Lib.hid hx
  obtain ⟨_, _, e, hcl, hcm, _⟩ := own_form ho (by omega)
  cases e
  unfold maxLen at hcm
  have hway : (A = none ∧ xs = [] ∧ c = 0) ∨ (∃ g, A = some ⟨g, 0, none⟩ ∧ c = xs.length) ∨ (∃ g, A = some ⟨g, 0, none⟩ ∧ ¬ c = xs.length) := by
    obtain ⟨_, ⟨e, e0⟩ | ⟨g, cap, cur, e, _⟩⟩ := ho
    · simp only [Value.slice.injEq] at e
      left; exact ⟨e.1, List.eq_nil_of_length_eq_zero e0, e.2.2⟩
    · cases e
      right
      by_cases h : c = xs.length
      · left; exact ⟨g, rfl, h⟩
      · right; exact ⟨g, rfl, h⟩
  clear hi0 hz0 hz1 hz2 ho hx
  rcases hway with ⟨rfl, rfl, rfl⟩ | ⟨g, rfl, rfl⟩ | ⟨g, rfl, hcp⟩
  all_goals (
    go_enter Try.func36, Try.ntmps36
    go_wp2_with (with_reducible refine hold_at 25 rfl ?_)
    refine hold_out ?_
    refine wpAppM rfl _ _ 23 rfl K 44 i0 _ 2 16 Try.underlying23 HI0.out HZ0.out HZ1.out HZ2.out rfl (by omega) _ _ _ rfl HO.out ⟨vb, 0, none⟩ 1 1 (hL x) rfl (ho_cells HX.out) rfl (hL_ones x) (by unfold maxLen; first | omega | (simp; omega)) (by first | omega | (simp; omega)) hK ?_
    intro v2 w2 hown hm hb
    have HOW := Lib.hid hown
    have HM := Lib.hid hm
    have HB := Lib.hid hb
    clear hown hm hb
    obtain ⟨A2, c2, rfl⟩ := slice_own HOW.out
    go_wp2_with fail
    go_ret
    refine ⟨A2, c2, rfl, ?_, HM.out, HB.out⟩
    first
    | (rw [List.take_length, List.drop_length, hc_app, hc_one]; exact HOW.out)
    | exact HOW.out)
set_option maxRecDepth 100000 in
set_option maxHeartbeats 4000000 in
/-- There is room: in place. -/
theorem insShift (xs : List Ho) (x : Ho) (g c K vb i n : Nat) (w : World) (hn : xs.length = n) (ho : w.ownsRow K 44 2 (.slice (some ⟨g, 0, none⟩) n c) n (hc xs)) (hx : Lies vb (hoC x) 44 w) (hl : n ≤ 100000) (hi : i < n) (hc1 : n + 1 ≤ c) (hg : vb ≠ g) :
    Calls Try.prog 36 #[.slice (some ⟨g, 0, none⟩) n c, .int .i64 i, .slice (some ⟨vb, 0, none⟩) 1 1] w (GivesIns xs i x K (.slice (some ⟨g, 0, none⟩) n c) w) := by
  obtain ⟨_, _, e, _, hcm, _⟩ := own_form ho (by omega)
  cases e
  unfold maxLen at hcm
  have hgw := (ho.lt g rfl).2
  obtain ⟨us, hu, ho1⟩ := own_more ho hc1
  have hd : (hc (xs.drop i)).length = (n - i) * 2 := by rw [hc_len, List.length_drop, hn]
  have hsrc : ∀ j v, (hc (xs.drop i))[j]? = some v → w.drew.cell? ((⟨g, i * 2, none⟩ : Addr).add j) = some v := by
    intro j v hj
    rw [Go.WideShapes.add_plain]
    have hjl := (List.getElem?_eq_some_iff.1 hj).1
    show w.cell? ⟨g, i * 2 + j, none⟩ = some v
    rw [ho.cellAt _ (by omega), ← hc_drop, List.getElem?_drop] at *
    exact hj
  obtain ⟨w1, hr1, ho2, hm2⟩ := run_copy_own (P := Try.prog) ho1.drew 23 23 Try.underlying23 hoSize ((i + 1) * 2) (n - i) (c - (i + 1)) ⟨g, i * 2, none⟩ (n + 1 - i) (c - i) (hc (xs.drop i)) (by rw [hd]; simp only [Nat.min_def]; split <;> omega) hsrc (by rw [hd]; omega) (hc_ones _)
  have hx1 : Lies vb (hoC x) 44 w1 := hm2.lies (show Lies vb (hoC x) 44 w.drew from hx) hg
  obtain ⟨w2, hr2, ho3, hm3⟩ := run_copy_own (P := Try.prog) ho2 23 23 Try.underlying23 hoSize (i * 2) (n + 1 - i) (c - i) ⟨vb, 0, none⟩ 1 1 (hL x) (by simp only [Nat.min_def]; split <;> first | rfl | (exfalso; omega)) (ho_cells hx1) (by show i * 2 + 2 ≤ (n + 1) * 2; omega) (hL_ones x)
  rw [ins_shift hn hu hi _ rfl] at ho3
  have HF := Lib.hid (show w2.ownsRow K 44 2 (.slice (some ⟨g, 0, none⟩) (n + 1) c) (n + 1) (hc (xs.take i ++ x :: xs.drop i)) from ho3)
  have HM := Lib.hid (show Mine (fun k => (Value.slice (some ⟨g, 0, none⟩) n c).ownBlock = some k) w w2 from
    ((⟨rfl, rfl, rfl, Nat.le_refl _, fun _ _ _ => rfl⟩ : Mine (· = g) w w.drew).trans (hm2.trans hm3)).sub fun k _ hk => by subst hk; rfl)
  have HR1 := Lib.hid hr1
  have HR2 := Lib.hid hr2
  have HN := Lib.hid hn
  obtain ⟨cb, hsh⟩ : ∃ k, w.shape? g = some (44, k) ∧ k ≠ 0 := by
    obtain ⟨_, ⟨e, _⟩ | ⟨g', cap, cur, e, _, hh, _, _, hs, _⟩⟩ := ho
    · cases e
    · cases e; exact ⟨cur.size, by unfold World.shape?; rw [hh], by omega⟩
  have hov : ∀ lb cb, (callFunc 51 #[.slice (some ⟨vb, 0, none⟩) 1 1, .slice (some ⟨g, (i + 1) * 2, none⟩) lb cb]).run Try.prog w = .ok (.value (.bool false)) w := fun lb cb => by
    obtain ⟨i0, hi0, hz0, hz1, hz2⟩ := info_parts hoInfoC
    rw [run_callFunc_extern Try.func51 (by kernel_rfl) (by kernel_rfl) (by kernel_rfl) (e := Extern.SlicesOverlaps.overlaps #[23, 23] #[4]) (by kernel_rfl),
      Lib.run_overlaps_apart w 23 4 44 Try.underlying23 2 (fun w => by simp [sizeOf, typeInfo, hi0, hz1]) ⟨vb, 0, none⟩ ⟨g, (i + 1) * 2, none⟩ 1 1 lb cb hg 44 44 2 _ (by unfold World.shape?; rw [show w.heap[vb]? = _ from hx]; rfl) hsh.1 hsh.2 (hx.free 0) (hx.free 2)]
    rfl
  have hz2 : ((i : Int) == (n : Int)) = false := ne_b (by omega)
  have hw1 : IntKind.i64.wrap ((i : Int) + 1) = (i : Int) + 1 := wrap64_in (by omega) (by omega)
  have hw2 : IntKind.i64.wrap ((n : Int) + 1) = (n : Int) + 1 := wrap64_in (by omega) (by omega)
  have hb2 : ¬ (c = i + 1) := by omega
  have hb4 : ¬ (c = i) := by omega
  have htn : ((i : Int) + 1).toNat = i + 1 := by omega
  have hb1 : (0 : Int) ≤ (i : Int) + 1 := by omega
  have hin : i ≤ n := by omega
  have hb3 : (i : Int) ≤ (n : Int) + 1 := by omega
  have hb6 : i ≤ n + 1 := by omega
  have hb5 : ¬ ((c : Int) < (n : Int) + 1) := by omega
  clear ho ho1 ho2 ho3 hm2 hm3 hr1 hr2 hsrc hd hx hx1 hsh hu hn
  go_enter Try.func36, Try.ntmps36
  go_wp2_with (simp only [hov])
  refine wide_tail 8 (fun w5 => w5 = w.drew) (by kernel_rfl) (by kernel_rfl) rfl ?_
  simp only [List.take_succ_cons, List.take_zero, List.drop_succ_cons, List.drop_zero]
  repeat (first
  | go_big_quiet_skip
  | (go_big_quiet_want
     apply wide_op
     · (intro w5 h5; go_simp; first | done | with_reducible rfl | exact ⟨rfl, h5⟩)
     (try simp only [Act.put, List.setIfInBounds_toArray, List.set_cons_zero, List.set_cons_succ])
     go_big_quiet_on))
  refine wpQuiet_nil ?_
  intro w4 h4
  subst h4
  refine wpList_copy_run rfl _ _ 23 23 rfl _ _ rfl rfl (HR1.out _) ?_
  go_wp2_with (with_reducible refine hold_at 82 rfl ?_)
  refine hold_out ?_
  refine wpList_copy_run rfl _ _ 23 23 rfl _ _ rfl rfl (HR2.out _) ?_
  go_wp2_with fail
  go_ret
  rw [← HN.out] at HF HM ⊢
  exact ⟨some ⟨g, 0, none⟩, c, rfl, HF.out, HM.out, fun k hk => .inl hk⟩
set_option maxRecDepth 100000 in
set_option maxHeartbeats 4000000 in
/-- There is no room: a new row. -/
theorem insGrow (xs : List Ho) (x : Ho) (g c K vb i n : Nat) (w : World) (hn : xs.length = n) (ho : w.ownsRow K 44 2 (.slice (some ⟨g, 0, none⟩) n c) n (hc xs)) (hx : Lies vb (hoC x) 44 w) (hl : n ≤ 100000) (hi : i < n) (hc1 : ¬ n + 1 ≤ c) (hK : K ≤ w.heap.size) :
    Calls Try.prog 36 #[.slice (some ⟨g, 0, none⟩) n c, .int .i64 i, .slice (some ⟨vb, 0, none⟩) 1 1] w (GivesIns xs i x K (.slice (some ⟨g, 0, none⟩) n c) w) := by
  obtain ⟨_, _, e, hnc, hcm, _⟩ := own_form ho (by omega)
  cases e
  have hce : n = c := by omega
  subst hce
  have hgw := (ho.lt g rfl).2
  obtain ⟨i0, hi0, hz0, hzs, hzb⟩ := info_parts hoInfoC
  have hd : (hc (xs.drop i)).length = (n - i) * 2 := by rw [hc_len, List.length_drop, hn]
  have ht : (hc (xs.take i)).length = i * 2 := by rw [hc_len, List.length_take, hn, Nat.min_eq_left (by omega)]
  obtain ⟨G, hG⟩ : ∃ G, G = grownCap w (n + 1) n 44 := ⟨_, rfl⟩
  have hGn : n + 1 ≤ G := by rw [hG]; exact grownCap_ge w _ _ _
  have hGm : G ≤ maxLen := by rw [hG]; exact grownCap_le_maxLen w (n + 1) n _ (by unfold maxLen; omega)
  have hold : (Builtin.firstCells i0.size i (.slice (some ⟨g, 0, none⟩) i n)).run Try.prog w.drew = .ok (hc (xs.take i)).toArray w.drew := by
    rw [hzs]
    refine run_firstCells_some w.drew 2 i ⟨g, 0, none⟩ i n (hc (xs.take i)) ht (fun j v hj => ?_)
    rw [Go.WideShapes.add_plain]
    have hjl := (List.getElem?_eq_some_iff.1 hj).1
    show w.cell? ⟨g, 0 + j, none⟩ = some v
    rw [Nat.zero_add, ho.cellAt _ (by omega)]
    rw [← hc_take, List.getElem?_take, if_pos (by omega)] at hj
    exact hj
  have hrz : ∀ ty, (Builtin.append_ #[23, 3] ty #[.slice (some ⟨g, 0, none⟩) i n, .int .i64 ((n : Int) + 1 - (i : Int))]).run Try.prog w = .ok (.slice (some ⟨w.heap.size, 0, none⟩) (n + 1) G) (w.drew.alloc (.cells ((hc (xs.take i)).toArray ++ Builtin.zeroCells (Value.agg #[.int .i64 0, .int .i64 0]).cells (n + 1 - i) ++ Builtin.zeroCells (Value.agg #[.int .i64 0, .int .i64 0]).cells (G - (n + 1))) 44)) := fun ty => by
    have hik : i + (n + 1 - i) = n + 1 := by omega
    have h := Lib.run_append_grow_zeros w 23 3 ty 44 i0 _ .i64 .i64 Try.underlying23 Try.underlying3 hi0 hz0 (some ⟨g, 0, none⟩) i n (hc (xs.take i)) hold (n + 1 - i) (by omega) (by omega) (by omega) (by omega) (by rw [hzb]; omega) (by rw [hzb, hik]; exact growslice_fits (by omega) (by omega))
    rw [hik, ← hG] at h
    rw [show (n : Int) + 1 - (i : Int) = ((n + 1 - i : Nat) : Int) by omega]
    exact h
  obtain ⟨zs, hzl, ho1⟩ := own_zeros (w := w.drew) (K := K) (k := i) (n := n + 1) (c := G) (T := 44) (z := Value.agg #[.int .i64 0, .int .i64 0]) (cs := hc (xs.take i)) hK rfl ht (by omega) hGn hGm
  obtain ⟨w1, hw1⟩ : ∃ w1, w1 = w.drew.alloc (.cells ((hc (xs.take i)).toArray ++ Builtin.zeroCells (Value.agg #[.int .i64 0, .int .i64 0]).cells (n + 1 - i) ++ Builtin.zeroCells (Value.agg #[.int .i64 0, .int .i64 0]).cells (G - (n + 1))) 44) := ⟨_, rfl⟩
  have hb1 : Below w.heap.size w w1 := by rw [hw1]; exact below_al (below_drewOf (Below.refl _ _))
  rw [← hw1] at ho1 hrz
  obtain ⟨w2, hr2, ho2, hm2⟩ := run_copy_own (P := Try.prog) (show w1.ownsRow K 44 2 (.slice (some ⟨w.heap.size, 0, none⟩) (n + 1) G) (n + 1) (hc (xs.take i) ++ zs) from ho1) 23 23 Try.underlying23 hoSize (i * 2) (n + 1 - i) (G - i) ⟨vb, 0, none⟩ 1 1 (hL x) (by simp only [Nat.min_def]; split <;> first | rfl | (exfalso; omega)) (ho_cells (lies_upM hx hb1)) (by show i * 2 + 2 ≤ (n + 1) * 2; omega) (hL_ones x)
  have hsrc : ∀ j v, (hc (xs.drop i))[j]? = some v → w2.drew.cell? ((⟨g, i * 2, none⟩ : Addr).add j) = some v := by
    intro j v hj
    rw [Go.WideShapes.add_plain]
    have hjl := (List.getElem?_eq_some_iff.1 hj).1
    show w2.cell? ⟨g, i * 2 + j, none⟩ = some v
    rw [World.cell?_of_block (w := w) ((hm2.block g (by have := hb1.size; omega) (by show ¬ g = w.heap.size; omega)).trans (hb1.block g hgw)), ho.cellAt _ (by omega)]
    rw [← hc_drop, List.getElem?_drop] at hj
    exact hj
  obtain ⟨w3, hr3, ho3, hm3⟩ := run_copy_own (P := Try.prog) ho2.drew 23 23 Try.underlying23 hoSize ((i + 1) * 2) (n - i) (G - (i + 1)) ⟨g, i * 2, none⟩ (n - i) (n - i) (hc (xs.drop i)) (by rw [hd]; simp only [Nat.min_def]; split <;> omega) hsrc (by rw [hd]; omega) (hc_ones _)
  rw [ins_grow hn hzl hi _ rfl] at ho3
  have HF := Lib.hid (show w3.ownsRow K 44 2 (.slice (some ⟨w.heap.size, 0, none⟩) (n + 1) G) (n + 1) (hc (xs.take i ++ x :: xs.drop i)) from ho3)
  have HM := Lib.hid (show Mine (fun k => (Value.slice (some ⟨g, 0, none⟩) n n).ownBlock = some k) w w3 from
    (Mine.of_below hb1).next (fun k hk => .inr (by show w.heap.size ≤ k; exact Nat.le_of_eq hk.symm)) (hm2.trans ((⟨rfl, rfl, rfl, Nat.le_refl _, fun _ _ _ => rfl⟩ : Mine (· = w.heap.size) w2 w2.drew).trans hm3)))
  have HR2 := Lib.hid hr2
  have HR3 := Lib.hid hr3
  have HN := Lib.hid hn
  unfold maxLen at hGm
  have hz2 : ((i : Int) == (n : Int)) = false := ne_b (by omega)
  have hw0 : IntKind.i64.wrap ((i : Int) + 1) = (i : Int) + 1 := wrap64_in (by omega) (by omega)
  have hw2 : IntKind.i64.wrap ((n : Int) + 1) = (n : Int) + 1 := wrap64_in (by omega) (by omega)
  have hw3 : IntKind.i64.wrap ((n : Int) + 1 - (i : Int)) = (n : Int) + 1 - (i : Int) := wrap64_in (by omega) (by omega)
  have hb2 : ¬ (G = i + 1) := by omega
  have hb3 : ¬ (G = i) := by omega
  have hb4 : ¬ (n = i) := by omega
  have htn : ((i : Int) + 1).toNat = i + 1 := by omega
  have hb6 : (0 : Int) ≤ (i : Int) + 1 := by omega
  have hin : i ≤ n := by omega
  have hb7 : (i : Int) ≤ (n : Int) + 1 := by omega
  have hb8 : i ≤ n + 1 := by omega
  have HB1 := Lib.hid hb1
  clear ho ho1 ho2 ho3 hm2 hm3 hr2 hr3 hsrc hd ht hold hx hn hw1 hi0 hz0 hzs hzb hzl hb1 hG
  go_enter Try.func36, Try.ntmps36
  go_wp2_with (with_reducible refine hold_at 40 rfl ?_)
  refine hold_out ?_
  refine Lib.wpList_append_run _ rfl _ _ 23 3 rfl _ _ rfl rfl _ _ (hrz _) ?_
  go_wp2_with (with_reducible refine hold_at 45 rfl ?_)
  refine hold_out ?_
  refine wpList_copy_run rfl _ _ 23 23 rfl _ _ rfl rfl (HR2.out _) ?_
  simp only [Act.put, List.setIfInBounds_toArray, List.set_cons_zero, List.set_cons_succ]
  go_wp2_with fail
  refine wide_tail 8 (fun w5 => w5 = w2.drew) (by kernel_rfl) (by kernel_rfl) rfl ?_
  simp only [List.take_succ_cons, List.take_zero, List.drop_succ_cons, List.drop_zero]
  repeat (first
  | go_big_quiet_skip
  | (go_big_quiet_want
     apply wide_op
     · (intro w5 h5; go_simp; first | done | with_reducible rfl | exact ⟨rfl, h5⟩)
     (try simp only [Act.put, List.setIfInBounds_toArray, List.set_cons_zero, List.set_cons_succ])
     go_big_quiet_on))
  refine wpQuiet_nil ?_
  intro w4 h4
  subst h4
  refine wpList_copy_run rfl _ _ 23 23 rfl _ _ rfl rfl (HR3.out _) ?_
  go_wp2_with fail
  go_ret
  rw [← HN.out] at HF HM ⊢
  exact ⟨some ⟨w.heap.size, 0, none⟩, G, rfl, HF.out, HM.out, fun k hk => .inr (by cases hk; exact Nat.le_refl _)⟩
/-- slices.Insert of one. -/
theorem ckInsert (xs : List Ho) (x : Ho) (A : Option Addr) (c K vb i : Nat) (w : World) (ho : w.ownsRow K 44 2 (.slice A xs.length c) xs.length (hc xs)) (hx : Lies vb (hoC x) 44 w) (hl : xs.length ≤ 100000) (hi : i ≤ xs.length) (hK : K ≤ w.heap.size) (hg : ∀ g, (Value.slice A xs.length c).ownBlock = some g → vb ≠ g) :
    Calls Try.prog 36 #[.slice A xs.length c, .int .i64 i, .slice (some ⟨vb, 0, none⟩) 1 1] w (GivesIns xs i x K (.slice A xs.length c) w) := by
  by_cases he : i = xs.length
  · subst he
    exact insEnd xs x A c K vb w ho hx hl hK
  · have hin : i < xs.length := by omega
    obtain ⟨_, ⟨e, e0⟩ | ⟨g, cap, cur, e, _⟩⟩ := id ho
    · omega
    · cases e
      by_cases hr : xs.length + 1 ≤ c
      · exact insShift xs x g c K vb i _ w rfl ho hx hl hin hr (hg g rfl)
      · exact insGrow xs x g c K vb i _ w rfl ho hx hl hin hr hK
end Wm
end Go.Proofs.Ytciagbeamphihaa
