/- slices.Clone of cells; slices.Insert of one cell into a row of the call's own; slices.Delete of one. -/
import Derived.Test.YtpjgdpdgfchhkaaStoreCb
import Derived.Laws.Externs
import Derived.Lib.Overlaps
import Derived.Lib.AppendZerosOnto
import Derived.Lib.SliceRun
import Derived.Deep.DeepAppendRoom
namespace Go.Proofs.Ytpjgdpdgfchhkaa
open Go.ChangeShapes Go.WideShapes Go.ChangeAt Go.RowKit
set_option linter.unusedVariables false
set_option maxRecDepth 8000
namespace So
open Gen (TellsB row_one flat_len flat_get)
theorem clc_one (x : Cl) : clc [x] = clL x := by simp [clc]
set_option maxHeartbeats 1000000 in
theorem ckClone (xs : List Cl) (n : Nat) (hn : n = xs.length) (A : Option Addr) (c : Nat) (w : World) (hA : Row w A (clc xs)) (hl : n ≤ 100000) : Calls Try.prog 34 #[.slice A n c] w (GivesOC n xs w) := by
  have hcl : (clc xs).length = n * 2 := by rw [clc_len, hn]
  rcases A with _ | ⟨b, off, sp⟩
  · have e : xs = [] := by
      rcases hA with h | ⟨_, _, h, _⟩
      · rw [h] at hcl; exact List.eq_nil_of_length_eq_zero (by simp at hcl; omega)
      · cases h
    subst e
    have hn0 : n = 0 := hn
    subst hn0
    clear hA hcl hn hl
    have q : ∀ (w : World) (n c n' c' : Nat), (binOp .eql 22 (.slice none n c) (.slice none n' c')).run Try.prog w = .ok (.bool true) w := fun w n c n' c' => Lib.run_eql_slice_nil w _ _ none n c n' c' Try.underlying22
    go_enter Try.func34, Try.ntmps34
    go_wp2_with fail
    go_ret
    exact ⟨none, 0, rfl, own_none, Below.refl _ _⟩
  · obtain ⟨i0, hi0, hz0, hz1, hz2⟩ := Gen.info_of CInfo
    have HI0 := Lib.hid hi0; have HZ0 := Lib.hid hz0; have HZ1 := Lib.hid hz1; have HZ2 := Lib.hid hz2
    have HA := Lib.hid hA
    have HCL := Lib.hid hcl
    have q : ∀ (w : World) (n c n' c' : Nat), (binOp .eql 22 (.slice (some ⟨b, off, sp⟩) n c) (.slice none n' c')).run Try.prog w = .ok (.bool false) w := fun w n c n' c' => Lib.run_eql_slice_nil w _ _ (some _) n c n' c' Try.underlying22
    have hcells : ∀ j u, (clc xs)[j]? = some u → (w.alloc (.cells #[] 43)).cell? ((⟨b, off, sp⟩ : Addr).add j) = some u := by
      rcases hA with hA | ⟨b', off', e, hA⟩
      · intro j u hu; rw [hA] at hu; cases hu
      · cases e
        intro j u hu
        rw [Go.WideShapes.add_plain]
        exact Gen.cell_below (hA j u hu) (below_al (Below.refl _ _))
    have HCE := Lib.hid hcells
    clear hA hi0 hz0 hz1 hz2 hn hcl hcells
    go_enter Try.func34, Try.ntmps34
    go_wp2_with (at_builtin; refine hold_mk ?_)
    refine hold_out ?_
    refine wpList_append_own_at _ rfl _ _ 22 rfl w.heap.size 43 i0 _ 2 32 Try.underlying22 HI0.out HZ0.out HZ1.out HZ2.out rfl (by omega) _ 0 [] rfl
      (own_new (Nat.le_refl _)) ⟨b, off, sp⟩ n c (clc xs) rfl HCL.out HCE.out (clc_ones xs) (by unfold maxLen; omega) (by omega) (by simp) ?_
    intro v2 w2 hown hg _ hat
    have HOW := Lib.hid hown
    have HB := Lib.hid ((below_al (o := .cells #[] 43) (Below.refl w.heap.size w)).grown hg (by simp) (fun q hq => by cases hq; simp))
    clear hown hg hat
    go_wp2_with fail
    go_ret
    have ho := HOW.out
    rw [Nat.zero_add, List.nil_append] at ho
    obtain ⟨A', c', e', _⟩ := own_form ho (by omega)
    subst e'
    exact ⟨A', c', rfl, ho, HB.out⟩
theorem clc_take (xs : List Cl) (n : Nat) : (clc xs).take (n * 2) = clc (xs.take n) := by
  rcases Nat.lt_or_ge n xs.length with h | h
  · have e : clc xs = clc (xs.take n) ++ clc (xs.drop n) := by rw [← clc_app, List.take_append_drop]
    have hl : (clc (xs.take n)).length = n * 2 := by rw [clc_len, List.length_take]; omega
    rw [e, ← hl, List.take_left]
  · rw [List.take_of_length_le h, List.take_of_length_le (by rw [clc_len]; omega)]
theorem clc_drop (xs : List Cl) (n : Nat) : (clc xs).drop (n * 2) = clc (xs.drop n) := by
  rcases Nat.lt_or_ge n xs.length with h | h
  · have e : clc xs = clc (xs.take n) ++ clc (xs.drop n) := by rw [← clc_app, List.take_append_drop]
    have hl : (clc (xs.take n)).length = n * 2 := by rw [clc_len, List.length_take]; omega
    rw [e, ← hl, List.drop_left]
  · rw [List.drop_eq_nil_of_le h, List.drop_eq_nil_of_le (by rw [clc_len]; omega)]; rfl
theorem clSize : (Try.prog.info? 43).map (·.size) = some 2 := by kernel_rfl
/-- The row behind an insertion. -/
def GivesIns (xs : List Cl) (i : Nat) (x : Cl) (K : Nat) (v : Value) (w : World) (e : Ending) (w' : World) : Prop :=
  ∃ A c, e = .returned (.slice A (xs.length + 1) c) ∧ w'.ownsRow K 43 2 (.slice A (xs.length + 1) c) (xs.length + 1) (clc (xs.take i ++ x :: xs.drop i)) ∧ Gen.Mine (fun k => v.ownBlock = some k) w w' ∧
    (∀ k, (Value.slice A (xs.length + 1) c).ownBlock = some k → v.ownBlock = some k ∨ w.heap.size ≤ k)
theorem cl_cells {w : World} {vb : Nat} {x : Cl} (h : Lies vb (clC x) 43 w) : ∀ j v, (clL x)[j]? = some v → w.cell? ((⟨vb, 0, none⟩ : Addr).add j) = some v := by
  intro j v hj
  rw [Go.WideShapes.add_plain]
  refine h.cell ?_
  rw [Nat.zero_add, ← hj]
  show (#[Value.string (kS x.n), Value.string (kS x.b)] : Array Value)[j]? = [Value.string (kS x.n), Value.string (kS x.b)][j]?
  simp
theorem clL_ones (x : Cl) : ∀ u ∈ clL x, u.oneCell' = true := by
  intro u hu
  simp only [clL, List.mem_cons, List.not_mem_nil, or_false] at hu
  rcases hu with rfl | rfl <;> rfl
theorem ins_one (xs : List Cl) (i : Nat) (x : Cl) : clc (xs.take i ++ x :: xs.drop i) = clc (xs.take i) ++ clL x ++ clc (xs.drop i) := by
  rw [clc_app, show x :: xs.drop i = [x] ++ xs.drop i from rfl, clc_app, clc_one, List.append_assoc]
/-- In place: the tail moves, then the one is laid. -/
theorem ins_shift {xs : List Cl} {us : List Value} {i n : Nat} {x : Cl} (hn : xs.length = n) (hu : us.length = 2) (hi : i < n) (Z : List Value)
    (hZ : Z = (clc xs ++ us).take ((i + 1) * 2) ++ clc (xs.drop i) ++ (clc xs ++ us).drop ((i + 1) * 2 + (clc (xs.drop i)).length)) :
    Z.take (i * 2) ++ clL x ++ Z.drop (i * 2 + (clL x).length) = clc (xs.take i ++ x :: xs.drop i) := by
  have hl : (clc xs ++ us).length = (n + 1) * 2 := by rw [List.length_append, clc_len, hn, hu]; omega
  have hd : (clc (xs.drop i)).length = (n - i) * 2 := by rw [clc_len, List.length_drop, hn]
  have e1 : (clc xs ++ us).drop ((i + 1) * 2 + (clc (xs.drop i)).length) = [] := List.drop_eq_nil_of_le (by rw [hl, hd]; omega)
  rw [e1, List.append_nil] at hZ
  have hk : ((clc xs ++ us).take ((i + 1) * 2)).length = (i + 1) * 2 := by rw [List.length_take, hl]; omega
  have e2 : Z.take (i * 2) = clc (xs.take i) := by
    rw [hZ, List.take_append_of_le_length (by rw [hk]; omega), List.take_take, Nat.min_eq_left (by omega), List.take_append_of_le_length (by rw [clc_len, hn]; omega), clc_take]
  have e3 : Z.drop (i * 2 + (clL x).length) = clc (xs.drop i) := by
    rw [hZ, show i * 2 + (clL x).length = ((clc xs ++ us).take ((i + 1) * 2)).length by rw [hk]; show i * 2 + 2 = _; omega, List.drop_left]
  rw [e2, e3, ins_one]
/-- A new row: the one is laid, then the tail. -/
theorem ins_grow {xs : List Cl} {zs : List Value} {i n : Nat} {x : Cl} (hn : xs.length = n) (hu : zs.length = (n + 1 - i) * 2) (hi : i < n) (Z : List Value)
    (hZ : Z = (clc (xs.take i) ++ zs).take (i * 2) ++ clL x ++ (clc (xs.take i) ++ zs).drop (i * 2 + (clL x).length)) :
    Z.take ((i + 1) * 2) ++ clc (xs.drop i) ++ Z.drop ((i + 1) * 2 + (clc (xs.drop i)).length) = clc (xs.take i ++ x :: xs.drop i) := by
  have hd : (clc (xs.drop i)).length = (n - i) * 2 := by rw [clc_len, List.length_drop, hn]
  have ht : (clc (xs.take i)).length = i * 2 := by rw [clc_len, List.length_take, hn, Nat.min_eq_left (by omega)]
  have e0 : (clc (xs.take i) ++ zs).take (i * 2) = clc (xs.take i) := by rw [← ht, List.take_left]
  rw [e0] at hZ
  have h2 : (clL x).length = 2 := rfl
  have hZl : Z.length = (n + 1) * 2 := by
    rw [hZ]; simp only [List.length_append, List.length_drop, ht, hu, h2]; omega
  have e1 : Z.take ((i + 1) * 2) = clc (xs.take i) ++ clL x := by
    rw [hZ, show (i + 1) * 2 = (clc (xs.take i) ++ clL x).length by rw [List.length_append, ht, h2]; omega, List.take_left]
  have e2 : Z.drop ((i + 1) * 2 + (clc (xs.drop i)).length) = [] := List.drop_eq_nil_of_le (by rw [hZl, hd]; omega)
  rw [e1, e2, List.append_nil, ins_one]
set_option maxRecDepth 100000 in
set_option maxHeartbeats 2000000 in
/-- At the end: an append. -/
theorem insEnd (xs : List Cl) (x : Cl) (A : Option Addr) (c K vb : Nat) (w : World) (ho : w.ownsRow K 43 2 (.slice A xs.length c) xs.length (clc xs)) (hx : Lies vb (clC x) 43 w) (hl : xs.length ≤ 100000) (hK : K ≤ w.heap.size) :
    Calls Try.prog 46 #[.slice A xs.length c, .int .i64 xs.length, .slice (some ⟨vb, 0, none⟩) 1 1] w (GivesIns xs xs.length x K (.slice A xs.length c) w) := by
  obtain ⟨i0, hi0, hz0, hz1, hz2⟩ := Gen.info_of CInfo
  have HI0 := Lib.hid hi0; have HZ0 := Lib.hid hz0; have HZ1 := Lib.hid hz1; have HZ2 := Lib.hid hz2
  have HO := Lib.hid ho
  have HX := Lib.hid hx
  obtain ⟨_, _, e, hcl, hcm, _⟩ := own_form ho (by omega)
  cases e
  unfold maxLen at hcm
  have hway : (A = none ∧ xs = [] ∧ c = 0) ∨ (∃ g, A = some ⟨g, 0, none⟩ ∧ c = xs.length) ∨ (∃ g, A = some ⟨g, 0, none⟩ ∧ ¬ c = xs.length) := by
    obtain ⟨_, ⟨e, e0⟩ | ⟨g, cap, cur, e, _⟩⟩ := ho
    · simp only [Value.slice.injEq] at e
      left; exact ⟨e.1, List.eq_nil_of_length_eq_zero e0, e.2.2⟩
    · cases e
      right
      by_cases h : c = xs.length
      · left; exact ⟨g, rfl, h⟩
      · right; exact ⟨g, rfl, h⟩
  clear hi0 hz0 hz1 hz2 ho hx
  rcases hway with ⟨rfl, rfl, rfl⟩ | ⟨g, rfl, rfl⟩ | ⟨g, rfl, hcp⟩
  all_goals (
    go_enter Try.func46, Try.ntmps46
    go_wp2_with (with_reducible refine Gen.hold_at 25 rfl ?_)
    refine hold_out ?_
    refine Gen.wpAppM rfl _ _ 22 rfl K 43 i0 _ 2 32 Try.underlying22 HI0.out HZ0.out HZ1.out HZ2.out rfl (by omega) _ _ _ rfl HO.out ⟨vb, 0, none⟩ 1 1 (clL x) rfl (cl_cells HX.out) rfl (clL_ones x) (by unfold maxLen; first | omega | (simp; omega)) (by first | omega | (simp; omega)) hK ?_
    intro v2 w2 hown hm hb
    have HOW := Lib.hid hown
    have HM := Lib.hid hm
    have HB := Lib.hid hb
    clear hown hm hb
    obtain ⟨A2, c2, rfl⟩ := Gen.own_slice HOW.out (by omega)
    go_wp2_with fail
    go_ret
    refine ⟨A2, c2, rfl, ?_, HM.out, HB.out⟩
    first
    | (rw [List.take_length, List.drop_length, clc_app, clc_one]; exact HOW.out)
    | exact HOW.out)
set_option maxRecDepth 100000 in
set_option maxHeartbeats 4000000 in
/-- There is room: in place. -/
theorem insShift (xs : List Cl) (x : Cl) (g c K vb i n : Nat) (w : World) (hn : xs.length = n) (ho : w.ownsRow K 43 2 (.slice (some ⟨g, 0, none⟩) n c) n (clc xs)) (hx : Lies vb (clC x) 43 w) (hl : n ≤ 100000) (hi : i < n) (hc1 : n + 1 ≤ c) (hg : vb ≠ g) :
    Calls Try.prog 46 #[.slice (some ⟨g, 0, none⟩) n c, .int .i64 i, .slice (some ⟨vb, 0, none⟩) 1 1] w (GivesIns xs i x K (.slice (some ⟨g, 0, none⟩) n c) w) := by
  obtain ⟨_, _, e, _, hcm, _⟩ := own_form ho (by omega)
  cases e
  unfold maxLen at hcm
  have hgw := (ho.lt g rfl).2
  obtain ⟨us, hu, ho1⟩ := Gen.own_more ho hc1
  have hd : (clc (xs.drop i)).length = (n - i) * 2 := by rw [clc_len, List.length_drop, hn]
  have hsrc : ∀ j v, (clc (xs.drop i))[j]? = some v → w.drew.cell? ((⟨g, i * 2, none⟩ : Addr).add j) = some v := by
    intro j v hj
    rw [Go.WideShapes.add_plain]
    have hjl := (List.getElem?_eq_some_iff.1 hj).1
    show w.cell? ⟨g, i * 2 + j, none⟩ = some v
    rw [ho.cellAt _ (by omega), ← clc_drop, List.getElem?_drop] at *
    exact hj
  obtain ⟨w1, hr1, ho2, hm2⟩ := Gen.run_copy_own (P := Try.prog) ho1.drew 22 22 Try.underlying22 clSize ((i + 1) * 2) (n - i) (c - (i + 1)) ⟨g, i * 2, none⟩ (n + 1 - i) (c - i) (clc (xs.drop i)) (by rw [hd]; simp only [Nat.min_def]; split <;> omega) hsrc (by rw [hd]; omega) (clc_ones _)
  have hx1 : Lies vb (clC x) 43 w1 := hm2.lies (show Lies vb (clC x) 43 w.drew from hx) hg
  obtain ⟨w2, hr2, ho3, hm3⟩ := Gen.run_copy_own (P := Try.prog) ho2 22 22 Try.underlying22 clSize (i * 2) (n + 1 - i) (c - i) ⟨vb, 0, none⟩ 1 1 (clL x) (by simp only [Nat.min_def]; split <;> first | rfl | (exfalso; omega)) (cl_cells hx1) (by show i * 2 + 2 ≤ (n + 1) * 2; omega) (clL_ones x)
  rw [ins_shift hn hu hi _ rfl] at ho3
  have HF := Lib.hid (show w2.ownsRow K 43 2 (.slice (some ⟨g, 0, none⟩) (n + 1) c) (n + 1) (clc (xs.take i ++ x :: xs.drop i)) from ho3)
  have HM := Lib.hid (show Gen.Mine (fun k => (Value.slice (some ⟨g, 0, none⟩) n c).ownBlock = some k) w w2 from
    ((⟨rfl, rfl, rfl, Nat.le_refl _, fun _ _ _ => rfl⟩ : Gen.Mine (· = g) w w.drew).trans (hm2.trans hm3)).sub fun k hk => by subst hk; rfl)
  have HR1 := Lib.hid hr1
  have HR2 := Lib.hid hr2
  have HN := Lib.hid hn
  obtain ⟨cb, hsh⟩ : ∃ k, w.shape? g = some (43, k) ∧ k ≠ 0 := by
    obtain ⟨_, ⟨e, _⟩ | ⟨g', cap, cur, e, _, hh, _, _, hs, _⟩⟩ := ho
    · cases e
    · cases e; exact ⟨cur.size, by unfold World.shape?; rw [hh], by omega⟩
  have hov : ∀ lb cb, (callFunc 49 #[.slice (some ⟨vb, 0, none⟩) 1 1, .slice (some ⟨g, (i + 1) * 2, none⟩) lb cb]).run Try.prog w = .ok (.value (.bool false)) w := fun lb cb => by
    obtain ⟨i0, hi0, hz0, hz1, hz2⟩ := Gen.info_of CInfo
    rw [run_callFunc_extern Try.func49 (by kernel_rfl) (by kernel_rfl) (by kernel_rfl) (e := Extern.SlicesOverlaps.overlaps #[22, 22] #[4]) (by kernel_rfl),
      Lib.run_overlaps_apart w 22 4 43 Try.underlying22 2 (fun w => by simp [sizeOf, typeInfo, hi0, hz1]) ⟨vb, 0, none⟩ ⟨g, (i + 1) * 2, none⟩ 1 1 lb cb hg 43 43 2 _ (by unfold World.shape?; rw [show w.heap[vb]? = _ from hx]; rfl) hsh.1 hsh.2 (hx.free 0) (hx.free 2)]
    rfl
  have hz2 : ((i : Int) == (n : Int)) = false := ne_b (by omega)
  have hw1 : IntKind.i64.wrap ((i : Int) + 1) = (i : Int) + 1 := wrapO (by omega) (by omega)
  have hw2 : IntKind.i64.wrap ((n : Int) + 1) = (n : Int) + 1 := wrapO (by omega) (by omega)
  have hb2 : ¬ (c = i + 1) := by omega
  have hb4 : ¬ (c = i) := by omega
  have htn : ((i : Int) + 1).toNat = i + 1 := by omega
  have hb1 : (0 : Int) ≤ (i : Int) + 1 := by omega
  have hin : i ≤ n := by omega
  have hb3 : (i : Int) ≤ (n : Int) + 1 := by omega
  have hb6 : i ≤ n + 1 := by omega
  have hb5 : ¬ ((c : Int) < (n : Int) + 1) := by omega
  clear ho ho1 ho2 ho3 hm2 hm3 hr1 hr2 hsrc hd hx hx1 hsh hu hn
  go_enter Try.func46, Try.ntmps46
  go_wp2_with (simp only [hov])
  refine wide_tail 8 (fun w5 => w5 = w.drew) (by kernel_rfl) (by kernel_rfl) rfl ?_
  simp only [List.take_succ_cons, List.take_zero, List.drop_succ_cons, List.drop_zero]
  repeat (first
  | go_big_quiet_skip
  | (go_big_quiet_want
     apply wide_op
     · (intro w5 h5; go_simp; first | done | with_reducible rfl | exact ⟨rfl, h5⟩)
     (try simp only [Act.put, List.setIfInBounds_toArray, List.set_cons_zero, List.set_cons_succ])
     go_big_quiet_on))
  refine wpQuiet_nil ?_
  intro w4 h4
  subst h4
  refine Gen.wpList_copy_run rfl _ _ 22 22 rfl _ _ rfl rfl (HR1.out _) ?_
  go_wp2_with (with_reducible refine Gen.hold_at 82 rfl ?_)
  refine hold_out ?_
  refine Gen.wpList_copy_run rfl _ _ 22 22 rfl _ _ rfl rfl (HR2.out _) ?_
  go_wp2_with fail
  go_ret
  rw [← HN.out] at HF HM ⊢
  exact ⟨some ⟨g, 0, none⟩, c, rfl, HF.out, HM.out, fun k hk => .inl hk⟩
set_option maxRecDepth 100000 in
set_option maxHeartbeats 4000000 in
/-- There is no room: a new row. -/
theorem insGrow (xs : List Cl) (x : Cl) (g c K vb i n : Nat) (w : World) (hn : xs.length = n) (ho : w.ownsRow K 43 2 (.slice (some ⟨g, 0, none⟩) n c) n (clc xs)) (hx : Lies vb (clC x) 43 w) (hl : n ≤ 100000) (hi : i < n) (hc1 : ¬ n + 1 ≤ c) (hK : K ≤ w.heap.size) :
    Calls Try.prog 46 #[.slice (some ⟨g, 0, none⟩) n c, .int .i64 i, .slice (some ⟨vb, 0, none⟩) 1 1] w (GivesIns xs i x K (.slice (some ⟨g, 0, none⟩) n c) w) := by
  obtain ⟨_, _, e, hnc, hcm, _⟩ := own_form ho (by omega)
  cases e
  have hce : n = c := by omega
  subst hce
  have hgw := (ho.lt g rfl).2
  obtain ⟨i0, hi0, hz0, hzs, hzb⟩ := Gen.info_of CInfo
  have hd : (clc (xs.drop i)).length = (n - i) * 2 := by rw [clc_len, List.length_drop, hn]
  have ht : (clc (xs.take i)).length = i * 2 := by rw [clc_len, List.length_take, hn, Nat.min_eq_left (by omega)]
  obtain ⟨G, hG⟩ : ∃ G, G = grownCap w (n + 1) n 43 := ⟨_, rfl⟩
  have hGn : n + 1 ≤ G := by rw [hG]; exact grownCap_ge w _ _ _
  have hGm : G ≤ maxLen := by rw [hG]; exact grownCap_le_maxLen w (n + 1) n _ (by unfold maxLen; omega)
  have hold : (Builtin.firstCells i0.size i (.slice (some ⟨g, 0, none⟩) i n)).run Try.prog w.drew = .ok (clc (xs.take i)).toArray w.drew := by
    rw [hzs]
    refine run_firstCells_some w.drew 2 i ⟨g, 0, none⟩ i n (clc (xs.take i)) ht (fun j v hj => ?_)
    rw [Go.WideShapes.add_plain]
    have hjl := (List.getElem?_eq_some_iff.1 hj).1
    show w.cell? ⟨g, 0 + j, none⟩ = some v
    rw [Nat.zero_add, ho.cellAt _ (by omega)]
    rw [← clc_take, List.getElem?_take, if_pos (by omega)] at hj
    exact hj
  have hrz : ∀ ty, (Builtin.append_ #[22, 3] ty #[.slice (some ⟨g, 0, none⟩) i n, .int .i64 ((n : Int) + 1 - (i : Int))]).run Try.prog w = .ok (.slice (some ⟨w.heap.size, 0, none⟩) (n + 1) G) (w.drew.alloc (.cells ((clc (xs.take i)).toArray ++ Builtin.zeroCells (Value.agg #[.string ⟨#[]⟩, .string ⟨#[]⟩]).cells (n + 1 - i) ++ Builtin.zeroCells (Value.agg #[.string ⟨#[]⟩, .string ⟨#[]⟩]).cells (G - (n + 1))) 43)) := fun ty => by
    have hik : i + (n + 1 - i) = n + 1 := by omega
    have h := Lib.run_append_grow_zeros w 22 3 ty 43 i0 _ .i64 .i64 Try.underlying22 Try.underlying3 hi0 hz0 (some ⟨g, 0, none⟩) i n (clc (xs.take i)) hold (n + 1 - i) (by omega) (by omega) (by omega) (by omega) (by rw [hzb]; omega) (by rw [hzb, hik]; exact growslice_fits (by omega) (by omega))
    rw [hik, ← hG] at h
    rw [show (n : Int) + 1 - (i : Int) = ((n + 1 - i : Nat) : Int) by omega]
    exact h
  obtain ⟨zs, hzl, ho1⟩ := Gen.own_zeros (w := w.drew) (K := K) (k := i) (n := n + 1) (c := G) (T := 43) (z := Value.agg #[.string ⟨#[]⟩, .string ⟨#[]⟩]) (cs := clc (xs.take i)) hK rfl ht (by omega) hGn hGm
  obtain ⟨w1, hw1⟩ : ∃ w1, w1 = w.drew.alloc (.cells ((clc (xs.take i)).toArray ++ Builtin.zeroCells (Value.agg #[.string ⟨#[]⟩, .string ⟨#[]⟩]).cells (n + 1 - i) ++ Builtin.zeroCells (Value.agg #[.string ⟨#[]⟩, .string ⟨#[]⟩]).cells (G - (n + 1))) 43) := ⟨_, rfl⟩
  have hb1 : Below w.heap.size w w1 := by rw [hw1]; exact below_al (below_drewOf (Below.refl _ _))
  rw [← hw1] at ho1 hrz
  obtain ⟨w2, hr2, ho2, hm2⟩ := Gen.run_copy_own (P := Try.prog) (show w1.ownsRow K 43 2 (.slice (some ⟨w.heap.size, 0, none⟩) (n + 1) G) (n + 1) (clc (xs.take i) ++ zs) from ho1) 22 22 Try.underlying22 clSize (i * 2) (n + 1 - i) (G - i) ⟨vb, 0, none⟩ 1 1 (clL x) (by simp only [Nat.min_def]; split <;> first | rfl | (exfalso; omega)) (cl_cells (hx.below hb1)) (by show i * 2 + 2 ≤ (n + 1) * 2; omega) (clL_ones x)
  have hsrc : ∀ j v, (clc (xs.drop i))[j]? = some v → w2.drew.cell? ((⟨g, i * 2, none⟩ : Addr).add j) = some v := by
    intro j v hj
    rw [Go.WideShapes.add_plain]
    have hjl := (List.getElem?_eq_some_iff.1 hj).1
    show w2.cell? ⟨g, i * 2 + j, none⟩ = some v
    rw [World.cell?_of_block (w := w) ((hm2.block g (by have := hb1.size; omega) (by show ¬ g = w.heap.size; omega)).trans (hb1.block g hgw)), ho.cellAt _ (by omega)]
    rw [← clc_drop, List.getElem?_drop] at hj
    exact hj
  obtain ⟨w3, hr3, ho3, hm3⟩ := Gen.run_copy_own (P := Try.prog) ho2.drew 22 22 Try.underlying22 clSize ((i + 1) * 2) (n - i) (G - (i + 1)) ⟨g, i * 2, none⟩ (n - i) (n - i) (clc (xs.drop i)) (by rw [hd]; simp only [Nat.min_def]; split <;> omega) hsrc (by rw [hd]; omega) (clc_ones _)
  rw [ins_grow hn hzl hi _ rfl] at ho3
  have HF := Lib.hid (show w3.ownsRow K 43 2 (.slice (some ⟨w.heap.size, 0, none⟩) (n + 1) G) (n + 1) (clc (xs.take i ++ x :: xs.drop i)) from ho3)
  have HM := Lib.hid (show Gen.Mine (fun k => (Value.slice (some ⟨g, 0, none⟩) n n).ownBlock = some k) w w3 from
    (Gen.Mine.up hb1).next (fun k hk => .inr (by show w.heap.size ≤ k; exact Nat.le_of_eq hk.symm)) (hm2.trans ((⟨rfl, rfl, rfl, Nat.le_refl _, fun _ _ _ => rfl⟩ : Gen.Mine (· = w.heap.size) w2 w2.drew).trans hm3)))
  have HR2 := Lib.hid hr2
  have HR3 := Lib.hid hr3
  have HN := Lib.hid hn
  unfold maxLen at hGm
  have hz2 : ((i : Int) == (n : Int)) = false := ne_b (by omega)
  have hw0 : IntKind.i64.wrap ((i : Int) + 1) = (i : Int) + 1 := wrapO (by omega) (by omega)
  have hw2 : IntKind.i64.wrap ((n : Int) + 1) = (n : Int) + 1 := wrapO (by omega) (by omega)
  have hw3 : IntKind.i64.wrap ((n : Int) + 1 - (i : Int)) = (n : Int) + 1 - (i : Int) := wrapO (by omega) (by omega)
  have hb2 : ¬ (G = i + 1) := by omega
  have hb3 : ¬ (G = i) := by omega
  have hb4 : ¬ (n = i) := by omega
  have htn : ((i : Int) + 1).toNat = i + 1 := by omega
  have hb6 : (0 : Int) ≤ (i : Int) + 1 := by omega
  have hin : i ≤ n := by omega
  have hb7 : (i : Int) ≤ (n : Int) + 1 := by omega
  have hb8 : i ≤ n + 1 := by omega
  have HB1 := Lib.hid hb1
  clear ho ho1 ho2 ho3 hm2 hm3 hr2 hr3 hsrc hd ht hold hx hn hw1 hi0 hz0 hzs hzb hzl hb1 hG
  go_enter Try.func46, Try.ntmps46
  go_wp2_with (with_reducible refine Gen.hold_at 40 rfl ?_)
  refine hold_out ?_
  refine Lib.wpList_append_run _ rfl _ _ 22 3 rfl _ _ rfl rfl _ _ (hrz _) ?_
  go_wp2_with (with_reducible refine Gen.hold_at 45 rfl ?_)
  refine hold_out ?_
  refine Gen.wpList_copy_run rfl _ _ 22 22 rfl _ _ rfl rfl (HR2.out _) ?_
  simp only [Act.put, List.setIfInBounds_toArray, List.set_cons_zero, List.set_cons_succ]
  go_wp2_with fail
  refine wide_tail 8 (fun w5 => w5 = w2.drew) (by kernel_rfl) (by kernel_rfl) rfl ?_
  simp only [List.take_succ_cons, List.take_zero, List.drop_succ_cons, List.drop_zero]
  repeat (first
  | go_big_quiet_skip
  | (go_big_quiet_want
     apply wide_op
     · (intro w5 h5; go_simp; first | done | with_reducible rfl | exact ⟨rfl, h5⟩)
     (try simp only [Act.put, List.setIfInBounds_toArray, List.set_cons_zero, List.set_cons_succ])
     go_big_quiet_on))
  refine wpQuiet_nil ?_
  intro w4 h4
  subst h4
  refine Gen.wpList_copy_run rfl _ _ 22 22 rfl _ _ rfl rfl (HR3.out _) ?_
  go_wp2_with fail
  go_ret
  rw [← HN.out] at HF HM ⊢
  exact ⟨some ⟨w.heap.size, 0, none⟩, G, rfl, HF.out, HM.out, fun k hk => .inr (by cases hk; exact Nat.le_refl _)⟩
/-- slices.Insert of one. -/
theorem ckInsert (xs : List Cl) (x : Cl) (A : Option Addr) (c K vb i : Nat) (w : World) (ho : w.ownsRow K 43 2 (.slice A xs.length c) xs.length (clc xs)) (hx : Lies vb (clC x) 43 w) (hl : xs.length ≤ 100000) (hi : i ≤ xs.length) (hK : K ≤ w.heap.size) (hg : ∀ g, (Value.slice A xs.length c).ownBlock = some g → vb ≠ g) :
    Calls Try.prog 46 #[.slice A xs.length c, .int .i64 i, .slice (some ⟨vb, 0, none⟩) 1 1] w (GivesIns xs i x K (.slice A xs.length c) w) := by
  by_cases he : i = xs.length
  · subst he
    exact insEnd xs x A c K vb w ho hx hl hK
  · have hin : i < xs.length := by omega
    obtain ⟨_, ⟨e, e0⟩ | ⟨g, cap, cur, e, _⟩⟩ := id ho
    · omega
    · cases e
      by_cases hr : xs.length + 1 ≤ c
      · exact insShift xs x g c K vb i _ w rfl ho hx hl hin hr (hg g rfl)
      · exact insGrow xs x g c K vb i _ w rfl ho hx hl hin hr hK
theorem clZero (w : World) : (zeroValue 43).run Try.prog w = .ok (.agg #[.string ⟨#[]⟩, .string ⟨#[]⟩]) w := by
  obtain ⟨i0, hi0, hz0, hz1, hz2⟩ := Gen.info_of CInfo
  simp [zeroValue, typeInfo, hi0, hz0]
/-- The row behind a deletion. -/
def GivesDel (xs : List Cl) (i g c K : Nat) (w : World) (e : Ending) (w' : World) : Prop :=
  e = .returned (.slice (some ⟨g, 0, none⟩) (xs.length - 1) c) ∧ w'.ownsRow K 43 2 (.slice (some ⟨g, 0, none⟩) (xs.length - 1) c) (xs.length - 1) (clc (xs.take i ++ xs.drop (i + 1))) ∧ Gen.Mine (· = g) w w'
set_option maxRecDepth 100000 in
set_option maxHeartbeats 4000000 in
theorem ckDelete (xs : List Cl) (g c K i k : Nat) (w : World) (hn : xs.length = k + 1) (ho : w.ownsRow K 43 2 (.slice (some ⟨g, 0, none⟩) (k + 1) c) (k + 1) (clc xs)) (hl : k + 1 ≤ 100000) (hi : i < k + 1) :
    Calls Try.prog 45 #[.slice (some ⟨g, 0, none⟩) (k + 1) c, .int .i64 i, .int .i64 ((i : Int) + 1)] w (GivesDel xs i g c K w) := by
  obtain ⟨_, _, e, hnc, hcm, _⟩ := own_form ho (by omega)
  cases e
  unfold maxLen at hcm
  obtain ⟨i0, hi0, hz0, hzs, hzb⟩ := Gen.info_of CInfo
  have hd : (clc (xs.drop (i + 1))).length = (k - i) * 2 := by rw [clc_len, List.length_drop, hn]; omega
  have hless := Gen.own_less ho (k := i) (by omega)
  rw [clc_take] at hless
  obtain ⟨q, hq, hsrc⟩ : ∃ q : Addr, (q = if c = i + 1 then ⟨g, 0, none⟩ else ⟨g, (i + 1) * 2, none⟩) ∧ ∀ j v, (clc (xs.drop (i + 1)))[j]? = some v → w.drew.cell? (q.add j) = some v := by
    refine ⟨_, rfl, fun j v hj => ?_⟩
    have hjl := (List.getElem?_eq_some_iff.1 hj).1
    rw [if_neg (by omega), Go.WideShapes.add_plain]
    show w.cell? ⟨g, (i + 1) * 2 + j, none⟩ = some v
    rw [ho.cellAt _ (by omega)]
    rw [← clc_drop, List.getElem?_drop] at hj
    exact hj
  obtain ⟨w1, hr1, ho1, hg1⟩ := run_append_own_spare (P := Try.prog) w.drew K 22 22 43 i0 2 Try.underlying22 hi0 hzs g i c (clc (xs.take i)) hless.drew q (k - i) (c - (i + 1)) (clc (xs.drop (i + 1))) hd hsrc (clc_ones _) (by omega)
  have hik : i + (k - i) = k := by omega
  rw [hik, ← clc_app] at ho1
  rw [hik] at hr1
  obtain ⟨us, hu, ho1m⟩ := Gen.own_more ho1 (by omega)
  have hcl : ∀ ty cp, (Builtin.clear_ #[22] ty #[.slice (some ⟨g, k * 2, none⟩) 1 cp]).run Try.prog w1 = .ok (.tuple #[]) (w1.setCells g (k * 2) (Builtin.zeroCells (Value.agg #[.string ⟨#[]⟩, .string ⟨#[]⟩]).cells 1).toList) := fun ty cp =>
    Gen.run_clear w1 _ _ ty _ Try.underlying22 clZero rfl (fun i hi => by rcases i with _ | _ | i; rfl; rfl; omega) g (k * 2) 1 cp (by omega)
      (fun j hj => by rw [ho1m.cellAt _ (by omega), Option.isSome_iff_ne_none, ne_eq, List.getElem?_eq_none_iff, ho1m.1]; omega) (fun j hj => ho1m.frozenAt _)
  have HF := Lib.hid (Gen.own_behind (Builtin.zeroCells (Value.agg #[.string ⟨#[]⟩, .string ⟨#[]⟩]).cells 1).toList (k * 2) w1 ho1 (Nat.le_refl _))
  have HM := Lib.hid (((⟨rfl, rfl, rfl, Nat.le_refl _, fun _ _ _ => rfl⟩ : Gen.Mine (· = g) w w.drew).trans (Gen.Mine.grown_one hg1)).trans (Gen.setCells_mine g (Builtin.zeroCells (Value.agg #[.string ⟨#[]⟩, .string ⟨#[]⟩]).cells 1).toList (k * 2) w1))
  have HN := Lib.hid hn
  have HR1 := Lib.hid hr1
  have HQ := Lib.hid hq
  have hwi : IntKind.i64.wrap ((i : Int) + 1) = (i : Int) + 1 := wrapO (by omega) (by omega)
  have hn1 : ((i : Int) == (i : Int) + 1) = false := ne_b (by omega)
  have htn : ((i : Int) + 1).toNat = i + 1 := by omega
  have hb1 : (0 : Int) ≤ (i : Int) + 1 := by omega
  have hb2 : ¬ (k + 1 = i) := by omega
  have hb3 : ¬ (c = i) := by omega
  have hb4 : ¬ (c = k) := by omega
  have hin : i ≤ k := by omega
  have hbi : (i : Int) ≤ (k : Int) := by omega
  have hic : i ≤ c := by omega
  have hic2 : (i : Int) ≤ (c : Int) := by omega
  have hik1 : i ≤ k + 1 := by omega
  have hik2 : (i : Int) ≤ (k : Int) + 1 := by omega
  clear ho ho1 ho1m hr1 hg1 hless hd hsrc hn hi0 hz0 hzs hzb hu hq hik
  have hway : (c = i + 1 ∧ k = i ∧ q = ⟨g, 0, none⟩) ∨ (¬ c = i + 1 ∧ q = ⟨g, (i + 1) * 2, none⟩) := by
    have e := HQ.out
    by_cases hce : c = i + 1
    · left; exact ⟨hce, by omega, by rw [e, if_pos hce]⟩
    · right; exact ⟨hce, by rw [e, if_neg hce]⟩
  clear HQ
  rcases hway with ⟨rfl, rfl, rfl⟩ | ⟨hce, rfl⟩
  all_goals (
    go_enter Try.func45, Try.ntmps45
    go_wp2_with fail
    refine wide_tail 6 (fun w5 => w5 = w.drew) (by kernel_rfl) (by kernel_rfl) rfl ?_
    simp only [List.take_succ_cons, List.take_zero, List.drop_succ_cons, List.drop_zero]
    repeat (first
    | go_big_quiet_skip
    | (go_big_quiet_want
       apply wide_op
       · (intro w5 h5; go_simp; first | done | with_reducible rfl | exact ⟨rfl, h5⟩)
       (try simp only [Act.put, List.setIfInBounds_toArray, List.set_cons_zero, List.set_cons_succ])
       go_big_quiet_on))
    refine wpQuiet_nil ?_
    intro w4 h4
    subst h4
    refine Lib.wpList_append_run _ rfl _ _ 22 22 rfl _ _ rfl rfl _ _ (by first | exact HR1.out | (have h := HR1.out; simp only [Nat.sub_self] at h; exact h)) ?_
    simp only [Act.put, List.setIfInBounds_toArray, List.set_cons_zero, List.set_cons_succ]
    go_wp2_with fail
    go_ret
    refine ⟨?_, ?_, HM.out⟩
    · rw [HN.out]; rfl
    · rw [HN.out]; exact HF.out)
end So
end Go.Proofs.Ytpjgdpdgfchhkaa
