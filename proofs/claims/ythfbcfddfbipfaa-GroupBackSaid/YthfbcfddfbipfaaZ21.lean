/- PaneClone, PaneDue, PaneAcc, put together. -/
import Derived.Test.YthfbcfddfbipfaaZ13
import Derived.Test.YthfbcfddfbipfaaZ20
import Derived.Lib.SliceRun
import Derived.Maps.AppendAt
/- Rows of panes: taken apart, cloned, compared. -/
namespace Go.Proofs.Ythfbcfddfbipfaa
open Go.RowKit
open Pan
set_option linter.unusedVariables false
set_option maxRecDepth 8000
theorem pc_take (xs : List Pn) (n : Nat) : (pc xs).take (n * 6) = pc (xs.take n) := by
  rcases Nat.lt_or_ge n xs.length with h | h
  · have e : pc xs = pc (xs.take n) ++ pc (xs.drop n) := by rw [← pc_app, List.take_append_drop]
    have hl : (pc (xs.take n)).length = n * 6 := by rw [pc_len, List.length_take]; omega
    rw [e, ← hl, List.take_left]
  · rw [List.take_of_length_le h, List.take_of_length_le (by rw [pc_len]; omega)]
theorem pc_drop (xs : List Pn) (n : Nat) : (pc xs).drop (n * 6) = pc (xs.drop n) := by
  rcases Nat.lt_or_ge n xs.length with h | h
  · have e : pc xs = pc (xs.take n) ++ pc (xs.drop n) := by rw [← pc_app, List.take_append_drop]
    have hl : (pc (xs.take n)).length = n * 6 := by rw [pc_len, List.length_take]; omega
    rw [e, ← hl, List.drop_left]
  · rw [List.drop_eq_nil_of_le h, List.drop_eq_nil_of_le (by rw [pc_len]; omega)]; rfl
theorem Row.takeP {w : World} {A : Option Addr} {xs : List Pn} (h : Row w A (pc xs)) (n : Nat) : Row w A (pc (xs.take n)) := by
  rw [← pc_take]
  rcases h with h | ⟨b, off, rfl, h⟩
  · left; rw [h]; simp
  · refine .inr ⟨b, off, rfl, fun i u hu => ?_⟩
    rw [List.getElem?_take] at hu
    split at hu
    · exact h _ _ hu
    · cases hu
theorem Row.dropP {w : World} {A : Option Addr} {xs : List Pn} (h : Row w A (pc xs)) (n : Nat) : Row w (Option.map (fun x => x.add (n * 6)) A) (pc (xs.drop n)) := by
  rw [← pc_drop]
  rcases h with h | ⟨b, off, rfl, h⟩
  · left; rw [h]; simp
  · refine .inr ⟨b, off + n * 6, by rw [Option.map_some, Go.WideShapes.add_plain], fun i u hu => ?_⟩
    rw [List.getElem?_drop] at hu
    rw [Nat.add_assoc]
    exact h _ _ hu
theorem own_up {w w' : World} {B size n : Nat} {e : TypeId} {v : Value} {xs : List Value} (h : w.ownsRow B e size v n xs) (hb : Below w.heap.size w w') : w'.ownsRow B e size v n xs := by
  obtain ⟨hl, ⟨rfl, rfl⟩ | ⟨g, cap, cur, rfl, hg, hh, hn, hm, hc, hx⟩⟩ := h
  · exact ⟨hl, .inl ⟨rfl, rfl⟩⟩
  · exact ⟨hl, .inr ⟨g, cap, cur, rfl, hg, (hb.block g (Array.getElem?_eq_some_iff.1 hh).1).trans hh, hn, hm, hc, hx⟩⟩
/-- Hands back a row of panes; what was stays. -/
def GivesP (xs : List Pn) (w : World) (e : Ending) (w' : World) : Prop :=
  ∃ A c, e = .returned (.slice A xs.length c) ∧ xs.length ≤ c ∧ c ≤ maxLen ∧ Row w' A (pc xs) ∧ Below w.heap.size w w'
theorem paInfo : (Try.prog.info? 59).map (fun i => (i.zero, i.size, i.bytes)) = some (some (.agg #[.int .i64 0, .int .i64 0, .string ByteArray.empty, .int .i64 0, .int .i64 0, .int .i64 0]), 6, 56) := by kernel_rfl
theorem own_givesP {w w' : World} {v : Value} {xs : List Pn} {n : Nat} (h : w'.ownsRow w.heap.size 59 6 v n (pc xs)) (hn : n = xs.length) (hb : Below w.heap.size w w') : GivesP xs w (.returned v) w' := by
  subst hn
  obtain ⟨A, c, rfl, h1, h2, _, h3, _⟩ := own_form h (by omega)
  exact ⟨A, c, rfl, h1, h2, h3, hb⟩
set_option maxHeartbeats 1000000 in
theorem paClone (xs : List Pn) (A : Option Addr) (c : Nat) (w : World) (hA : Row w A (pc xs)) (hl : xs.length ≤ 100000) : Calls Try.prog 31 #[.slice A xs.length c] w (GivesP xs w) := by
  rcases A with _ | ⟨b, off, sp⟩
  · have e : xs = [] := by
      rcases hA with h | ⟨_, _, h, _⟩
      · have := pc_len xs; rw [h] at this; exact List.eq_nil_of_length_eq_zero (by simp at this; omega)
      · cases h
    subst e
    clear hA
    have q : ∀ (w : World) (n c n' c' : Nat), (binOp .eql 24 (.slice none n c) (.slice none n' c')).run Try.prog w = .ok (.bool true) w := fun w n c n' c' => Lib.run_eql_slice_nil w _ _ none n c n' c' Try.underlying24
    go_enter Try.func31, Try.ntmps31
    go_wp2_with fail
    go_ret
    exact ⟨none, 0, rfl, Nat.le_refl _, by simp [maxLen], Row.nil, Below.refl _ _⟩
  · obtain ⟨i0, hi0, hz0, hz1, hz2⟩ := info_parts paInfo
    have HI0 := Lib.hid hi0; have HZ0 := Lib.hid hz0; have HZ1 := Lib.hid hz1; have HZ2 := Lib.hid hz2
    have HA := Lib.hid hA
    have q : ∀ (w : World) (n c n' c' : Nat), (binOp .eql 24 (.slice (some ⟨b, off, sp⟩) n c) (.slice none n' c')).run Try.prog w = .ok (.bool false) w := fun w n c n' c' => Lib.run_eql_slice_nil w _ _ (some _) n c n' c' Try.underlying24
    clear hA hi0 hz0 hz1 hz2
    go_enter Try.func31, Try.ntmps31
    go_wp2_with (at_builtin; refine hold_mk ?_)
    refine hold_out ?_
    refine wpApp rfl _ _ 24 rfl w.heap.size 59 i0 _ 6 56 Try.underlying24 HI0.out HZ0.out HZ1.out HZ2.out rfl (by omega) _ 0 [] rfl
      (own_new (Nat.le_refl _)) _ xs.length c (pc xs) rfl (HA.out.below (below_al (Below.refl _ _))) (pc_len xs) (pc_ones xs) (by unfold maxLen; omega) (by omega) (by simp) ?_
    intro v2 w2 hown hb
    have HOW := Lib.hid hown
    have HB := Lib.hid ((below_al (o := .cells #[] 59) (Below.refl w.heap.size w)).trans hb)
    clear hown hb
    go_wp2_with fail
    go_ret
    exact own_givesP HOW.out (by omega) HB.out
set_option linter.unusedVariables false
theorem pfields_acc : Try.prog.underlying 57 = some (.struct (Try.prog.fieldsOf 57)) := by kernel_rfl
theorem pstood_acc : Try.prog.stoodInHeld 57 = false := by kernel_rfl
theorem pfields_pn : Try.prog.underlying 59 = some (.struct (Try.prog.fieldsOf 59)) := by kernel_rfl
theorem pstood_pn : Try.prog.stoodInHeld 59 = false := by kernel_rfl
theorem psize_win : (Try.prog.info? 55).map (·.size) = some 2 := by kernel_rfl
theorem psize_acc : (Try.prog.info? 57).map (·.size) = some 3 := by kernel_rfl
theorem run_samePn (x : Pn) (w : World) : (binOp .neq 59 (paV x) (paV x)).run Try.prog w = .ok (.bool false) w := by
  have h1 := Try.underlying9
  have h2 := Try.underlying2
  obtain ⟨i0, hi0, hs0⟩ := Option.map_eq_some_iff.1 psize_win
  obtain ⟨i1, hi1, hs1⟩ := Option.map_eq_some_iff.1 psize_acc
  have hszW : ∀ w, (sizeOf 55).run Try.prog w = .ok 2 w := fun w => by simp [sizeOf, typeInfo, hi0, hs0]
  have hszA : ∀ w, (sizeOf 57).run Try.prog w = .ok 3 w := fun w => by simp [sizeOf, typeInfo, hi1, hs1]
  have hW := run_peqW 9997 x.p.lo x.p.hi x.p.lo x.p.hi w
  have hA : (Op.equalIn 9999 57 (.agg #[.int .i64 x.acc.n, .int .i64 x.acc.a, .int .i64 x.acc.b]) (.agg #[.int .i64 x.acc.n, .int .i64 x.acc.a, .int .i64 x.acc.b])).run Try.prog w = .ok true w := by
    rw [show (9999 : Nat) = 9997 + 2 from rfl, run_equalIn_agg w _ _ _ _ pfields_acc pstood_acc]
    simp [Program.fieldsOf, Try.underlying57, Op.eqFields, part, isAgg, run_underlying h2, run_equalIn_int w _ _ .i64 .i64 _ _ h2]
  rw [run_neq_struct, show (10000 : Nat) = 9999 + 1 from rfl, run_equalIn_agg w _ _ _ _ pfields_pn pstood_pn]
  simp [Program.fieldsOf, Try.underlying59, Op.eqFields, part, isAgg, run_underlying h1, run_underlying Try.underlying55, run_underlying Try.underlying57, hszW, hszA, hW, hA, run_equalIn_string w 9998 _ _ _ h1]
set_option maxRecDepth 100000 in
set_option maxHeartbeats 1000000 in
/-- The same panes in two rows. -/
theorem paLike (xs : List Pn) (hl : xs.length ≤ 9223372036854775807) (A A' : Option Addr) (c c' : Nat) (w : World) (hA : Row w A (pc xs)) (hA' : Row w A' (pc xs)) :
    Calls Try.prog 43 #[.slice A xs.length c, .slice A' xs.length c'] w (TellsB true w) := by
  have HA := Lib.hid hA
  have HA' := Lib.hid hA'
  clear hA hA'
  go_enter Try.func43, Try.ntmps43
  go_wp2_with fail
  go_loopw [13] (fun i wr => ∃ k : Nat, i = .int .i64 k ∧ k ≤ xs.length ∧ ∃ n, wr = w.drewN n) (fun i _ => xs.length - (intOf i).toNat)
  case atStart => exact ⟨0, rfl, Nat.zero_le _, 0, rfl⟩
  case round =>
    obtain ⟨k, rfl, hk, n, rfl⟩ := hrel
    by_cases hlt : k < xs.length
    · obtain ⟨x, hx⟩ : ∃ x, xs[k]? = some x := ⟨_, List.getElem?_eq_getElem hlt⟩
      obtain ⟨b, off, rfl, c0, c1, c2, c3, c4, c5⟩ := HA.out.pn hx
      obtain ⟨b', off', rfl, d0, d1, d2, d3, d4, d5⟩ := HA'.out.pn hx
      have he : ∀ w : World, (binOp .neq 59 (paV x) (paV x)).run Try.prog w = .ok (.bool false) w := fun w => run_samePn x w
      have HX := Lib.hid hx
      clear hx
      go_wp2_with fail
      go_quiet (fail)
      go_wp2_with fail
      go_roundw
      case rel => exact ⟨k + 1, by go_num, by omega, _, rfl⟩
      case measure => simp [intOf]; omega
    · have hge : xs.length ≤ k := by omega
      go_wp2_with fail
      go_ret
      exact ⟨rfl, below_drewN (Below.refl _ _)⟩
end Go.Proofs.Ythfbcfddfbipfaa
/- Due, of package pane. -/
namespace Go.Proofs.Ythfbcfddfbipfaa
open Go.RowKit
open Pan
set_option linter.unusedVariables false
set_option maxRecDepth 8000
/-- Hands back two rows of panes; what was stays. -/
def GivesPP (xs ys : List Pn) (w : World) (e : Ending) (w' : World) : Prop :=
  ∃ A c A' c', e = .returned (.tuple #[.slice A xs.length c, .slice A' ys.length c']) ∧ xs.length ≤ c ∧ c ≤ maxLen ∧ ys.length ≤ c' ∧ c' ≤ maxLen ∧ Row w' A (pc xs) ∧ Row w' A' (pc ys) ∧ Below w.heap.size w w'
namespace Pan
theorem clN_lt (x : Pn) (m : Int) : clN x m < 0 ↔ x.p.hi ≤ m := by unfold clN; split <;> omega
theorem due_cut {l : List Pn} (h : Ord l) (m : Int) : Cut l (fun x => clN x m) (due m l).length := by
  have e := due_rest m l h
  refine ⟨List.length_filter_le _ _, fun i a hi ha => ?_, fun i a hi ha => ?_⟩
  · rw [← e, List.getElem?_append_left hi] at ha
    have := (List.mem_filter.1 (List.mem_of_getElem? ha)).2
    exact (clN_lt a m).2 (by simpa using this)
  · rw [← e, List.getElem?_append_right hi] at ha
    have := (List.mem_filter.1 (List.mem_of_getElem? ha)).2
    exact fun h2 => by have := (clN_lt a m).1 h2; simp at *; omega
theorem due_take {l : List Pn} (h : Ord l) (m : Int) : l.take (due m l).length = due m l := by
  have e := due_rest m l h
  have h2 := congrArg (List.take (due m l).length) e
  rw [List.take_left] at h2
  exact h2.symm
theorem due_drop {l : List Pn} (h : Ord l) (m : Int) : l.drop (due m l).length = rest m l := by
  have e := due_rest m l h
  have h2 := congrArg (List.drop (due m l).length) e
  rw [List.drop_left] at h2
  exact h2.symm
end Pan
structure CloneOf (xs : List Pn) (v : Value) (w : World) : Prop where
  run : ∀ w', Below w.heap.size w w' → Calls Try.prog 31 #[v] w' (GivesP xs w')
theorem Row.cutP {w : World} {A : Option Addr} {xs ys : List Pn} {c p : Nat} (h : Row w (Option.map (fun x => x.add (p * 6)) A) (pc ys)) (h0 : c = p → ys.length = 0) : Row w (if c = p then A else Option.map (fun x => x.add (p * 6)) A) (pc ys) := by
  split
  · rw [List.eq_nil_of_length_eq_zero (h0 (by assumption))]; exact Row.nil
  · exact h
set_option maxHeartbeats 2000000 in
theorem paDue (xs : List Pn) (A : Option Addr) (c : Nat) (m : Int) (w : World) (hA : Row w A (pc xs)) (hl : xs.length ≤ c) (hc : c ≤ 9223372036854775807) (hr : right xs = true) :
    Calls Try.prog 44 #[.slice A xs.length c, .int .i64 m] w (GivesPP (Pan.due m xs) (Pan.rest m xs) w) := by
  obtain ⟨h20, _, ho⟩ := (right_iff xs).1 hr
  have HR := Lib.hid (paRight xs A c w hA (by omega))
  rw [hr] at HR
  have HF := Lib.hid (fun w' (hb : Below w.heap.size w w') => paFindM xs A c m _ w' (hA.below hb) (by omega) (due_cut ho m))
  have HT := Lib.hid (hA.takeP (Pan.due m xs).length)
  have HD := Lib.hid (hA.dropP (Pan.due m xs).length)
  rw [due_take ho] at HT
  rw [due_drop ho] at HD
  have hn : (Pan.due m xs).length + (Pan.rest m xs).length = xs.length := by rw [← List.length_append, due_rest m xs ho]
  obtain ⟨h, hh⟩ : ∃ h, h = Pan.hit xs (fun x => clN x m) (Pan.due m xs).length := ⟨_, rfl⟩
  rw [← hh] at HF
  obtain ⟨ys, hy⟩ : ∃ ys, ys = Pan.due m xs := ⟨_, rfl⟩
  obtain ⟨zs, hz⟩ : ∃ zs, zs = Pan.rest m xs := ⟨_, rfl⟩
  rw [← hy] at HT HD HF hn ⊢
  rw [← hz] at HD hn ⊢
  obtain ⟨n, hn1⟩ : ∃ n, n = xs.length := ⟨_, rfl⟩
  obtain ⟨p, hp⟩ : ∃ p, p = ys.length := ⟨_, rfl⟩
  rw [← hp] at HF HD hn
  rw [← hn1] at HF HR hn hl h20 ⊢
  have g1 : (0 : Int) ≤ p := by omega
  have g2 : (p : Int) ≤ c := by omega
  have g3 : (p : Int) ≤ n := by omega
  have HP := Lib.hid hp
  have HZ := Lib.hid (show zs.length = n - p by omega)
  have HC1 : CloneOf ys (.slice A p c) w := ⟨fun w' hb => by rw [hp]; exact paClone ys A c w' (HT.out.below hb) (by omega)⟩
  have HC2 : CloneOf zs (.slice (if c = p then A else Option.map (fun x => x.add (p * 6)) A) (n - p) (c - p)) w :=
    ⟨fun w' hb => by rw [← HZ.out]; exact paClone zs _ (c - p) w' ((Row.cutP (xs := xs) HD.out fun e => by have := HZ.out; omega).below hb) (by have := HZ.out; omega)⟩
  clear hh hy hz hn1 hp ho hr hA hn
  go_enter Try.func44, Try.ntmps44
  go_wp2_with fail
  refine HR.out.mono ?_
  rintro e w1 ⟨rfl, hb1⟩
  have HB1 := Lib.hid hb1
  clear hb1
  go_wp2_with fail
  refine (HF.out w1 HB1.out).mono ?_
  rintro e w2 ⟨rfl, hb2⟩
  have HB2 := Lib.hid (below_next HB1.out hb2)
  clear hb2
  go_wp2_with fail
  have S0 : Below w.heap.size w w2.drew := below_drewOf HB2.out
  go_region_held3 (fun w' => Below w.heap.size w w') (first | assumption | exact below_next (by assumption) hb5)
    (first
      | (go_at_call 31; refine (HC1.run _ (by assumption)).mono ?_; rintro e w5 ⟨A1, c1, rfl, q1, q2, q3, hb5⟩; have Q3 := Lib.hid q3; clear q3; dsimp only)
      | (go_at_call 31; refine (HC2.run _ (by assumption)).mono ?_; rintro e w5 ⟨A2, c2, rfl, r1, r2, r3, hb5⟩; have R3 := Lib.hid r3; have Q4 := Lib.hid (Q3.out.below hb5); clear r3; dsimp only))
  rename_i hs
  have HB5 := Lib.hid hs
  clear hs
  go_wp2_with fail
  all_goals
    go_ret2
    exact ⟨A1, c1, A2, c2, rfl, q1, q2, r1, r2, Q4.out, R3.out, HB5.out⟩
theorem paDue_not (xs : List Pn) (A : Option Addr) (c : Nat) (m : Int) (w : World) (hA : Row w A (pc xs)) (hl : xs.length ≤ 9223372036854775807) (hr : right xs = false) :
    Calls Try.prog 44 #[.slice A xs.length c, .int .i64 m] w (GivesPP [] [] w) := by
  have HR := Lib.hid (paRight xs A c w hA hl)
  rw [hr] at HR
  clear hr hA
  go_enter Try.func44, Try.ntmps44
  go_wp2_with fail
  refine HR.out.mono ?_
  rintro e w1 ⟨rfl, hb1⟩
  have HB1 := Lib.hid hb1
  clear hb1
  go_wp2_with fail
  go_ret2
  exact ⟨none, 0, none, 0, rfl, Nat.le_refl _, by simp [maxLen], Nat.le_refl _, by simp [maxLen], Row.nil, Row.nil, HB1.out⟩
end Go.Proofs.Ythfbcfddfbipfaa
/- A row of panes that the call builds: appended to, among boxes that stay. -/
namespace Go.Proofs.Ythfbcfddfbipfaa
open Go.RowKit
open Pan
set_option linter.unusedVariables false
set_option maxRecDepth 8000
/-- What is being built, since the world w0. -/
structure Built (w0 w : World) (v : Value) (ms : List Pn) : Prop where
  own : w.ownsRow w0.heap.size 59 6 v ms.length (pc ms)
  below : Below w0.heap.size w0 w
namespace Built
variable {w0 a b : World} {v : Value} {ms : List Pn}
theorem far (h : Built w0 a v ms) {q : Nat} (hq : v.ownBlock = some q) : w0.heap.size ≤ q ∧ q < a.heap.size := h.own.lt q hq
theorem up (h : Built w0 a v ms) (hb : Below a.heap.size a b) : Built w0 b v ms := ⟨own_up h.own hb, below_next h.below hb⟩
theorem drew (h : Built w0 a v ms) : Built w0 a.drew v ms := ⟨h.own.drew, below_drewOf h.below⟩
theorem set (h : Built w0 a v ms) {k o : Nat} (hk : v.ownBlock ≠ some k) (hw : w0.heap.size ≤ k) (u : Value) : Built w0 (a.setCell ⟨k, o, none⟩ u) v ms := by
  refine ⟨?_, h.below.setCell (p := ⟨k, o, none⟩) hw u⟩
  obtain ⟨hl, ⟨rfl, hx⟩ | ⟨g, cap, cur, rfl, hg, hh, rest⟩⟩ := h.own
  · exact ⟨hl, .inl ⟨rfl, hx⟩⟩
  · refine ⟨hl, .inr ⟨g, cap, cur, rfl, hg, ?_, rest⟩⟩
    have hne : g ≠ k := fun e => hk (by subst e; rfl)
    rw [← hh]
    exact Below.heap_setCell a ⟨k, o, none⟩ u g hne
theorem none_ (w : World) : Built w w (.slice none 0 0) [] := ⟨own_none, Below.refl _ _⟩
theorem gives (h : Built w0 a v ms) : GivesP ms w0 (.returned v) a := own_givesP h.own rfl h.below
end Built
/-- An append to it. -/
theorem wpPush {ops : Array Oper} {rest : List Oper} {o : Oper} {a : Act} {Q : Exit → Act → World → Prop} {w0 w : World} (hgd : o.guard = none) (s x : Operand)
    (ho : o.op = .call { callee := .builtin .append, args := #[s, x], argTypes := #[24, 24] }) (v : Value) (ms : List Pn) (hs : a.eval s = v) (h : Built w0 w v ms)
    (A : Option Addr) (m c : Nat) (ys : List Pn) (hx : a.eval x = .slice A m c) (hr : Row w A (pc ys)) (hm : m = ys.length) (hlen : ms.length + ys.length ≤ 100000)
    (hk : ∀ v' w', Built w0 w' v' (ms ++ ys) → w.grownBy w' v.ownBlock → (v'.ownBlock = v.ownBlock ∨ v'.ownBlock = some w.heap.size) → wpList Try.prog ops Q rest (a.put o.dst v') w') :
    wpList Try.prog ops Q (o :: rest) a w := by
  subst hm
  obtain ⟨i0, hi0, hz0, hz1, hz2⟩ := info_parts paInfo
  rcases A with _ | ad
  · have hn : ys = [] := by
      rcases hr with hr | ⟨_, _, hr, _⟩
      · have := pc_len ys; rw [hr] at this; exact List.eq_nil_of_length_eq_zero (by simp at this; omega)
      · cases hr
    subst hn
    have hrun : (Builtin.append_ #[24, 24] o.type #[v, .slice none 0 c]).run Try.prog w = .ok v w := by
      rcases h.own.2 with ⟨rfl, _⟩ | ⟨g, cap, cur, rfl, _, _, hnc, _⟩
      · simp [Builtin.append_, run_underlying Try.underlying24, sizeOf, typeInfo, hi0, Builtin.lenOf, Builtin.firstCells]
      · simp [Builtin.append_, run_underlying Try.underlying24, sizeOf, typeInfo, hi0, Builtin.lenOf, Builtin.firstCells, hnc, storeCells]
    refine wpList_plain hgd fun K hK => ?_
    unfold Oper.wp
    simp only [execOp, ho, resolve, invoke, builtin, Sem.run_bind, Sem.run_pure, Result.andThen_ok, List.map_toArray, List.map_cons, List.map_nil, hs, hx, hrun, List.length_nil]
    exact hK _ _ (hk v w (by simpa using h) (World.grownBy.refl _ _) (.inl rfl))
  · have hcells : ∀ j u, (pc ys)[j]? = some u → w.cell? (ad.add j) = some u := by
      rcases hr with hr | ⟨b, off, hr, hc⟩
      · rw [hr]; intro j u hu; simp at hu
      · cases hr
        intro j u hu
        rw [Go.WideShapes.add_plain]
        exact hc j u hu
    refine wpList_append_own_at w hgd s x 24 ho w0.heap.size 59 i0 _ 6 56 Try.underlying24 hi0 hz0 hz1 hz2 rfl (by omega) v ms.length (pc ms) hs h.own ad ys.length c (pc ys) hx (pc_len ys) hcells (pc_ones ys)
      (by unfold maxLen; omega) (by omega) h.below.size ?_
    intro v' w' hown hg _ hat
    refine hk v' w' ⟨by rw [List.length_append, pc_app]; exact hown, h.below.grown hg h.below.size fun q hq => (h.far hq).1⟩ hg hat
/-- A box that stays. -/
theorem lies_grown {w w' : World} {row : Option Nat} {b : Nat} {C : Array Value} {T : TypeId} (h : Lies b C T w) (hg : w.grownBy w' row) (hne : row ≠ some b) : Lies b C T w' :=
  (hg.block b (lt_of_block h) (fun e => hne e.symm)).trans h
theorem one_row (w : World) (x : Pn) : Row (w.alloc (.cells (paC x) 59)) (some ⟨w.heap.size, 0, none⟩) (pc [x]) := by
  refine .inr ⟨w.heap.size, 0, rfl, fun j u hu => ?_⟩
  rw [pc_one] at hu
  rw [Nat.zero_add]
  refine (Lies.new w (paC x) 59).cell ?_
  rw [← hu]
  unfold pL paC
  simp
end Go.Proofs.Ythfbcfddfbipfaa
