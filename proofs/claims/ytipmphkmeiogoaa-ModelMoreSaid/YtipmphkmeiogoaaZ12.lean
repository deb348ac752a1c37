/- PaneClone, PaneDue, PaneAcc, Wide1, put together. -/
import Derived.Test.YtipmphkmeiogoaaZ5
import Derived.Test.YtipmphkmeiogoaaZ11
import Derived.Lib.SliceRun
import Derived.Maps.AppendAt
import Derived.Test.YtipmphkmeiogoaaZ10
import Derived.BigRegion
/- Rows of panes: taken apart, cloned, compared. -/
namespace Go.Proofs.Ytipmphkmeiogoaa
open Go.RowKit
open Pan
set_option linter.unusedVariables false
set_option maxRecDepth 8000
theorem pc_take (xs : List Pn) (n : Nat) : (pc xs).take (n * 6) = pc (xs.take n) := by
  rcases Nat.lt_or_ge n xs.length with h | h
  · have e : pc xs = pc (xs.take n) ++ pc (xs.drop n) := by rw [← pc_app, List.take_append_drop]
    have hl : (pc (xs.take n)).length = n * 6 := by rw [pc_len, List.length_take]; omega
    rw [e, ← hl, List.take_left]
  · rw [List.take_of_length_le h, List.take_of_length_le (by rw [pc_len]; omega)]
theorem pc_drop (xs : List Pn) (n : Nat) : (pc xs).drop (n * 6) = pc (xs.drop n) := by
  rcases Nat.lt_or_ge n xs.length with h | h
  · have e : pc xs = pc (xs.take n) ++ pc (xs.drop n) := by rw [← pc_app, List.take_append_drop]
    have hl : (pc (xs.take n)).length = n * 6 := by rw [pc_len, List.length_take]; omega
    rw [e, ← hl, List.drop_left]
  · rw [List.drop_eq_nil_of_le h, List.drop_eq_nil_of_le (by rw [pc_len]; omega)]; rfl
theorem Row.takeP {w : World} {A : Option Addr} {xs : List Pn} (h : Row w A (pc xs)) (n : Nat) : Row w A (pc (xs.take n)) := by
  rw [← pc_take]
  rcases h with h | ⟨b, off, rfl, h⟩
  · left; rw [h]; simp
  · refine .inr ⟨b, off, rfl, fun i u hu => ?_⟩
    rw [List.getElem?_take] at hu
    split at hu
    · exact h _ _ hu
    · cases hu
theorem Row.dropP {w : World} {A : Option Addr} {xs : List Pn} (h : Row w A (pc xs)) (n : Nat) : Row w (Option.map (fun x => x.add (n * 6)) A) (pc (xs.drop n)) := by
  rw [← pc_drop]
  rcases h with h | ⟨b, off, rfl, h⟩
  · left; rw [h]; simp
  · refine .inr ⟨b, off + n * 6, by rw [Option.map_some, Go.WideShapes.add_plain], fun i u hu => ?_⟩
    rw [List.getElem?_drop] at hu
    rw [Nat.add_assoc]
    exact h _ _ hu
theorem own_up {w w' : World} {B size n : Nat} {e : TypeId} {v : Value} {xs : List Value} (h : w.ownsRow B e size v n xs) (hb : Below w.heap.size w w') : w'.ownsRow B e size v n xs := by
  obtain ⟨hl, ⟨rfl, rfl⟩ | ⟨g, cap, cur, rfl, hg, hh, hn, hm, hc, hx⟩⟩ := h
  · exact ⟨hl, .inl ⟨rfl, rfl⟩⟩
  · exact ⟨hl, .inr ⟨g, cap, cur, rfl, hg, (hb.block g (Array.getElem?_eq_some_iff.1 hh).1).trans hh, hn, hm, hc, hx⟩⟩
/-- Hands back a row of panes; what was stays. -/
def GivesP (xs : List Pn) (w : World) (e : Ending) (w' : World) : Prop :=
  ∃ A c, e = .returned (.slice A xs.length c) ∧ xs.length ≤ c ∧ c ≤ maxLen ∧ Row w' A (pc xs) ∧ Below w.heap.size w w'
theorem paInfo : (Try.prog.info? 82).map (fun i => (i.zero, i.size, i.bytes)) = some (some (.agg #[.int .i64 0, .int .i64 0, .string ByteArray.empty, .int .i64 0, .int .i64 0, .int .i64 0]), 6, 56) := by kernel_rfl
theorem own_givesP {w w' : World} {v : Value} {xs : List Pn} {n : Nat} (h : w'.ownsRow w.heap.size 82 6 v n (pc xs)) (hn : n = xs.length) (hb : Below w.heap.size w w') : GivesP xs w (.returned v) w' := by
  subst hn
  obtain ⟨A, c, rfl, h1, h2, _, h3, _⟩ := own_form h (by omega)
  exact ⟨A, c, rfl, h1, h2, h3, hb⟩
set_option linter.unusedVariables false
theorem pfields_acc : Try.prog.underlying 77 = some (.struct (Try.prog.fieldsOf 77)) := by kernel_rfl
theorem pstood_acc : Try.prog.stoodInHeld 77 = false := by kernel_rfl
theorem pfields_pn : Try.prog.underlying 82 = some (.struct (Try.prog.fieldsOf 82)) := by kernel_rfl
theorem pstood_pn : Try.prog.stoodInHeld 82 = false := by kernel_rfl
theorem psize_win : (Try.prog.info? 48).map (·.size) = some 2 := by kernel_rfl
theorem psize_acc : (Try.prog.info? 77).map (·.size) = some 3 := by kernel_rfl
theorem run_samePn (x : Pn) (w : World) : (binOp .neq 82 (paV x) (paV x)).run Try.prog w = .ok (.bool false) w := by
  have h1 := Try.underlying9
  have h2 := Try.underlying2
  obtain ⟨i0, hi0, hs0⟩ := Option.map_eq_some_iff.1 psize_win
  obtain ⟨i1, hi1, hs1⟩ := Option.map_eq_some_iff.1 psize_acc
  have hszW : ∀ w, (sizeOf 48).run Try.prog w = .ok 2 w := fun w => by simp [sizeOf, typeInfo, hi0, hs0]
  have hszA : ∀ w, (sizeOf 77).run Try.prog w = .ok 3 w := fun w => by simp [sizeOf, typeInfo, hi1, hs1]
  have hW := run_peqW 9997 x.p.lo x.p.hi x.p.lo x.p.hi w
  have hA : (Op.equalIn 9999 77 (.agg #[.int .i64 x.acc.n, .int .i64 x.acc.a, .int .i64 x.acc.b]) (.agg #[.int .i64 x.acc.n, .int .i64 x.acc.a, .int .i64 x.acc.b])).run Try.prog w = .ok true w := by
    rw [show (9999 : Nat) = 9997 + 2 from rfl, run_equalIn_agg w _ _ _ _ pfields_acc pstood_acc]
    simp [Program.fieldsOf, Try.underlying77, Op.eqFields, part, isAgg, run_underlying h2, run_equalIn_int w _ _ .i64 .i64 _ _ h2]
  rw [run_neq_struct, show (10000 : Nat) = 9999 + 1 from rfl, run_equalIn_agg w _ _ _ _ pfields_pn pstood_pn]
  simp [Program.fieldsOf, Try.underlying82, Op.eqFields, part, isAgg, run_underlying h1, run_underlying Try.underlying48, run_underlying Try.underlying77, hszW, hszA, hW, hA, run_equalIn_string w 9998 _ _ _ h1]
end Go.Proofs.Ytipmphkmeiogoaa
/- Due, of package pane. -/
namespace Go.Proofs.Ytipmphkmeiogoaa
open Go.RowKit
open Pan
set_option linter.unusedVariables false
set_option maxRecDepth 8000
/-- Hands back two rows of panes; what was stays. -/
def GivesPP (xs ys : List Pn) (w : World) (e : Ending) (w' : World) : Prop :=
  ∃ A c A' c', e = .returned (.tuple #[.slice A xs.length c, .slice A' ys.length c']) ∧ xs.length ≤ c ∧ c ≤ maxLen ∧ ys.length ≤ c' ∧ c' ≤ maxLen ∧ Row w' A (pc xs) ∧ Row w' A' (pc ys) ∧ Below w.heap.size w w'
namespace Pan
theorem clN_lt (x : Pn) (m : Int) : clN x m < 0 ↔ x.p.hi ≤ m := by unfold clN; split <;> omega
theorem due_cut {l : List Pn} (h : Ord l) (m : Int) : Cut l (fun x => clN x m) (due m l).length := by
  have e := due_rest m l h
  refine ⟨List.length_filter_le _ _, fun i a hi ha => ?_, fun i a hi ha => ?_⟩
  · rw [← e, List.getElem?_append_left hi] at ha
    have := (List.mem_filter.1 (List.mem_of_getElem? ha)).2
    exact (clN_lt a m).2 (by simpa using this)
  · rw [← e, List.getElem?_append_right hi] at ha
    have := (List.mem_filter.1 (List.mem_of_getElem? ha)).2
    exact fun h2 => by have := (clN_lt a m).1 h2; simp at *; omega
theorem due_take {l : List Pn} (h : Ord l) (m : Int) : l.take (due m l).length = due m l := by
  have e := due_rest m l h
  have h2 := congrArg (List.take (due m l).length) e
  rw [List.take_left] at h2
  exact h2.symm
theorem due_drop {l : List Pn} (h : Ord l) (m : Int) : l.drop (due m l).length = rest m l := by
  have e := due_rest m l h
  have h2 := congrArg (List.drop (due m l).length) e
  rw [List.drop_left] at h2
  exact h2.symm
end Pan
theorem Row.cutP {w : World} {A : Option Addr} {xs ys : List Pn} {c p : Nat} (h : Row w (Option.map (fun x => x.add (p * 6)) A) (pc ys)) (h0 : c = p → ys.length = 0) : Row w (if c = p then A else Option.map (fun x => x.add (p * 6)) A) (pc ys) := by
  split
  · rw [List.eq_nil_of_length_eq_zero (h0 (by assumption))]; exact Row.nil
  · exact h
end Go.Proofs.Ytipmphkmeiogoaa
/- A row of panes that the call builds: appended to, among boxes that stay. -/
namespace Go.Proofs.Ytipmphkmeiogoaa
open Go.RowKit
open Pan
set_option linter.unusedVariables false
set_option maxRecDepth 8000
/-- What is being built, since the world w0. -/
structure Built (w0 w : World) (v : Value) (ms : List Pn) : Prop where
  own : w.ownsRow w0.heap.size 82 6 v ms.length (pc ms)
  below : Below w0.heap.size w0 w
namespace Built
variable {w0 a b : World} {v : Value} {ms : List Pn}
theorem far (h : Built w0 a v ms) {q : Nat} (hq : v.ownBlock = some q) : w0.heap.size ≤ q ∧ q < a.heap.size := h.own.lt q hq
theorem up (h : Built w0 a v ms) (hb : Below a.heap.size a b) : Built w0 b v ms := ⟨own_up h.own hb, below_next h.below hb⟩
theorem drew (h : Built w0 a v ms) : Built w0 a.drew v ms := ⟨h.own.drew, below_drewOf h.below⟩
theorem set (h : Built w0 a v ms) {k o : Nat} (hk : v.ownBlock ≠ some k) (hw : w0.heap.size ≤ k) (u : Value) : Built w0 (a.setCell ⟨k, o, none⟩ u) v ms := by
  refine ⟨?_, h.below.setCell (p := ⟨k, o, none⟩) hw u⟩
  obtain ⟨hl, ⟨rfl, hx⟩ | ⟨g, cap, cur, rfl, hg, hh, rest⟩⟩ := h.own
  · exact ⟨hl, .inl ⟨rfl, hx⟩⟩
  · refine ⟨hl, .inr ⟨g, cap, cur, rfl, hg, ?_, rest⟩⟩
    have hne : g ≠ k := fun e => hk (by subst e; rfl)
    rw [← hh]
    exact Below.heap_setCell a ⟨k, o, none⟩ u g hne
theorem none_ (w : World) : Built w w (.slice none 0 0) [] := ⟨own_none, Below.refl _ _⟩
theorem gives (h : Built w0 a v ms) : GivesP ms w0 (.returned v) a := own_givesP h.own rfl h.below
end Built
/-- An append to it. -/
theorem wpPush {ops : Array Oper} {rest : List Oper} {o : Oper} {a : Act} {Q : Exit → Act → World → Prop} {w0 w : World} (hgd : o.guard = none) (s x : Operand)
    (ho : o.op = .call { callee := .builtin .append, args := #[s, x], argTypes := #[65, 65] }) (v : Value) (ms : List Pn) (hs : a.eval s = v) (h : Built w0 w v ms)
    (A : Option Addr) (m c : Nat) (ys : List Pn) (hx : a.eval x = .slice A m c) (hr : Row w A (pc ys)) (hm : m = ys.length) (hlen : ms.length + ys.length ≤ 100000)
    (hk : ∀ v' w', Built w0 w' v' (ms ++ ys) → w.grownBy w' v.ownBlock → (v'.ownBlock = v.ownBlock ∨ v'.ownBlock = some w.heap.size) → wpList Try.prog ops Q rest (a.put o.dst v') w') :
    wpList Try.prog ops Q (o :: rest) a w := by
  subst hm
  obtain ⟨i0, hi0, hz0, hz1, hz2⟩ := info_parts paInfo
  rcases A with _ | ad
  · have hn : ys = [] := by
      rcases hr with hr | ⟨_, _, hr, _⟩
      · have := pc_len ys; rw [hr] at this; exact List.eq_nil_of_length_eq_zero (by simp at this; omega)
      · cases hr
    subst hn
    have hrun : (Builtin.append_ #[65, 65] o.type #[v, .slice none 0 c]).run Try.prog w = .ok v w := by
      rcases h.own.2 with ⟨rfl, _⟩ | ⟨g, cap, cur, rfl, _, _, hnc, _⟩
      · simp [Builtin.append_, run_underlying Try.underlying65, sizeOf, typeInfo, hi0, Builtin.lenOf, Builtin.firstCells]
      · simp [Builtin.append_, run_underlying Try.underlying65, sizeOf, typeInfo, hi0, Builtin.lenOf, Builtin.firstCells, hnc, storeCells]
    refine wpList_plain hgd fun K hK => ?_
    unfold Oper.wp
    simp only [execOp, ho, resolve, invoke, builtin, Sem.run_bind, Sem.run_pure, Result.andThen_ok, List.map_toArray, List.map_cons, List.map_nil, hs, hx, hrun, List.length_nil]
    exact hK _ _ (hk v w (by simpa using h) (World.grownBy.refl _ _) (.inl rfl))
  · have hcells : ∀ j u, (pc ys)[j]? = some u → w.cell? (ad.add j) = some u := by
      rcases hr with hr | ⟨b, off, hr, hc⟩
      · rw [hr]; intro j u hu; simp at hu
      · cases hr
        intro j u hu
        rw [Go.WideShapes.add_plain]
        exact hc j u hu
    refine wpList_append_own_at w hgd s x 65 ho w0.heap.size 82 i0 _ 6 56 Try.underlying65 hi0 hz0 hz1 hz2 rfl (by omega) v ms.length (pc ms) hs h.own ad ys.length c (pc ys) hx (pc_len ys) hcells (pc_ones ys)
      (by unfold maxLen; omega) (by omega) h.below.size ?_
    intro v' w' hown hg _ hat
    refine hk v' w' ⟨by rw [List.length_append, pc_app]; exact hown, h.below.grown hg h.below.size fun q hq => (h.far hq).1⟩ hg hat
/-- A box that stays. -/
theorem lies_grown {w w' : World} {row : Option Nat} {b : Nat} {C : Array Value} {T : TypeId} (h : Lies b C T w) (hg : w.grownBy w' row) (hne : row ≠ some b) : Lies b C T w' :=
  (hg.block b (lt_of_block h) (fun e => hne e.symm)).trans h
theorem one_row (w : World) (x : Pn) : Row (w.alloc (.cells (paC x) 82)) (some ⟨w.heap.size, 0, none⟩) (pc [x]) := by
  refine .inr ⟨w.heap.size, 0, rfl, fun j u hu => ?_⟩
  rw [pc_one] at hu
  rw [Nat.zero_add]
  refine (Lies.new w (paC x) 82).cell ?_
  rw [← hu]
  unfold pL paC
  simp
end Go.Proofs.Ytipmphkmeiogoaa
/- As Wide, for a region whose first operation but hands on a slot's value, which is asked for at the end alone ('out = append(out, f(x))'): it is taken first. -/
namespace Go.Proofs.Ytipmphkmeiogoaa
open Go.RowKit
section
variable {P : Program} {ops : Array Oper} {md : Region.Mode} {C : World → Prop}
def sinkFrom (md : Region.Mode) (ops : Array Oper) (m n : Nat) : Bool :=
  (List.range n).all fun i => decide (i < m) || (List.range (n + 1)).any fun j => decide (i < j) && Region.waitsFor md ops j i
theorem tail_waits1 {m n : Nat} {listed : Array Bool} (hs : sinkFrom md ops m n = true) (hc : Region.chainB md ops n = true) (hn : n < ops.size) (inv : HeadInv md ops n listed) (hpre : ∀ t, t < m → listed.getD t false = true) :
    ∀ (d i : Nat), n - i = d → i < n → listed.getD i true = false → ∀ t, n ≤ t → t ∉ Region.ready md ops listed := by
  intro d
  induction d using Nat.strongRecOn with
  | _ d ih =>
    intro i hd hi hun t ht hr
    obtain ⟨_, ot, hot, hall⟩ := mem_ready.1 hr
    have htlt : t < ops.size := (Array.getElem?_eq_some_iff.1 hot).1
    by_cases htn : t = n
    · subst htn
      have h1 := List.all_eq_true.1 hs i (List.mem_range.2 hi)
      have him : ¬ i < m := fun h => by
        have := hpre i h
        rw [getD_both hun] at this; cases this
      rw [decide_eq_false him, Bool.false_or] at h1
      obtain ⟨j, hj, hj2⟩ := List.any_eq_true.1 h1
      simp only [Bool.and_eq_true, decide_eq_true_eq] at hj2
      obtain ⟨oj, hoj, e, he, hb, hon⟩ := Region.waitsFor_spec hj2.2
      have hjle : j ≤ t := by have := List.mem_range.1 hj; omega
      by_cases hjt : j = t
      · subst hjt
        have : oj = ot := Option.some.inj (hoj.symm.trans hot)
        subst this
        have h2 := hall e he hb
        rw [hon, getD_both hun] at h2
        cases h2
      · cases hl : listed.getD j false with
        | true =>
          have h2 := inv.closed j oj hoj hl e he hb
          rw [hon, getD_both hun] at h2
          cases h2
        | false =>
          have hjs : j < listed.size := by rw [inv.size]; omega
          exact ih (t - j) (by omega) j rfl (by omega) (getD_in hjs hl) t (Nat.le_refl _) hr
    · have h1 := List.all_eq_true.1 hc t (List.mem_range.2 htlt)
      simp only [Bool.or_eq_true, decide_eq_true_eq] at h1
      rcases h1 with h1 | h1
      · omega
      · obtain ⟨o', ho', e, he, hb, hon⟩ := Region.waitsFor_spec h1
        have : o' = ot := Option.some.inj (ho'.symm.trans hot)
        subst this
        have h2 := hall e he hb
        rw [hon, getD_both (inv.tail (t - 1) (by omega) (by omega))] at h2
        cases h2
theorem anyQL_first1 {m n i : Nat} {oi : Oper} {v : Value} {L : Array Bool → Act → Prop} (hi : ops[i]? = some oi) (hsel : ∀ (j : Nat) (o : Oper) cs b, ops[j]? = some o → o.op ≠ .select cs b)
    (hs : sinkFrom md ops m n = true) (hc : Region.chainB md ops n = true) (hn : n < ops.size) (hin : i < n)
    (hdone : ∀ listed a, L listed a → ∀ j ∈ Region.ready md ops listed, n ≤ j) :
    ∀ (f : Nat) (listed : Array Bool) (a : Act), HeadInv md ops n listed → (∀ t, t < m → listed.getD t false = true) →
      (∀ j oj, ops[j]? = some oj → j ≠ i → listed.getD j true = false → (∀ e ∈ oj.after, Region.binds md e = true → e.on ≠ i) → oi.apart ops oj = true) →
      i ∈ Region.ready md ops listed → YieldsIn P ops C oi v a →
      anyQL P md ops C n L f (listed.setIfInBounds i true) (a.put oi.dst v) → anyQL P md ops C n L (f + 1) listed a := by
  intro f
  induction f with
  | zero =>
    intro listed a inv hpre _ hr hy H
    have hun := (mem_ready.1 hr).1
    refine ⟨fun h => (by rw [h] at hr; cases hr), fun j hj => ?_⟩
    have hjn : j < n := by
      rcases Nat.lt_or_ge j n with h | h
      · exact h
      · exact absurd hj (tail_waits1 hs hc hn inv hpre _ i rfl hin hun j h)
    refine ⟨hjn, ?_⟩
    by_cases hji : j = i
    · subst hji; exact hy.qOp hi H
    · have := hdone _ _ H j (ready_mono hj hji)
      omega
  | succ f ih =>
    intro listed a inv hpre hfree hr hy H
    have hun := (mem_ready.1 hr).1
    refine ⟨fun h => (by rw [h] at hr; cases hr), fun j hj => ?_⟩
    have hjn : j < n := by
      rcases Nat.lt_or_ge j n with h | h
      · exact h
      · exact absurd hj (tail_waits1 hs hc hn inv hpre _ i rfl hin hun j h)
    refine ⟨hjn, ?_⟩
    by_cases hji : j = i
    · subst hji; exact hy.qOp hi H
    · have h1 := (H.2 j (ready_mono hj hji)).2
      obtain ⟨hjun, oj, hoj, hall⟩ := mem_ready.1 hj
      have hnot : ∀ e ∈ oj.after, Region.binds md e = true → e.on ≠ i := fun e he hb heq => by
        have h1 := hall e he hb
        rw [heq, getD_both hun] at h1
        cases h1
      have h2 := qOp_put hoj (hfree j oj hoj hji hjun hnot) (fun cs b => hsel i oi cs b hi) (fun cs b => hsel j oj cs b hoj) hy h1
      have hfree' : ∀ k ok, ops[k]? = some ok → k ≠ i → (listed.setIfInBounds j true).getD k true = false →
          (∀ e ∈ ok.after, Region.binds md e = true → e.on ≠ i) → oi.apart ops ok = true := fun k ok hk hki hun hno => by
        refine hfree k ok hk hki ?_ hno
        by_cases hjk : j = k
        · subst hjk; exact hjun
        · rw [getD_set_ne true hjk] at hun; exact hun
      refine qOp_mono (fun a' h3 => ih (listed.setIfInBounds j true) a' (inv.set hj hjn) (fun t ht => getD_set_true (hpre t ht)) hfree' (ready_mono hr (Ne.symm hji)) h3.1 ?_) h2
      rw [Array.setIfInBounds_comm _ _ hji]
      exact h3.2
theorem anyQL_lex1 {m n g : Nat} {Lq : Act → Prop} (hsel : Region.noSelect ops = true) (hs : sinkFrom md ops m n = true) (hc : Region.chainB md ops n = true) (hn : n < ops.size) :
    ∀ (l : List Oper) (k : Nat) (listed : Array Bool) (a : Act), (∀ j, j < l.length → l[j]? = ops[k + j]?) → k + l.length = n → HeadInv md ops n listed → (∀ t, t < m → listed.getD t false = true) →
    Region.lexHead md ops g l.length k listed = true → wpQuiet P ops C Lq l a →
    anyQL P md ops C n (fun listed' a' => Region.seqB md ops g n listed' = true ∧ Lq a') l.length listed a
  | [], k, listed, a, _, hk, _, _, hB, h => by
    have : k = n := by simpa using hk
    subst this
    exact ⟨by simpa [Region.lexHead] using hB, h⟩
  | o :: l, k, listed, a, hl, hk, inv, hpre, hB, h => by
    have h0 : ops[k]? = some o := by simpa using (hl 0 (by simp)).symm
    simp only [List.length_cons, Region.lexHead, Bool.and_eq_true] at hB
    obtain ⟨⟨hr, hf⟩, hB'⟩ := hB
    have hkn : k < n := by simp only [List.length_cons] at hk; omega
    have hr' : k ∈ Region.ready md ops listed := by simpa using hr
    have hst : qOp P ops C k (wpQuiet P ops C Lq l) a := by unfold qOp; simp only [h0]; exact h
    obtain ⟨v, hy, hK⟩ := yieldsIn_of_qOp h0 hst
    exact anyQL_first1 h0 (Region.noSelect_spec hsel) hs hc hn hkn (fun listed' a' hL => seqB_ready hL.1) l.length listed a inv hpre (Region.free_spec h0 hf) hr' hy
      (anyQL_lex1 hsel hs hc hn l (k + 1) _ _ (fun j hj => by have := hl (j + 1) (by simp; omega); simpa [Nat.add_assoc, Nat.add_comm 1 j] using this) (by simp only [List.length_cons] at hk; omega) (inv.set hr' hkn) (fun t ht => getD_set_true (hpre t ht)) hB' hK)
/-- The form: the first operation may be taken first; the others up to n go in the order of the text; then the rest. -/
def lexTail1 (md : Region.Mode) (ops : Array Oper) (n : Nat) : Bool :=
  Region.noSelect ops && decide (1 ≤ n) && decide (n < ops.size) && sinkFrom md ops 1 n && Region.chainB md ops n && Region.free md ops (Array.replicate ops.size false) 0 && (Region.ready md ops (Array.replicate ops.size false)).contains 0 &&
    Region.lexHead md ops (ops.size - n) (n - 1) 1 ((Array.replicate ops.size false).setIfInBounds 0 true)
theorem wide_tail1 {id : Nat} {Q : Exit → Act → World → Prop} {a : Act} {w : World} {o0 : Oper} {l : List Oper} (n : Nat) (C : World → Prop) (x : Operand) (v : Value) (hv : a.eval x = v) (hop : o0.op = .move x) (hg : o0.guard = none) (hm : P.follows .mixedOrders = true)
    (hB : lexTail1 .any (o0 :: l).toArray n = true) (hQ : ∀ c a w v, Q (.panic c) (a.put o0.dst v) w → Q (.panic c) a w) (hC : C w.drew)
    (h : wpQuiet P (o0 :: l).toArray C (fun a' => ∀ w', C w' → wpList P (o0 :: l).toArray Q (l.drop (n - 1)) a' w') (l.take (n - 1)) (a.put o0.dst v)) : (Code.region id (o0 :: l).toArray true).wp P Q a w := by
  subst hv
  simp only [lexTail1, Bool.and_eq_true, decide_eq_true_eq] at hB
  obtain ⟨⟨⟨⟨⟨⟨⟨hsel, hn1⟩, hn⟩, hs⟩, hc⟩, hf0⟩, hr0⟩, hlex⟩ := hB
  have hn' : n < l.length + 1 := by simpa using hn
  have htl : (l.take (n - 1)).length = n - 1 := by simp; omega
  have hsz : (o0 :: l).toArray.size = l.length + 1 := by simp
  have hdl : (l.drop (n - 1)).length = (o0 :: l).toArray.size - n := by simp; omega
  have h0 : (o0 :: l).toArray[0]? = some o0 := by simp
  have hr0' : 0 ∈ Region.ready .any (o0 :: l).toArray (Array.replicate (o0 :: l).toArray.size false) := by simpa using hr0
  have inv0 : HeadInv .any (o0 :: l).toArray n (Array.replicate (o0 :: l).toArray.size false) :=
    ⟨by simp, fun j oj _ hl => (by rw [getD_replicate_false] at hl; cases hl), fun t _ ht => getD_in (by simpa using ht) (getD_replicate_false _ _)⟩
  have inv1 := inv0.set hr0' (by omega)
  have hpre : ∀ t, t < 1 → ((Array.replicate (o0 :: l).toArray.size false).setIfInBounds 0 true).getD t false = true := by
    intro t ht
    have : t = 0 := by omega
    subst this
    simp
  have H := anyQL_lex1 (md := .any) (m := 1) (g := (o0 :: l).toArray.size - n) hsel hs hc hn (l.take (n - 1)) 1 _ (a.put o0.dst (a.eval x)) (fun j hj => by
    have hj' : j < n - 1 := by rw [htl] at hj; exact hj
    simp [hj', Nat.add_comm 1 j]) (by rw [htl]; omega) inv1 hpre (by rw [htl]; exact hlex) h
  refine wp_region_any hm ?_
  have H2 := any_of_qhead (Q' := Q) (g := (o0 :: l).toArray.size - n) (fun listed a' w' hw' hL => by
    have := wpAny_of_seq (md := .any) (Q' := Q) (l.drop (n - 1)) n listed a' w' (fun j => by
      rw [List.getElem?_drop, show n + j = n - 1 + j + 1 by omega]; simp) (by rw [hdl]; exact hL.1) (hL.2 w' hw')
    rwa [hdl] at this) _ _ _ _ hC H
  rw [htl, show n - 1 + ((o0 :: l).toArray.size - n) = l.length by rw [hsz]; omega] at H2
  have hy : Yields P (o0 :: l).toArray o0 (a.eval x) a := by
    refine .inl ⟨by simp [Region.wanted, hg], fun w => ?_⟩
    have := BigFrame.run_move (P := P) (ρ := a.eval) (o := o0) x hop w
    simp [this]
  have H3 := wpAny_take (Q := Q) h0 hsel hf0 hr0 (fun c a w h => hQ c a w _ h) hy H2
  rw [hsz]
  exact H3
end
end Go.Proofs.Ytipmphkmeiogoaa
