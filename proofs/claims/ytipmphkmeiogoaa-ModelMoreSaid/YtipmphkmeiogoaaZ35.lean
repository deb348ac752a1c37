/- ModNest, ModMore, put together. -/
import Derived.Test.YtipmphkmeiogoaaZ30
import Derived.Maps.Own
import Derived.Maps.OwnSet
import Derived.Maps.Views
import Derived.Maps.AppendAt
import Derived.DeepKeys4
import Derived.StringKeys
import Derived.WalkSpells
/- A map of maps: numbers under windows and keys. What a source more does to the results. -/
namespace Go.Proofs.Ytipmphkmeiogoaa
open Go.ChangeShapes Go.WideShapes Go.ChangeAt Go.RowKit Go.Shelf Go.Maps Tick
set_option linter.unusedVariables false
set_option maxRecDepth 8000
namespace Mo
open Gen (TellsI TellsB SaysI lies_new1)
open Jo (Jb Ev Sr evIs srcOk insOk jbC jbV srV evL Srs)
open Pan (Pl Pn Rs adds get resOf vals)
abbrev wf64 (a : Int) : Prop := (Lit.int .i64 a).wf = true
theorem wf64_in {a : Int} (h1 : -9223372036854775808 ≤ a) (h2 : a ≤ 9223372036854775807) : wf64 a := by
  simp [wf64, Lit.wf, IntKind.min, IntKind.max, IntKind.bits, IntKind.signed]
  omega
def wkK (lo hi : Int) : Lit := .string (keyBytes [.int .i64 lo, .int .i64 hi])
theorem lawWk : Keyed Try.prog 48 := Keyed.of_law (deep_law_laid (P := Try.prog) (m := 9) (by kernel_rfl) (by omega) (of_decide_eq_true (by kernel_rfl)) (by kernel_rfl) (by kernel_rfl))
theorem keyOf_wk {lo hi : Int} (w1 : wf64 lo) (w2 : wf64 hi) : keyOf Try.prog 48 (.agg #[.int .i64 lo, .int .i64 hi]) = some (wkK lo hi) := by
  have hkt : Try.prog.keyType 48 = true := by kernel_rfl
  have hcw : Try.prog.cellsOf 48 = 2 := by kernel_rfl
  have hci : Try.prog.cellsOf 2 = 1 := by kernel_rfl
  obtain ⟨m, hm⟩ : ∃ m, Try.prog.types.size = m + 2 := ⟨Try.prog.types.size - 2, by have : 2 ≤ Try.prog.types.size := by decide +kernel
                                                                                    omega⟩
  unfold keyOf
  rw [Try.underlying48, hm]
  simp [hkt, Value.formed, hcw, Try.underlying48, Program.keyLits, Try.underlying2, hci, w1, w2, Value.cells, wkK]
theorem wkK_inj {a b c d : Int} (h1 : wf64 a) (h2 : wf64 b) (h3 : wf64 c) (h4 : wf64 d) (h : wkK a b = wkK c d) : a = c ∧ b = d := by
  have e1 := keyOf_wk h1 h2
  have e2 := keyOf_wk h3 h4
  rw [h] at e1
  have e3 := lawWk.inj e1 e2
  simp only [Value.agg.injEq, Array.mk.injEq, List.cons.injEq, Value.int.injEq, true_and, and_true] at e3
  exact e3
theorem keyOf_st {key : List UInt8} (h : key.length ≤ maxLen) : keyOf Try.prog 9 (.string (kS key)) = some (.string key) := by
  have := WideMaps.keyOf_string_mk (P := Try.prog) Try.underlying9 (s := kS key) (by rw [kS_size]; exact h)
  rw [this]
  rfl
theorem lawSt : Keyed Try.prog 9 := string_keyed Try.underlying9
/-- The number under a place. -/
def nAt (l : List Rs) (q : Pl) : Int := l.foldl (fun a x => if x.p = q then x.n else a) 0
theorem nAt_push (l : List Rs) (x : Rs) (q : Pl) : nAt (l ++ [x]) q = if x.p = q then x.n else nAt l q := by simp [nAt]
def codeOf : Option Nat → Int
  | none => 0
  | some b => (b : Int) + 1
theorem codeOf_inj : ∀ {a b : Option Nat}, codeOf a = codeOf b → a = b
  | none, none, _ => rfl
  | none, some b, h => by simp only [codeOf] at h; omega
  | some a, none, h => by simp only [codeOf] at h; omega
  | some a, some b, h => by simp only [codeOf] at h; congr 1; omega
def mpE : Value → Option (DataW Unit × List MemPlace)
  | .map r => some (.lit (.int .i64 (codeOf r)), [])
  | _ => none
theorem mpE_inv {v : Value} {z : DataW Unit × List MemPlace} (h : mpE v = some z) : ∃ r, v = .map r ∧ z = (.lit (.int .i64 (codeOf r)), []) := by
  unfold mpE at h
  split at h
  · exact ⟨_, rfl, (Option.some.inj h).symm⟩
  · cases h
theorem litM_inj {a b : Int} (h : (DataW.lit (.int .i64 a) : DataW Unit) = .lit (.int .i64 b)) : a = b := by
  injection h with h
  injection h
theorem zeroMp (u : World) : (zeroValue 52).run Try.prog u = .ok (.map none) u := by kernel_rfl
theorem zeroI64 (u : World) : (zeroValue 2).run Try.prog u = .ok (.int .i64 0) u := by kernel_rfl
theorem ownsMap_blockM {H : Type} {P : Program} {k : TypeId} {R : Value → Option (DataW H × List MemPlace)} {w w' : World} {b n : Nat} {D : DataW H} (h : w.ownsMap P k R b n D) (hb : w'.heap[b]? = w.heap[b]?) : w'.ownsMap P k R b n D := by
  obtain ⟨es, clock, h1, h2⟩ := h
  exact ⟨es, clock, hb.trans h1, h2⟩
/-- Numbers under windows and keys. -/
structure Nest (base : Nat) (w : World) (m n : Nat) (l : List Rs) (f : Int → Int → Option Nat) : Prop where
  far : base ≤ m
  out : ∃ D : DataW Unit, w.ownsMap Try.prog 48 mpE m n D ∧ ∀ lo hi, wf64 lo → wf64 hi → D.atKey (wkK lo hi) (.lit (.int .i64 0)) = .lit (.int .i64 (codeOf (f lo hi)))
  inn : ∀ lo hi b, f lo hi = some b → base ≤ b ∧ b ≠ m ∧ ∃ D : DataW Unit, w.ownsMap Try.prog 9 (plainElem Try.prog 2) b n D ∧ ∀ key : List UInt8, key.length ≤ maxLen → D.atKey (.string key) (.lit (.int .i64 0)) = .lit (.int .i64 (nAt l ⟨lo, hi, key⟩))
  no : ∀ lo hi, f lo hi = none → ∀ key, nAt l ⟨lo, hi, key⟩ = 0
  inj : ∀ lo hi lo' hi' b, f lo hi = some b → f lo' hi' = some b → lo = lo' ∧ hi = hi'
section
variable {base m n : Nat} {w w' : World} {l : List Rs} {f : Int → Int → Option Nat}
theorem Nest.lt (h : Nest base w m n l f) : m < w.heap.size := by
  obtain ⟨D, ho, _⟩ := h.out
  exact ho.lt
theorem Nest.turn (h : Nest base w m n l f) (hb : ∀ k, base ≤ k → k < w.heap.size → w'.heap[k]? = w.heap[k]?) : Nest base w' m n l f := by
  refine ⟨h.far, ?_, ?_, h.no, h.inj⟩
  · obtain ⟨D, ho, hat⟩ := h.out
    exact ⟨D, ownsMap_blockM ho (hb m h.far ho.lt), hat⟩
  · intro lo hi b hf
    obtain ⟨h1, h2, D, ho, hat⟩ := h.inn lo hi b hf
    exact ⟨h1, h2, D, ownsMap_blockM ho (hb b h1 ho.lt), hat⟩
theorem Nest.below (h : Nest base w m n l f) (hb : Below w.heap.size w w') : Nest base w' m n l f := h.turn fun k _ hk => hb.block k hk
theorem Nest.start (w : World) (hb : base ≤ w.heap.size) : Nest base (w.alloc (.map #[] 0)) w.heap.size 0 [] (fun _ _ => none) :=
  ⟨hb, ⟨.map [], World.ownsMap_made w _ _ _, fun _ _ _ _ => rfl⟩, (fun _ _ _ hf => nomatch hf), (fun _ _ _ _ => rfl), (fun _ _ _ _ _ hf => nomatch hf)⟩
theorem Nest.look (h : Nest base w m n l f) {lo hi : Int} (h1 : wf64 lo) (h2 : wf64 hi) :
    (Instr.lookup 51 (.map (some m)) (.agg #[.int .i64 lo, .int .i64 hi]) false).run Try.prog w = .ok (.map (f lo hi)) w := by
  obtain ⟨D, ho, hat⟩ := h.out
  obtain ⟨v, ps, hrun, hv⟩ := ho.lookup lawWk Try.underlying51 (z := .map none) (zeroMp w) (zd := .lit (.int .i64 0)) (zp := []) rfl (keyOf_wk h1 h2)
  obtain ⟨r, rfl, hz⟩ := mpE_inv hv
  rw [hat lo hi h1 h2] at hz
  have e := litM_inj (congrArg Prod.fst hz)
  rw [codeOf_inj e]
  exact hrun
theorem look_nil {key : List UInt8} (hk : key.length ≤ maxLen) (w : World) : (Instr.lookup 52 (.map none) (.string (kS key)) false).run Try.prog w = .ok (.int .i64 0) w := by
  have hfi : (Instr.findKey 9 (.string (kS key)) []).run Try.prog w = .ok none w := by
    rcases lawSt.find w (keyOf_st hk) [] (by simp) with ⟨h, _⟩ | ⟨j, e, _, h2, _⟩
    · exact h
    · simp at h2
  simp [Instr.lookup, run_underlying Try.underlying52, lawSt.check w _ (keyOf_st hk), hfi, Result.andThen]
theorem Nest.get (h : Nest base w m n l f) (lo hi : Int) {key : List UInt8} (hk : key.length ≤ maxLen) :
    (Instr.lookup 52 (.map (f lo hi)) (.string (kS key)) false).run Try.prog w = .ok (.int .i64 (nAt l ⟨lo, hi, key⟩)) w := by
  cases hf : f lo hi with
  | none => rw [h.no lo hi hf key]; exact look_nil hk w
  | some b =>
    obtain ⟨_, _, D, ho, hat⟩ := h.inn lo hi b hf
    obtain ⟨c, hrun, hc, _⟩ := ho.lookup_int lawSt Try.underlying52 Try.underlying2 (zeroI64 w) (keyOf_st hk)
    rw [hat key hk] at hc
    rw [litM_inj hc]
    exact hrun
/-- A window's map made. -/
theorem Nest.open_ (h : Nest base w m n l f) (hn : n < maxLen) (hb : base ≤ w.heap.size) {lo hi : Int} (h1 : wf64 lo) (h2 : wf64 hi) (hf : f lo hi = none) :
    ∃ w2, (Instr.mapUpdate 51 (.map (some m)) (.agg #[.int .i64 lo, .int .i64 hi]) (.map (some w.heap.size))).run Try.prog (w.alloc (.map #[] 0)) = .ok () w2 ∧
      (w.alloc (.map #[] 0)).grownBy w2 (some m) ∧ Nest base w2 m (n + 1) l (fun a b => if a = lo ∧ b = hi then some w.heap.size else f a b) := by
  obtain ⟨D, ho, hat⟩ := h.out
  obtain ⟨w2, hrun, ho2, hg⟩ := (ho.alloc (.map #[] 0)).update lawWk Try.underlying51 hn (val := .map (some w.heap.size)) (d := .lit (.int .i64 (codeOf (some w.heap.size)))) (ps := []) (keyOf_wk h1 h2) rfl
  have hlt := ho.lt
  refine ⟨w2, hrun, hg, h.far, ⟨_, ho2, ?_⟩, ?_, ?_, ?_⟩
  · intro a b ha hb2
    by_cases e : a = lo ∧ b = hi
    · rw [if_pos e, e.1, e.2, atKey_put_same ho.isMap (lawWk.key (keyOf_wk h1 h2))]
    · rw [if_neg e, atKey_put_other (fun e2 => e (wkK_inj ha hb2 h1 h2 e2)), hat a b ha hb2]
  · intro a b k hk
    by_cases e : a = lo ∧ b = hi
    · rw [if_pos e] at hk
      cases hk
      refine ⟨hb, by omega, .map [], ((World.ownsMap_made w _ _ _).kept hg (by simp; omega)).mono (Nat.zero_le _), fun key _ => ?_⟩
      rw [e.1, e.2, h.no lo hi hf key]
      rfl
    · rw [if_neg e] at hk
      obtain ⟨k1, k2, D2, o2, a2⟩ := h.inn a b k hk
      exact ⟨k1, k2, D2, ((o2.alloc _).kept hg (fun e3 => k2 (Option.some.inj e3))).mono (Nat.le_succ _), a2⟩
  · intro a b hk key
    by_cases e : a = lo ∧ b = hi
    · rw [if_pos e] at hk; cases hk
    · rw [if_neg e] at hk; exact h.no a b hk key
  · intro a b c d k hk hk2
    by_cases e : a = lo ∧ b = hi
    · rw [if_pos e] at hk
      cases hk
      by_cases e2 : c = lo ∧ d = hi
      · exact ⟨e.1.trans e2.1.symm, e.2.trans e2.2.symm⟩
      · rw [if_neg e2] at hk2
        obtain ⟨_, _, D2, o2, _⟩ := h.inn c d _ hk2
        exact absurd o2.lt (Nat.lt_irrefl _)
    · rw [if_neg e] at hk
      by_cases e2 : c = lo ∧ d = hi
      · rw [if_pos e2] at hk2
        cases hk2
        obtain ⟨_, _, D2, o2, _⟩ := h.inn a b _ hk
        exact absurd o2.lt (Nat.lt_irrefl _)
      · rw [if_neg e2] at hk2
        exact h.inj a b c d k hk hk2
/-- A number put under its place. -/
theorem Nest.put (h : Nest base w m n l f) (hn : n < maxLen) {b : Nat} (x : Rs) (hk : x.p.key.length ≤ maxLen) (hx : wf64 x.n) (hf : f x.p.lo x.p.hi = some b) :
    ∃ w2, (Instr.mapUpdate 52 (.map (some b)) (.string (kS x.p.key)) (.int .i64 x.n)).run Try.prog w = .ok () w2 ∧ w.grownBy w2 (some b) ∧ Nest base w2 m (n + 1) (l ++ [x]) f := by
  obtain ⟨hb1, hb2, D, ho, hat⟩ := h.inn _ _ _ hf
  obtain ⟨w2, hrun, ho2, hg⟩ := ho.update lawSt Try.underlying52 hn (val := .int .i64 x.n) (d := .lit (.int .i64 x.n)) (ps := []) (keyOf_st hk) (plainElem_int Try.underlying2 hx)
  refine ⟨w2, hrun, hg, h.far, ?_, ?_, ?_, h.inj⟩
  · obtain ⟨D2, o2, a2⟩ := h.out
    exact ⟨D2, (o2.kept hg (fun e3 => hb2 (Option.some.inj e3).symm)).mono (Nat.le_succ _), a2⟩
  · intro lo hi b' hf'
    by_cases e : b' = b
    · subst e
      obtain ⟨e1, e2⟩ := h.inj _ _ _ _ _ hf hf'
      refine ⟨hb1, hb2, _, ho2, fun key hk2 => ?_⟩
      rw [nAt_push]
      by_cases e3 : key = x.p.key
      · rw [e3, atKey_put_same ho.isMap (lawSt.key (keyOf_st hk)), if_pos (by rw [← e1, ← e2])]
      · rw [atKey_put_other (fun e4 => e3 (by injection e4)), ← e1, ← e2, hat key hk2, if_neg (fun e5 => e3 (congrArg Pl.key e5).symm)]
    · obtain ⟨k1, k2, D2, o2, a2⟩ := h.inn lo hi b' hf'
      refine ⟨k1, k2, D2, (o2.kept hg (fun e3 => e (Option.some.inj e3))).mono (Nat.le_succ _), fun key hk2 => ?_⟩
      rw [nAt_push, if_neg, a2 key hk2]
      intro e5
      rw [e5] at hf
      simp only at hf
      rw [hf'] at hf
      exact e (Option.some.inj hf)
  · intro lo hi hf' key
    rw [nAt_push, if_neg, h.no lo hi hf' key]
    intro e5
    rw [e5] at hf
    simp only at hf
    rw [hf'] at hf
    cases hf
end
theorem nAt_panes (k : Int) : ∀ {l : List Pn}, Pan.Ord l → ∀ (q : Pl) (a0 : Int), (l.map (resOf k)).foldl (fun a x => if x.p = q then x.n else a) a0 = (match get l q with | none => a0 | some z => z.n)
  | [], _, q, a0 => rfl
  | x :: r, h, q, a0 => by
    obtain ⟨hx, hr⟩ := List.pairwise_cons.1 h
    rw [List.map_cons, List.foldl_cons, nAt_panes k hr, Pan.get]
    show (match get r q with | none => (if x.p = q then x.acc.n else a0) | some z => z.n) = _
    by_cases e : x.p = q
    · rw [if_pos e, if_pos e, Pan.get_ahead (fun b hb => e ▸ hx b hb)]
    · rw [if_neg e, if_neg e]
/-- The number of a result: of the values of its place. -/
theorem nAt_res {j : Jb} (hr : Jo.right j = true) {l : List Ev} (hl : l.length ≤ 120) (q : Pl) : nAt (res j l) q = ((vals q (flat j l)).length : Int) := by
  unfold nAt res panes
  rw [nAt_panes j.fold (Pan.adds_ord _ _), Pan.get_adds (fold_ok hr)]
  have h1 := flat_len j l
  have h2 := Pan.vals_len q (flat j l)
  by_cases e : vals q (flat j l) = []
  · rw [if_pos e, e]; rfl
  · rw [if_neg e]
    exact (Acm.shape (fold_ok hr) _ (vals q (flat j l)) rfl (by omega)).1
theorem nAt_mem {j : Jb} (hr : Jo.right j = true) {l : List Ev} {x : Rs} (hx : x ∈ res j l) : nAt (res j l) x.p = x.n := by
  unfold nAt res panes at *
  rw [nAt_panes j.fold (Pan.adds_ord _ _)]
  obtain ⟨a, ha, rfl⟩ := List.mem_map.1 hx
  show (match get (adds j.fold (flat j l)) a.p with | none => 0 | some z => z.n) = a.acc.n
  rw [Pan.mem_adds (fold_ok hr) ha]
/-- No result goes, none has a lesser number. -/
theorem res_more {j : Jb} (hr : Jo.right j = true) {l t : List Ev} (hl : (l ++ t).length ≤ 120) : (∀ x ∈ res j l, x.n ≤ nAt (res j (l ++ t)) x.p) ∧ (res j l).length ≤ (res j (l ++ t)).length := by
  constructor
  · intro x hx
    rw [← nAt_mem hr hx, nAt_res hr (by rw [List.length_append] at hl; omega), nAt_res hr hl, flat_append, Pan.vals_append, List.length_append]
    omega
  · unfold res panes
    rw [List.length_map, List.length_map, flat_append]
    generalize flat j l = cs
    generalize flat j t = ds
    have : ∀ (ds : List (Pl × Int)) (a : List Pn), a.length ≤ (ds.foldl (fun l v => Pan.ins j.fold ⟨v.1, Acm.one j.fold v.2⟩ l) a).length := by
      intro ds
      induction ds with
      | nil => intro a; exact Nat.le_refl _
      | cons v r ih => intro a; exact Nat.le_trans (Pan.len_ins _ _ _).1 (ih _)
    have h := this ds (adds j.fold cs)
    unfold adds at h ⊢
    rw [List.foldl_append]
    exact h
theorem res_wf {j : Jb} (hr : Jo.right j = true) {l : List Ev} (h : ∀ e ∈ l, evIs e = true) (hl : l.length ≤ 120) : ∀ x ∈ res j l, wf64 x.p.lo ∧ wf64 x.p.hi ∧ x.p.key.length ≤ maxLen ∧ wf64 x.n ∧ 1 ≤ x.n ∧ x.n ≤ 1000000 := by
  intro x hx
  obtain ⟨a, ha, rfl⟩ := List.mem_map.1 hx
  have hp := ((Pan.right_iff _).1 (panes_right hr h hl)).2.1 a ha
  obtain ⟨h1, h2, h3, h4, h5, h6⟩ := of_decide_eq_true (show decide (1 ≤ a.p.key.length ∧ a.p.key.length ≤ 16 ∧ 0 ≤ a.p.lo ∧ a.p.lo < a.p.hi ∧ a.p.hi ≤ 1099511627776 ∧ 1 ≤ a.acc.n) = true from hp)
  have hn := panes_ns hr hl a ha
  exact ⟨wf64_in (by show _ ≤ a.p.lo; omega) (by show a.p.lo ≤ _; omega), wf64_in (by show _ ≤ a.p.hi; omega) (by show a.p.hi ≤ _; omega), by show a.p.key.length ≤ _; unfold maxLen; omega, wf64_in (by show _ ≤ a.acc.n; omega) (by show a.acc.n ≤ _; omega), hn⟩
end Mo
end Go.Proofs.Ytipmphkmeiogoaa
/- Sources put together, one more behind them. -/
namespace Go.Proofs.Ytipmphkmeiogoaa
open Go.ChangeShapes Go.WideShapes Go.ChangeAt Go.RowKit Go.Shelf Go.Maps Tick
set_option linter.unusedVariables false
set_option maxRecDepth 8000
namespace Mo
open Gen (TellsI TellsB SaysI lies_new1)
open Jo (Jb Ev Sr evIs srcOk insOk jbC jbV srV evL Srs)
open Pan (Pl Pn Rs adds)
def cutM (s : Sr) : Sr := if 30 < s.l.length then ⟨s.A, s.c, s.l.take 30⟩ else s
theorem cutM_ok {w : World} {s : Sr} (h : SrOk w s) : SrOk w (cutM s) := by
  unfold cutM
  split
  · exact ⟨Gen.row_take Jo.evL_len h.row 30, by have := h.few; simp only [List.length_take]; omega, h.cap, fun e he => h.fit e (List.mem_of_mem_take he)⟩
  · exact h
theorem cutM_len (s : Sr) : (cutM s).l.length ≤ 30 := by
  unfold cutM
  split
  · simp only [List.length_take]; omega
  · omega
/-- The bound of the law's inputs, with a source more. -/
theorem more_bd (j : Jb) (ls : List Sr) {s : Sr} (h30 : s.l.length ≤ 30) (h : insOk (fews ls ++ [s]) = true) : (keptAll j ((fews ls ++ [s]).map (·.l))).length ≤ 120 := by
  obtain ⟨h4, hs⟩ := insOk_all4 h
  have h1 := keptAll_len j (fews ls ++ [s]) 30 fun t hm => by
    rcases List.mem_append.1 hm with h | h
    · have h200 := (hs t (List.mem_append_left _ h)).1
      obtain ⟨u, _, rfl⟩ := List.mem_map.1 h
      exact cut30_len u h200
    · simp only [List.mem_singleton] at h
      subst h
      exact h30
  omega
theorem step_pushLo {ops : Array Oper} {o : Oper} {a : Act} {w w0 : World} {K : Act → World → Prop} {Q : Exit → Act → World → Prop} {E : Prop}
    (hg : o.guard = none) (s x : Operand) (hop : o.op = Op.call { callee := Callee.builtin Builtin.append, args := #[s, x], argTypes := #[29, 29] })
    (v : Value) (ms : List Sr) (hs : a.eval s = v) (h : BuiltL w0 w v ms)
    (A : Option Addr) (m c : Nat) (ys : List Sr) (hx : a.eval x = .slice A m c) (hm : ys.length = m) (hr : Row w A (lsC ys)) (hlen : ms.length + m ≤ 100000)
    (hK : ∀ v' w', BuiltL w0 w' v' (ms ++ ys) → w.grownBy w' v.ownBlock → K (a.put o.dst v') w') :
    if Region.wanted o (yielded ops a.tmps) = true then Oper.wp Try.prog o a w K Q else E := by
  have hw : Region.wanted o (yielded ops a.tmps) = true := by simp [Region.wanted, hg]
  rw [if_pos hw]
  obtain ⟨i0, hi0, hz0, hz1, hz2⟩ := info_parts lsInfo
  rcases A with _ | ad
  · have hn : ys = [] := by
      rcases hr with hr | ⟨_, _, hr, _⟩
      · exact List.eq_nil_of_length_eq_zero (by rw [← lsC_len, hr]; rfl)
      · cases hr
    subst hn
    have hm0 : m = 0 := hm.symm
    subst hm0
    have hrun : (Builtin.append_ #[29, 29] o.type #[v, .slice none 0 c]).run Try.prog w = .ok v w := by
      rcases h.own.2 with ⟨rfl, _⟩ | ⟨g, cap, cur, rfl, _, _, hnc, _⟩
      · simp [Builtin.append_, run_underlying Try.underlying29, sizeOf, typeInfo, hi0, Builtin.lenOf, Builtin.firstCells]
      · simp [Builtin.append_, run_underlying Try.underlying29, sizeOf, typeInfo, hi0, Builtin.lenOf, Builtin.firstCells, hnc, storeCells]
    unfold Oper.wp
    simp [execOp, hop, resolve, invoke, builtin, hs, hx, hrun, Result.andThen]
    exact hK v w (by rw [List.append_nil]; exact h) (World.grownBy.refl _ _)
  · have hcells : ∀ j u, (lsC ys)[j]? = some u → w.cell? (ad.add j) = some u := by
      rcases hr with hr | ⟨b, off, hr, hc⟩
      · rw [hr]; intro j u hu; simp at hu
      · cases hr
        intro j u hu
        rw [Go.WideShapes.add_plain]
        exact hc j u hu
    obtain ⟨v', w', hrun, r1, r2, r3, r4⟩ := run_append_own_at (P := Try.prog) w w0.heap.size 29 o.type 24 i0 _ 1 24 Try.underlying29 hi0 hz0 hz1 hz2 rfl (by omega) v ms.length _ h.own ad m c (lsC ys) (by rw [lsC_len]; omega) hcells (ls_ones ys) (by unfold maxLen; omega) (by omega) h.below.size
    unfold Oper.wp
    simp [execOp, hop, resolve, invoke, builtin, hs, hx, hrun, Result.andThen]
    exact hK v' w' ⟨by rw [List.length_append, hm, List.flatMap_append]; exact r1, h.below.grown r2 h.below.size fun q hq => (h.far hq).1⟩ r2
abbrev emC : Obj := .cells #[] 24
abbrev srC (v : Value) : Obj := .cells #[v] 24
theorem builtE (w : World) : BuiltL w ((w.alloc (.cells #[] 24)).drew) (.slice (some ⟨w.heap.size, 0, none⟩) 0 0) [] := ⟨(own_new (Nat.le_refl _)).drew, below_drewOf (below_al (Below.refl _ _))⟩
theorem builtEX (w : World) (v : Value) : BuiltL w (((w.alloc (.cells #[] 24)).alloc (.cells #[v] 24)).drew) (.slice (some ⟨w.heap.size, 0, none⟩) 0 0) [] :=
  ((⟨own_new (Nat.le_refl _), below_al (Below.refl _ _)⟩ : BuiltL w (w.alloc (.cells #[] 24)) (.slice (some ⟨w.heap.size, 0, none⟩) 0 0) []).up (below_drewOf (below_al (Below.refl _ _))))
theorem builtXE (w : World) (v : Value) : BuiltL w (((w.alloc (.cells #[v] 24)).alloc (.cells #[] 24)).drew) (.slice (some ⟨w.heap.size + 1, 0, none⟩) 0 0) [] := by
  have h := own_new (B := w.heap.size) (e := 24) (size := 1) (w := w.alloc (.cells #[v] 24)) (by simp)
  rw [World.size_alloc] at h
  exact ⟨h.drew, below_drewOf (below_al (below_al (Below.refl _ _)))⟩
theorem rowEX {w w4 : World} {v : Value} (hg : (((w.alloc (.cells #[] 24)).alloc (.cells #[v] 24)).drew).grownBy w4 (some w.heap.size)) : Row w4 (some ⟨w.heap.size + 1, 0, none⟩) [v] := by
  have h := row_new1 (w.alloc (.cells #[] 24)) v
  rw [World.size_alloc] at h
  exact Row.grown (show Row (((w.alloc (.cells #[] 24)).alloc (.cells #[v] 24)).drew) _ _ from h.below (below_drewOf (Below.refl _ _))) hg (.inr ⟨_, _, rfl, by simp⟩)
theorem rowXE {w w4 : World} {v : Value} (hg : (((w.alloc (.cells #[v] 24)).alloc (.cells #[] 24)).drew).grownBy w4 (some (w.heap.size + 1))) : Row w4 (some ⟨w.heap.size, 0, none⟩) [v] := by
  have h := row_new1 w v
  exact Row.grown (show Row (((w.alloc (.cells #[v] 24)).alloc (.cells #[] 24)).drew) _ _ from (h.below (below_al (Below.refl _ _))).below (below_drewOf (Below.refl _ _))) hg (.inr ⟨_, _, rfl, by simp⟩)
theorem rowS1 (w : World) (s : Sr) : Row (w.alloc (.cells #[srV s] 24)) (some ⟨w.heap.size, 0, none⟩) (lsC [s]) := row_new1 w (srV s)
theorem rowEXs {w w4 : World} {s : Sr} (hg : (((w.alloc (.cells #[] 24)).alloc (.cells #[srV s] 24)).drew).grownBy w4 (some w.heap.size)) : Row w4 (some ⟨w.heap.size + 1, 0, none⟩) (lsC [s]) := rowEX hg
theorem rowXEs {w w4 : World} {s : Sr} (hg : (((w.alloc (.cells #[srV s] 24)).alloc (.cells #[] 24)).drew).grownBy w4 (some (w.heap.size + 1))) : Row w4 (some ⟨w.heap.size, 0, none⟩) (lsC [s]) := rowXE hg
end Mo
end Go.Proofs.Ytipmphkmeiogoaa
