/- LoopOpen, ModMath, put together. -/
import Derived.Test.YtipmphkmeiogoaaZ20
import Derived.Test.YtipmphkmeiogoaaZ4
import Derived.Laws.StructEq
import Derived.Test.YtipmphkmeiogoaaZ5
import Derived.Test.YtipmphkmeiogoaaZ13
import Derived.Test.YtipmphkmeiogoaaZ14
import Derived.Test.YtipmphkmeiogoaaZ19
/- Events that came in; events compared whole. -/
namespace Go.Proofs.Ytipmphkmeiogoaa
open Go.ChangeShapes Go.WideShapes Go.ChangeAt Go.RowKit
set_option linter.unusedVariables false
set_option maxRecDepth 8000
namespace Lp
open Gen
/-- An event whose numbers fit, and whose key is no longer than a string may be. -/
def evOk (e : Ev) : Prop := inI e.at_ ∧ inI e.val ∧ e.key.size ≤ maxLen
theorem lwf64 {n : Int} (h : (Lit.int .i64 n).wf = true) : inI n := by
  simp [Lit.wf, IntKind.min, IntKind.max, IntKind.bits, IntKind.signed] at h
  unfold inI
  omega
theorem wf_in {n : Int} (h : inI n) : (Lit.int .i64 n).wf = true := by
  unfold inI at h
  simp [Lit.wf, IntKind.min, IntKind.max, IntKind.bits, IntKind.signed]
  omega
theorem lcells_str : Try.prog.cellsOf 9 = 1 := by kernel_rfl
theorem lcells_i64 : Try.prog.cellsOf 2 = 1 := by kernel_rfl
theorem lcells_ev : Try.prog.cellsOf 45 = 3 := by kernel_rfl
section
variable {H : Type} {enc : TypeId × Value → H} {w : World} {base : Nat} {spare : Nat → Bool} {held : Bool}
theorem lone_int {fuel : Nat} {c : Value} {x : DataW H × List MemPlace} (h : DataW.trod enc Try.prog w base spare held fuel 2 [c] = some x) : ∃ z : Int, c = .int .i64 z ∧ inI z := by
  obtain ⟨z, h1, _, h3⟩ := DataW.trod_int Try.underlying2 h
  exact ⟨z, by simpa using h1, lwf64 h3⟩
theorem lone_str {fuel : Nat} {c : Value} {x : DataW H × List MemPlace} (h : DataW.trod enc Try.prog w base spare held fuel 9 [c] = some x) : ∃ s : ByteArray, c = .string s ∧ s.size ≤ maxLen := by
  obtain ⟨s, h1, _, h3⟩ := DataW.trod_string Try.underlying9 h
  exact ⟨s, by simpa using h1, h3⟩
theorem ltrod_ev {fuel : Nat} {c0 c1 c2 : Value} {x : DataW H × List MemPlace} (h : DataW.trod enc Try.prog w base spare held fuel 45 [c0, c1, c2] = some x) : ∃ e : Ev, [c0, c1, c2] = evL e ∧ evOk e := by
  obtain ⟨xs, n, _, _, _, hlen, hg⟩ := DataW.trod_struct Try.underlying45 h
  have hl : xs.length = 3 := hlen
  match xs, hl with
  | [y0, y1, y2], _ =>
    obtain ⟨k, rfl, h0⟩ := lone_str (x := y0) (by simpa [lcells_str] using hg 0 _ rfl)
    obtain ⟨a, rfl, h1⟩ := lone_int (x := y1) (by simpa [lcells_i64] using hg 1 _ rfl)
    obtain ⟨v, rfl, h2⟩ := lone_int (x := y2) (by simpa [lcells_i64] using hg 2 _ rfl)
    exact ⟨⟨k, a, v⟩, rfl, h1, h2, h0⟩
theorem openEvL {r : Reach} {b0 : Nat} {v : Value} {d : DataW H} {p : List MemPlace} (hv : Value.okWide Try.prog w r b0 45 v) (h : DataW.Trod enc Try.prog w base spare held 45 v d p) : ∃ e : Ev, v = evV e ∧ evOk e := by
  obtain ⟨cs, rfl, hsz⟩ := okWide_struct Try.underlying45 hv
  obtain ⟨l⟩ := cs
  match l, hsz.trans lcells_ev with
  | [c0, c1, c2], _ =>
    obtain ⟨fuel, hf⟩ := h
    obtain ⟨e, he, hok⟩ := ltrod_ev (by simpa [Value.cells] using hf)
    refine ⟨e, ?_, hok⟩
    simp only [List.cons.injEq, and_true] at he
    rw [he.1, he.2.1, he.2.2]
instance : Inhabited {e : Ev // evOk e} := ⟨⟨zEv, by unfold inI; decide, by unfold inI; decide, Nat.zero_le _⟩⟩
/-- A row of events that came in. -/
theorem openEvsL {v : Value} {d : DataW H} {ps : List MemPlace} {r : Reach} {b0 : Nat} (hval : Value.okWide Try.prog w r b0 24 v) (h : DataW.Trod enc Try.prog w base spare held 24 v d ps) :
    ∃ (A : Option Addr) (c : Nat) (l : List Ev), v = .slice A l.length c ∧ l.length ≤ c ∧ c ≤ maxLen ∧ Row w A (l.flatMap evL) ∧ ∀ e ∈ l, evOk e := by
  obtain ⟨A, c, xs, h1, h2, h3, h4⟩ := openRow (f := fun p : {e : Ev // evOk e} => evL p.1) Try.underlying24 lcells_ev (by omega) (fun _ => rfl) (fun fuel cs x hl hx => by
    match cs, hl with
    | [c0, c1, c2], _ =>
      obtain ⟨t, e, ht⟩ := ltrod_ev hx
      exact ⟨⟨t, ht⟩, e⟩) hval h
  refine ⟨A, c, xs.map (·.1), by rw [List.length_map]; exact h1, by rw [List.length_map]; exact h2, h3, ?_, fun t ht => ?_⟩
  · rw [List.flatMap_map]
    exact h4
  · obtain ⟨p, _, rfl⟩ := List.mem_map.1 ht
    exact p.2
end
theorem evL_len (e : Ev) : (evL e).length = 3 := rfl
structure EvAt (w : World) (b o : Nat) (e : Ev) : Prop where
  c0 : w.cell? ⟨b, o, none⟩ = some (.string e.key)
  c1 : w.cell? ⟨b, o + 1, none⟩ = some (.int .i64 e.at_)
  c2 : w.cell? ⟨b, o + 2, none⟩ = some (.int .i64 e.val)
theorem row_evL {w : World} {A : Option Addr} {l : List Ev} (h : Row w A (l.flatMap evL)) {k : Nat} {e : Ev} (hk : l[k]? = some e) : ∃ b off, A = some ⟨b, off, none⟩ ∧ EvAt w b (off + k * 3) e := by
  obtain ⟨b, off, rfl, g⟩ := row_one evL_len (by omega) h hk
  exact ⟨b, off, rfl, g 0 _ rfl, g 1 _ rfl, g 2 _ rfl⟩
theorem lfields_ev : Try.prog.underlying 45 = some (.struct (Try.prog.fieldsOf 45)) := by kernel_rfl
theorem lstood_ev : Try.prog.stoodInHeld 45 = false := by kernel_rfl
theorem run_sameEv (e : Ev) (w : World) : (binOp .eql 45 (evV e) (evV e)).run Try.prog w = .ok (.bool true) w := by
  have h1 := Try.underlying9
  have h2 := Try.underlying2
  rw [run_eql_struct, show (10000 : Nat) = 9999 + 1 from rfl, run_equalIn_agg w _ _ _ _ lfields_ev lstood_ev]
  simp [Program.fieldsOf, Try.underlying45, Op.eqFields, part, isAgg, run_underlying h1, run_underlying h2, run_equalIn_string w 9998 _ _ _ h1, run_equalIn_int w 9998 _ .i64 .i64 _ _ h2]
theorem run_neqEv (e : Ev) (w : World) : (binOp .neq 45 (evV e) (evV e)).run Try.prog w = .ok (.bool false) w := by
  have h1 := Try.underlying9
  have h2 := Try.underlying2
  rw [run_neq_struct, show (10000 : Nat) = 9999 + 1 from rfl, run_equalIn_agg w _ _ _ _ lfields_ev lstood_ev]
  simp [Program.fieldsOf, Try.underlying45, Op.eqFields, part, isAgg, run_underlying h1, run_underlying h2, run_equalIn_string w 9998 _ _ _ h1, run_equalIn_int w 9998 _ .i64 .i64 _ _ h2]
theorem half6 (w : World) : Calls Try.prog 82 #[.int .i64 6] w (SaysI 3 w) := lpHalf 6 (by unfold inI; omega) w
theorem rv_abs (L : Int) : ∀ (k : Nat) (v : Int), (rv L k v).1.natAbs ≤ v.natAbs ∧ (0 ≤ v → 0 ≤ (rv L k v).1) ∧ (v ≤ 0 → (rv L k v).1 ≤ 0)
  | 0, v => ⟨Nat.le_refl _, fun h => h, fun h => h⟩
  | k + 1, v => by
    unfold rv
    split
    · exact ⟨Nat.le_refl _, fun h => h, fun h => h⟩
    · obtain ⟨h1, h2, h3⟩ := rv_abs L k (half v)
      have h4 := half_abs v
      refine ⟨by simp only; omega, fun h => h2 ?_, fun h => h3 ?_⟩
      · rw [← half_pos h]; omega
      · by_cases h5 : v < 0
        · have := (half_neg h5).1; omega
        · rw [← half_pos (by omega)]; omega
/-- More fuel: as many rounds or more; where there was fuel left, the same. -/
theorem rv_more (L : Int) : ∀ (k m : Nat) (v : Int), k ≤ m → (rv L k v).2 ≤ (rv L m v).2 ∧ ((rv L k v).2 < k → rv L k v = rv L m v)
  | 0, m, v, _ => ⟨Nat.zero_le _, fun h => by exact absurd h (Nat.lt_irrefl _)⟩
  | k + 1, 0, v, h => by omega
  | k + 1, m + 1, v, h => by
    obtain ⟨h1, h2⟩ := rv_more L k m (half v) (by omega)
    unfold rv
    split
    · exact ⟨Nat.le_refl _, fun _ => rfl⟩
    · refine ⟨Nat.succ_le_succ h1, fun h3 => ?_⟩
      rw [h2 (by simpa using h3)]
/-- A part of the fuel, and then the rest. -/
theorem rv_split (L : Int) : ∀ (k m : Nat) (v : Int), rv L m (rv L k v).1 = ((rv L (k + m) v).1, (rv L (k + m) v).2 - (rv L k v).2) ∧ (rv L k v).2 ≤ (rv L (k + m) v).2
  | 0, m, v => by simp [rv]
  | k + 1, m, v => by
    rw [show k + 1 + m = (k + m) + 1 by omega]
    by_cases h : (v.natAbs : Int) ≤ L
    · rw [rv_stop (.inl h), rv_stop (k := k + m + 1) (.inl h), rv_stop (.inl h)]
      exact ⟨rfl, Nat.le_refl _⟩
    · obtain ⟨h1, h2⟩ := rv_split L k m (half v)
      rw [rv_go h, rv_go h]
      refine ⟨?_, Nat.succ_le_succ h2⟩
      rw [h1]
      simp
end Lp
end Go.Proofs.Ytipmphkmeiogoaa
/- The required results, as plain data: what is kept of a source, the mark, the panes by one event after the other, and by all values at once. -/
namespace Go.Proofs.Ytipmphkmeiogoaa
set_option linter.unusedVariables false
set_option maxRecDepth 8000
namespace Mo
open Tick
open Jo (Jb Ev Sr evIs srcOk insOk)
open Pan (Pl Pn adds vals ins get Rs resO resOf)
def kb (s : ByteArray) : List UInt8 := s.data.toList
theorem kS_kb (s : ByteArray) : kS (kb s) = s := by
  obtain ⟨a⟩ := s
  show (⟨a.toList.toArray⟩ : ByteArray) = ⟨a⟩
  rw [Array.toArray_toList]
theorem kb_inj {a b : ByteArray} (h : kb a = kb b) : a = b := by rw [← kS_kb a, ← kS_kb b, h]
theorem kb_len (s : ByteArray) : (kb s).length = s.size := Array.length_toList
/-- An event as it leaves the loop. -/
def left (j : Jb) (e : Ev) : Ev := ⟨e.key, e.at_, (Lp.rv (Lp.limOf j.limit) (Lp.fuelOf j.fuel) e.val).1⟩
def mk (j : Jb) (m : Int) (e : Ev) : Int := max m (subT e.at_ j.delay)
def markOf (j : Jb) (m : Int) (l : List Ev) : Int := l.foldl (mk j) m
def kept (j : Jb) : Int → List Ev → List Ev
  | _, [] => []
  | m, e :: l => if e.at_ < m then kept j (mk j m e) l else left j e :: kept j (mk j m e) l
theorem mark_append (j : Jb) (m : Int) (a b : List Ev) : markOf j m (a ++ b) = markOf j (markOf j m a) b := by simp [markOf, List.foldl_append]
theorem mark_push (j : Jb) (m : Int) (a : List Ev) (e : Ev) : markOf j m (a ++ [e]) = mk j (markOf j m a) e := by simp [markOf, List.foldl_append]
theorem kept_append (j : Jb) : ∀ (a : List Ev) (m : Int) (b : List Ev), kept j m (a ++ b) = kept j m a ++ kept j (markOf j m a) b
  | [], _, _ => rfl
  | e :: a, m, b => by
    have ih := kept_append j a (mk j m e) b
    show (if e.at_ < m then kept j (mk j m e) (a ++ b) else left j e :: kept j (mk j m e) (a ++ b)) = (if e.at_ < m then kept j (mk j m e) a else left j e :: kept j (mk j m e) a) ++ kept j (markOf j (mk j m e) a) b
    rw [ih]
    split
    · rfl
    · rfl
theorem kept_push (j : Jb) (m : Int) (a : List Ev) (e : Ev) : kept j m (a ++ [e]) = if e.at_ < markOf j m a then kept j m a else kept j m a ++ [left j e] := by
  rw [kept_append]
  show kept j m a ++ (if e.at_ < markOf j m a then [] else [left j e]) = _
  split
  · simp
  · rfl
theorem kept_len (j : Jb) : ∀ (l : List Ev) (m : Int), (kept j m l).length ≤ l.length
  | [], _ => Nat.le_refl _
  | e :: l, m => by
    have ih := kept_len j l (mk j m e)
    unfold kept
    split
    · rw [List.length_cons]; omega
    · rw [List.length_cons, List.length_cons]; omega
theorem mk_ge (j : Jb) (m : Int) (e : Ev) : m ≤ mk j m e := Int.le_max_left _ _
theorem mark_ge (j : Jb) : ∀ (l : List Ev) (m : Int), m ≤ markOf j m l
  | [], m => Int.le_refl _
  | e :: l, m => Int.le_trans (mk_ge j m e) (mark_ge j l (mk j m e))
theorem cl_bd (t : Int) : 0 ≤ cl t ∧ cl t ≤ 1099511627776 := ⟨cl_lo t, cl_hi t⟩
theorem mark_bd (j : Jb) : ∀ (l : List Ev) (m : Int), 0 ≤ m ∧ m ≤ 1099511627776 → 0 ≤ markOf j m l ∧ markOf j m l ≤ 1099511627776
  | [], m, h => h
  | e :: l, m, h => mark_bd j l (mk j m e) (by
      have := cl_bd (cl e.at_ - cl j.delay)
      unfold mk subT
      omega)
theorem kept_mem (j : Jb) : ∀ (l : List Ev) (m : Int), ∀ x ∈ kept j m l, m ≤ x.at_ ∧ ∃ e ∈ l, x = left j e
  | [], _, x, h => by cases h
  | e :: l, m, x, h => by
    have ih := kept_mem j l (mk j m e) x
    have hm := mk_ge j m e
    unfold kept at h
    split at h
    · obtain ⟨h1, e2, h2, h3⟩ := ih h
      exact ⟨by omega, e2, by simp [h2], h3⟩
    · rcases List.mem_cons.1 h with rfl | h
      · exact ⟨by show m ≤ e.at_; omega, e, by simp, rfl⟩
      · obtain ⟨h1, e2, h2, h3⟩ := ih h
        exact ⟨by omega, e2, by simp [h2], h3⟩
theorem rv_in (L : Int) : ∀ (k : Nat) (v : Int), Lp.inI v → Lp.inI (Lp.rv L k v).1
  | 0, v, h => h
  | k + 1, v, h => by
    unfold Lp.rv
    split
    · exact h
    · exact rv_in L k (Lp.half v) (Lp.half_in h)
/-- An event whose numbers fit. -/
def fit (e : Ev) : Prop := Lp.inI e.at_ ∧ Lp.inI e.val
theorem left_fit {j : Jb} {e : Ev} (h : fit e) : fit (left j e) := ⟨h.1, rv_in _ _ _ h.2⟩
theorem left_is (j : Jb) (e : Ev) : evIs (left j e) = evIs e := rfl
theorem kept_fit {j : Jb} {m : Int} {l : List Ev} (h : ∀ e ∈ l, fit e) : ∀ x ∈ kept j m l, fit x := fun x hx => by
  obtain ⟨_, e, he, rfl⟩ := kept_mem j l m x hx
  exact left_fit (h e he)
theorem kept_is {j : Jb} {m : Int} {l : List Ev} (h : ∀ e ∈ l, evIs e = true) : ∀ x ∈ kept j m l, evIs x = true := fun x hx => by
  obtain ⟨_, e, he, rfl⟩ := kept_mem j l m x hx
  exact h e he
def keptAll (j : Jb) (ls : List (List Ev)) : List Ev := ls.flatMap (kept j 0)
/-- An event's values: one for each of its windows. -/
def cells1 (j : Jb) (e : Ev) : List (Pl × Int) := (Win.of j.size j.slide e.at_).map fun p => (⟨p.1, p.2, kb e.key⟩, e.val)
def flat (j : Jb) (l : List Ev) : List (Pl × Int) := l.flatMap (cells1 j)
theorem flat_append (j : Jb) (a b : List Ev) : flat j (a ++ b) = flat j a ++ flat j b := by simp [flat]
theorem flat_one (j : Jb) (e : Ev) : flat j [e] = cells1 j e := by simp [flat]
theorem of_len16 (s d t : Int) : (Win.of s d t).length ≤ 16 := by rw [Win.of, List.length_reverse]; exact Win.len_le s d t
theorem cells1_len (j : Jb) (e : Ev) : (cells1 j e).length ≤ 16 := by unfold cells1; rw [List.length_map]; exact of_len16 _ _ _
theorem flat_len (j : Jb) : ∀ l : List Ev, (flat j l).length ≤ 16 * l.length
  | [] => by simp [flat]
  | e :: l => by
    have h1 := cells1_len j e
    have h2 := flat_len j l
    unfold flat at h2 ⊢
    rw [List.flatMap_cons, List.length_append, List.length_cons]
    omega
theorem is_iff {e : Ev} : evIs e = true ↔ (1 ≤ e.key.size ∧ e.key.size ≤ 16) ∧ 0 ≤ e.at_ ∧ e.at_ < 1099511627776 := by
  simp only [evIs, Itm.okEv, Itm.okKey, Itm.wn, Bool.and_eq_true, decide_eq_true_eq]
  omega
theorem win_ok {j : Jb} (h : Jo.right j = true) : Win.ok j.size j.slide = true := by
  have h1 := ((Jo.right_iff j).1 h).2.1
  rw [Jo.winOk_iff] at h1
  exact Win.ok_iff.2 h1
theorem fold_ok {j : Jb} (h : Jo.right j = true) : 1 ≤ j.fold ∧ j.fold ≤ 5 := by
  have h1 := ((Jo.right_iff j).1 h).2.2.1
  simpa [Jo.foldOk] using h1
theorem good_of {j : Jb} {e : Ev} (h : Jo.right j = true) (he : evIs e = true) : Win.good j.size j.slide e.at_ = true := by
  have h1 := Win.ok_iff.1 (win_ok h)
  exact Win.good_iff.2 ⟨h1, (is_iff.1 he).2⟩
theorem mem_of {s d t : Int} (h : Win.good s d t = true) (p : Int × Int) : p ∈ Win.of s d t ↔ p.1 % d = 0 ∧ 0 ≤ p.1 ∧ p.1 ≤ t ∧ t < p.1 + s ∧ p.2 = Win.hiOf s p.1 := by
  obtain ⟨⟨o1, o2, o3, o4⟩, g1, g2⟩ := Win.good_iff.1 h
  constructor
  · intro hp
    obtain ⟨i, hi⟩ := List.getElem?_of_mem hp
    have hl : i < Win.cnt s d t := by rw [← Win.of_len h]; exact (List.getElem?_eq_some_iff.1 hi).1
    rw [Win.of_at h hl] at hi
    obtain ⟨l0, l1, l2, l3⟩ := Win.lo_bd h hl
    cases hi
    exact ⟨l3, l0, l1, l2, rfl⟩
  · obtain ⟨x, y⟩ := p
    simp only
    rintro ⟨h1, h2, h3, h4, rfl⟩
    have e0 : x = x / d * d := by have := Int.mul_ediv_add_emod x d; rw [h1, Int.mul_comm] at this; omega
    obtain ⟨kk, hkk⟩ : ∃ kk, kk = x / d := ⟨_, rfl⟩
    rw [← hkk] at e0
    have hk0 : 0 ≤ kk := by rw [hkk]; exact Int.ediv_nonneg h2 (by omega)
    have hku : kk ≤ t / d := by rw [Int.le_ediv_iff_mul_le (by omega)]; omega
    have ha := Win.at_ (s := s) (d := d) (t := t) hk0 hku
    have hj : (t / d - kk).toNat < Win.cnt s d t := (Win.cnt_lt o1 o2 (by omega) _).2 (by rw [ha, ← e0]; omega)
    refine List.mem_of_getElem? ((Win.of_get h hj).trans ?_)
    unfold Win.win
    rw [ha, ← e0]
theorem nodup_of (s d t : Int) : (Win.of s d t).Nodup := by
  unfold Win.of Win.desc
  split
  · rename_i h
    obtain ⟨⟨o1, o2, o3, o4⟩, g1, g2⟩ := Win.good_iff.1 h
    rw [List.Nodup, List.pairwise_reverse, List.pairwise_map]
    refine List.Pairwise.imp ?_ (List.nodup_range (n := Win.cnt s d t))
    intro a b hab e
    have e1 := congrArg Prod.fst e
    simp only [Win.win] at e1
    have e2 : ((b : Nat) : Int) * d = (a : Int) * d := by omega
    have e3 := Int.eq_of_mul_eq_mul_right (by omega) e2
    exact hab (by omega)
  · simp
theorem filter_one {α : Type} [DecidableEq α] (a : α) : ∀ (l : List α), l.Nodup → l.filter (fun x => decide (x = a)) = if a ∈ l then [a] else []
  | [], _ => by simp
  | x :: l, h => by
    obtain ⟨h1, h2⟩ := List.nodup_cons.1 h
    have ih := filter_one a l h2
    by_cases e : x = a
    · subst e
      rw [List.filter_cons, if_pos (by simp), ih, if_neg h1, if_pos (by simp)]
    · rw [List.filter_cons, if_neg (by simpa using e), ih]
      by_cases hm : a ∈ l
      · rw [if_pos hm, if_pos (by simp [hm])]
      · rw [if_neg hm, if_neg (by simp only [List.mem_cons, not_or]; exact ⟨fun h => e h.symm, hm⟩)]
/-- A window of the job. -/
def WinR (j : Jb) (lo hi : Int) : Prop := lo % j.slide = 0 ∧ 0 ≤ lo ∧ hi = Win.hiOf j.size lo
def has (key : ByteArray) (lo hi : Int) (e : Ev) : Bool := decide (e.key = key ∧ lo ≤ e.at_ ∧ e.at_ < hi)
def valsOf (l : List Ev) (key : ByteArray) (lo hi : Int) : List Int := (l.filter (has key lo hi)).map (·.val)
theorem valsOf_push (l : List Ev) (key : ByteArray) (lo hi : Int) (e : Ev) : valsOf (l ++ [e]) key lo hi = if has key lo hi e then valsOf l key lo hi ++ [e.val] else valsOf l key lo hi := by
  unfold valsOf
  rw [List.filter_append, List.map_append]
  by_cases h : has key lo hi e = true
  · rw [if_pos h]; simp [h]
  · rw [if_neg h]; simp [h]
theorem vals_cells {j : Jb} {e : Ev} {lo hi : Int} {key : ByteArray} (hg : Win.good j.size j.slide e.at_ = true) (hw : WinR j lo hi) :
    vals ⟨lo, hi, kb key⟩ (cells1 j e) = if has key lo hi e then [e.val] else [] := by
  obtain ⟨w1, w2, rfl⟩ := hw
  obtain ⟨_, g1, g2⟩ := Win.good_iff.1 hg
  unfold vals cells1
  rw [List.filter_map, List.map_map]
  by_cases hk : e.key = key
  · subst hk
    have e1 : ((fun v : Pl × Int => decide (v.1 = ⟨lo, Win.hiOf j.size lo, kb e.key⟩)) ∘ fun p : Int × Int => ((⟨p.1, p.2, kb e.key⟩ : Pl), e.val)) = fun p => decide (p = (lo, Win.hiOf j.size lo)) := by
      funext p
      obtain ⟨a, b⟩ := p
      simp
    rw [e1, filter_one _ _ (nodup_of _ _ _)]
    have e2 : (lo, Win.hiOf j.size lo) ∈ Win.of j.size j.slide e.at_ ↔ has e.key lo (Win.hiOf j.size lo) e = true := by
      rw [mem_of hg]
      unfold has
      rw [decide_eq_true_eq]
      have : e.at_ < Win.hiOf j.size lo ↔ e.at_ < lo + j.size := by unfold Win.hiOf; split <;> omega
      constructor
      · rintro ⟨_, _, h3, h4, _⟩; exact ⟨rfl, h3, this.2 h4⟩
      · rintro ⟨_, h3, h4⟩; exact ⟨w1, w2, h3, this.1 h4, rfl⟩
    by_cases hm : (lo, Win.hiOf j.size lo) ∈ Win.of j.size j.slide e.at_
    · rw [if_pos hm, if_pos (e2.1 hm)]; rfl
    · rw [if_neg hm, if_neg (fun h => hm (e2.2 h))]; rfl
  · have e1 : ((fun v : Pl × Int => decide (v.1 = ⟨lo, Win.hiOf j.size lo, kb key⟩)) ∘ fun p : Int × Int => ((⟨p.1, p.2, kb e.key⟩ : Pl), e.val)) = fun p => false := by
      funext p
      simp only [Function.comp, decide_eq_false_iff_not]
      intro h
      exact hk (kb_inj (congrArg Pl.key h))
    have e2 : has key lo (Win.hiOf j.size lo) e = false := by simp [has, hk]
    rw [e1, e2]
    simp
theorem vals_flat {j : Jb} {lo hi : Int} {key : ByteArray} (hr : Jo.right j = true) (hw : WinR j lo hi) : ∀ (l : List Ev), (∀ e ∈ l, evIs e = true) → vals ⟨lo, hi, kb key⟩ (flat j l) = valsOf l key lo hi := by
  refine Pan.list_snoc (by simp [flat, valsOf, vals]) fun l e ih h => ?_
  rw [flat_append, Pan.vals_append, ih fun x hx => h x (by simp [hx]), flat_one, vals_cells (good_of hr (h e (by simp))) hw, valsOf_push]
  split <;> simp
/-- The reference's way: a pane is put in whole, where its key's window comes first. -/
def refStep (k : Int) (V : Pl → List Int) (l : List Pn) (c : Pl × Int) : List Pn := if (get l c.1).isSome then l else ins k ⟨c.1, Acm.all k (V c.1)⟩ l
def rows (k : Int) (V : Pl → List Int) (cs : List (Pl × Int)) : List Pn := cs.foldl (refStep k V) []
theorem rows_push (k : Int) (V : Pl → List Int) (cs : List (Pl × Int)) (c : Pl × Int) : rows k V (cs ++ [c]) = refStep k V (rows k V cs) c := by simp [rows, List.foldl_append]
theorem rows_ord (k : Int) (V : Pl → List Int) : ∀ cs, Pan.Ord (rows k V cs) := by
  refine Pan.list_snoc List.Pairwise.nil fun l c ih => ?_
  rw [rows_push]
  unfold refStep
  split
  · exact ih
  · exact Pan.ins_ord ih
theorem rows_len (k : Int) (V : Pl → List Int) : ∀ cs, (rows k V cs).length ≤ cs.length := by
  refine Pan.list_snoc (by simp [rows]) fun l c ih => ?_
  rw [rows_push, List.length_append]
  unfold refStep
  split
  · omega
  · have := (Pan.len_ins k ⟨c.1, Acm.all k (V c.1)⟩ (rows k V l)).2
    simp only [List.length_singleton]
    omega
theorem rows_get (k : Int) (V : Pl → List Int) (q : Pl) : ∀ cs, get (rows k V cs) q = if q ∈ cs.map (·.1) then some (Acm.all k (V q)) else none := by
  refine Pan.list_snoc (by simp [rows, Pan.get]) fun l c ih => ?_
  rw [rows_push, List.map_append]
  unfold refStep
  by_cases hs : (get (rows k V l) c.1).isSome = true
  · rw [if_pos hs, ih]
    by_cases hq : q ∈ l.map (·.1)
    · rw [if_pos hq, if_pos (List.mem_append_left _ hq)]
    · rw [if_neg hq, if_neg]
      intro h
      rcases List.mem_append.1 h with h | h
      · exact hq h
      · simp only [List.map_cons, List.map_nil, List.mem_singleton] at h
        subst h
        rw [ih, if_neg hq] at hs
        cases hs
  · rw [if_neg hs, Pan.get_ins (rows_ord k V l)]
    by_cases hq : c.1 = q
    · subst hq
      have h0 : get (rows k V l) c.1 = none := by cases h : get (rows k V l) c.1 with | none => rfl | some v => rw [h] at hs; exact absurd rfl hs
      rw [if_pos rfl, h0, if_pos (by simp)]
      rfl
    · rw [if_neg hq, ih]
      by_cases hm : q ∈ l.map (·.1)
      · rw [if_pos hm, if_pos (List.mem_append_left _ hm)]
      · rw [if_neg hm, if_neg]
        intro h
        rcases List.mem_append.1 h with h | h
        · exact hm h
        · simp only [List.map_cons, List.map_nil, List.mem_singleton] at h
          exact hq h.symm
theorem vals_none {q : Pl} (cs : List (Pl × Int)) : vals q cs = [] ↔ ¬ q ∈ cs.map (·.1) := by
  unfold vals
  rw [List.map_eq_nil_iff, List.filter_eq_nil_iff]
  constructor
  · intro h hq
    obtain ⟨c, hc, he⟩ := List.mem_map.1 hq
    exact h c hc (by simpa using he)
  · intro h c hc he
    exact h (List.mem_map.2 ⟨c, hc, by simpa using he⟩)
theorem rows_eq {k : Int} (h : 1 ≤ k ∧ k ≤ 5) (cs : List (Pl × Int)) : rows k (fun q => vals q cs) cs = adds k cs := by
  refine Pan.same_rows _ _ (rows_ord k _ cs) (Pan.adds_ord k cs) fun q => ?_
  rw [rows_get, Pan.get_adds h]
  by_cases hq : q ∈ cs.map (·.1)
  · rw [if_pos hq, if_neg (fun e => (vals_none cs).1 e hq)]
  · rw [if_neg hq, if_pos ((vals_none cs).2 hq)]
theorem hitK_none {k : Int} {x : Pn} {l : List Pn} (h : get l x.p = none) : Pan.hitK k x l = false := by
  unfold Pan.hitK
  rw [List.any_eq_false]
  intro a ha
  have hne : ¬ a.p = x.p := by
    intro e
    induction l with
    | nil => cases ha
    | cons b r ih =>
      rw [Pan.get] at h
      split at h
      · cases h
      · rename_i hb
        rcases List.mem_cons.1 ha with rfl | ha
        · exact hb e
        · exact ih h ha
  simp [hne]
theorem wOut_none {k : Int} {x : Pn} {l : List Pn} (h : get l x.p = none) (hl : l.length < 2000) : Pan.wOut k x l = (ins k x l, 0) := by
  unfold Pan.wOut
  have := (Pan.len_ins k x l).2
  rw [hitK_none h, decide_eq_false (by omega)]
  rfl
theorem get_any (l : List Pn) (q : Pl) : (get l q).isSome = l.any fun a => decide (a.p = q) := by
  induction l with
  | nil => rfl
  | cons a r ih =>
    rw [Pan.get, List.any_cons]
    by_cases h : a.p = q
    · rw [if_pos h, decide_eq_true h]; rfl
    · rw [if_neg h, decide_eq_false h, ih]; rfl
/-- Rows of up to 2000 values are panes that may be. -/
theorem cells_plOk {j : Jb} {e : Ev} (hr : Jo.right j = true) (he : evIs e = true) : ∀ c ∈ cells1 j e, Pan.plOk c.1 = true := by
  intro c hc
  obtain ⟨p, hp, rfl⟩ := List.mem_map.1 hc
  obtain ⟨h1, h2, h3, h4, h5⟩ := (mem_of (good_of hr he) p).1 hp
  obtain ⟨hk, ha, hb⟩ := is_iff.1 he
  have h6 := Win.hi_bd h4 hb
  unfold Pan.plOk
  refine decide_eq_true ?_
  simp only [kb_len]
  rw [← h5] at h6
  refine ⟨hk.1, hk.2, h2, by omega, h6.2.1⟩
theorem flat_plOk {j : Jb} (hr : Jo.right j = true) {l : List Ev} (h : ∀ e ∈ l, evIs e = true) : ∀ c ∈ flat j l, Pan.plOk c.1 = true := by
  intro c hc
  obtain ⟨e, he, hce⟩ := List.mem_flatMap.1 hc
  exact cells_plOk hr (h e he) c hce
theorem adds_right {k : Int} (h : 1 ≤ k ∧ k ≤ 5) {vs : List (Pl × Int)} (hv : ∀ v ∈ vs, Pan.plOk v.1 = true) (hl : vs.length ≤ 2000) : Pan.right (adds k vs) = true := by
  have hmem : ∀ vs : List (Pl × Int), (∀ v ∈ vs, Pan.plOk v.1 = true) → ∀ a ∈ adds k vs, Pan.plOk a.p = true := by
    refine Pan.list_snoc (by simp [adds]) fun l v ih hv a ha => ?_
    rw [Pan.adds_push] at ha
    rcases Pan.mem_ins ha with e | e
    · rw [e]; exact hv v (by simp)
    · exact ih (fun v hv' => hv v (by simp [hv'])) a e
  exact (Pan.right_iff _).2 ⟨by have := Pan.len_adds k vs; omega, fun a ha => (Pan.may_ok a).2 ⟨hmem vs hv a ha, (Pan.adds_n h (by omega) a ha).1⟩, Pan.adds_ord k vs⟩
/-- What must come out. -/
def panes (j : Jb) (l : List Ev) : List Pn := adds j.fold (flat j l)
def res (j : Jb) (l : List Ev) : List Rs := (panes j l).map (resOf j.fold)
theorem panes_right {j : Jb} (hr : Jo.right j = true) {l : List Ev} (h : ∀ e ∈ l, evIs e = true) (hl : l.length ≤ 120) : Pan.right (panes j l) = true :=
  adds_right (fold_ok hr) (flat_plOk hr h) (by have := flat_len j l; omega)
theorem res_eq {j : Jb} (hr : Jo.right j = true) {l : List Ev} (h : ∀ e ∈ l, evIs e = true) (hl : l.length ≤ 120) : resO j.fold (panes j l) = res j l := by
  unfold Pan.resO
  rw [panes_right hr h hl, Pan.isK_true (fold_ok hr)]
  rfl
theorem panes_ns {j : Jb} (hr : Jo.right j = true) {l : List Ev} (hl : l.length ≤ 120) : Pan.Ns 1000000 (panes j l) := Pan.adds_n (fold_ok hr) (by have := flat_len j l; omega)
theorem panes_len (j : Jb) (l : List Ev) : (panes j l).length ≤ 16 * l.length := Nat.le_trans (Pan.len_adds _ _) (flat_len j l)
/-- One event more. -/
theorem panes_push {j : Jb} (hr : Jo.right j = true) {l : List Ev} {e : Ev} (h : ∀ x ∈ l ++ [e], evIs x = true) (hl : l.length < 120) : Pan.mOut j.fold (panes j l) (panes j [e]) = (panes j (l ++ [e]), 0) := by
  have h1 : ∀ x ∈ l, evIs x = true := fun x hx => h x (by simp [hx])
  have h2 : ∀ x ∈ [e], evIs x = true := fun x hx => h x (by simp at hx; simp [hx])
  have n1 := panes_len j l
  have n2 := panes_len j [e]
  simp only [List.length_singleton] at n2
  rw [Pan.mOut_few (fold_ok hr) (panes_right hr h1 (by omega)) (panes_right hr h2 (by simp)) (panes_ns hr (by omega)) (panes_ns hr (by simp)) (by omega)]
  unfold panes
  rw [Pan.mrg_adds (fold_ok hr) _ _ (by have := flat_len j l; omega) (by have := flat_len j [e]; simp at this; omega), flat_append]
/-- One window more, of an event's. -/
theorem cells_push {j : Jb} (hr : Jo.right j = true) {e : Ev} (he : evIs e = true) {i : Nat} {p : Int × Int} (hp : (Win.of j.size j.slide e.at_)[i]? = some p) :
    Pan.aOut j.fold (adds j.fold ((cells1 j e).take i)) ⟨p.1, p.2, kb e.key⟩ e.val = (adds j.fold ((cells1 j e).take (i + 1)), 0) := by
  have hl := cells1_len j e
  have hc : (cells1 j e)[i]? = some (⟨p.1, p.2, kb e.key⟩, e.val) := by unfold cells1; rw [List.getElem?_map, hp]; rfl
  have hok := cells_plOk hr he
  have hlt : ((cells1 j e).take i).length ≤ 16 := by rw [List.length_take]; omega
  have hla := Pan.len_adds j.fold ((cells1 j e).take i)
  rw [Pan.aOut_few (fold_ok hr) (adds_right (fold_ok hr) (fun v hv => hok v (List.mem_of_mem_take hv)) (by omega)) (Pan.adds_n (fold_ok hr) (by omega)) (by omega) (hok _ (List.mem_of_getElem? hc)), List.take_add_one, hc]
  rw [show (some ((⟨p.1, p.2, kb e.key⟩ : Pl), e.val)).toList = [((⟨p.1, p.2, kb e.key⟩ : Pl), e.val)] from rfl, Pan.adds_push]
end Mo
end Go.Proofs.Ytipmphkmeiogoaa
