/- PaneVals, PaneIns, put together. -/
import Derived.Test.YtipmphkmeiogoaaZ11
/- Values put into keys' windows, one behind the other: what comes of them. -/
namespace Go.Proofs.Ytipmphkmeiogoaa
open Go.RowKit
set_option linter.unusedVariables false
set_option maxRecDepth 8000
namespace Pan
/-- What Add answers. -/
def aOut (k : Int) (xs : List Pn) (p : Pl) (v : Int) : List Pn × Int := mOut k xs [⟨p, Acm.one k v⟩]
def step (k : Int) (o : Option (List Pn)) (v : Pl × Int) : Option (List Pn) := o.bind fun l => if (aOut k l v.1 v.2).2 = 0 then some (aOut k l v.1 v.2).1 else none
/-- What comes of values, or nothing. -/
def allO (k : Int) (vs : List (Pl × Int)) : Option (List Pn) := vs.foldl (step k) (some [])
theorem allO_next {k : Int} {vs : List (Pl × Int)} {j : Nat} {v : Pl × Int} (h : vs[j]? = some v) : allO k (vs.take (j + 1)) = step k (allO k (vs.take j)) v := by
  unfold allO
  rw [List.take_add_one, h, List.foldl_append]
  rfl
theorem foldl_none (k : Int) : ∀ vs : List (Pl × Int), vs.foldl (step k) none = none
  | [] => rfl
  | v :: vs => foldl_none k vs
theorem allO_none {k : Int} {vs : List (Pl × Int)} {j : Nat} (h : allO k (vs.take j) = none) : allO k vs = none := by
  have e : vs = vs.take j ++ vs.drop j := (List.take_append_drop j vs).symm
  unfold allO at h ⊢
  rw [e, List.foldl_append, h, foldl_none]
def plOk (p : Pl) : Bool := decide (1 ≤ p.key.length ∧ p.key.length ≤ 16 ∧ 0 ≤ p.lo ∧ p.lo < p.hi ∧ p.hi ≤ 1099511627776)
theorem may_ok (x : Pn) : may x = true ↔ plOk x.p = true ∧ 1 ≤ x.acc.n := by
  unfold may plOk
  rw [decide_eq_true_eq, decide_eq_true_eq]
  constructor
  · intro ⟨a, b, c, d, e, f⟩; exact ⟨⟨a, b, c, d, e⟩, f⟩
  · intro ⟨⟨a, b, c, d, e⟩, f⟩; exact ⟨a, b, c, d, e, f⟩
theorem right_one (x : Pn) : right [x] = may x := by simp [right, chain]
/-- All Ns from 1 up to m. -/
def Ns (m : Int) (l : List Pn) : Prop := ∀ a ∈ l, 1 ≤ a.acc.n ∧ a.acc.n ≤ m
theorem join_n {k : Int} (h : 1 ≤ k ∧ k ≤ 5) {x y : Acm.Ac} (hx : 1 ≤ x.n) (hy : 1 ≤ y.n) (hs : x.n + y.n ≤ 9223372036854775807) : (Acm.join k x y).n = x.n + y.n := by
  rw [Acm.join_b h (by omega) (by omega)]
  show Acm.wr (x.n + y.n) = _
  rw [Acm.wr_in (by omega) hs]
theorem hitK_few {k : Int} (h : 1 ≤ k ∧ k ≤ 5) {m : Int} {x : Pn} {l : List Pn} (hl : Ns m l) (hx : 1 ≤ x.acc.n) (hs : m + x.acc.n ≤ 9223372036854775807) : hitK k x l = false := by
  unfold hitK
  rw [List.any_eq_false]
  intro a ha
  have h1 := hl a ha
  rw [join_n h h1.1 hx (by omega), decide_eq_false (show ¬ a.acc.n + x.acc.n < 1 by omega), Bool.and_false]
  simp
theorem ins_ns {k : Int} (h : 1 ≤ k ∧ k ≤ 5) {m : Int} {x : Pn} (hx : 1 ≤ x.acc.n) (hm : 0 ≤ m) : ∀ {l : List Pn}, Ns m l → m + x.acc.n ≤ 9223372036854775807 → Ns (m + x.acc.n) (ins k x l)
  | [], _, _ => fun a ha => by
    have e : a = x := by simpa [ins] using ha
    subst e
    omega
  | b :: l, hl, hs => by
    have hb := hl b (by simp)
    have hr : Ns m l := fun a ha => hl a (by simp [ha])
    rw [ins]
    split
    · intro a ha
      rcases List.mem_cons.1 ha with rfl | ha
      · show 1 ≤ (Acm.join k b.acc x.acc).n ∧ (Acm.join k b.acc x.acc).n ≤ _
        rw [join_n h hb.1 hx (by omega)]
        omega
      · have := hr a ha; omega
    · split
      · intro a ha
        rcases List.mem_cons.1 ha with rfl | ha
        · omega
        · have := hl a ha; omega
      · intro a ha
        rcases List.mem_cons.1 ha with rfl | ha
        · omega
        · exact ins_ns h hx hm hr hs a ha
theorem bad_few {k : Int} (h : 1 ≤ k ∧ k ≤ 5) {n : Int} (hn : 0 ≤ n) : ∀ (b a : List Pn) (m : Int), 0 ≤ m → Ns m a → Ns n b → m + b.length * n ≤ 9223372036854775807 → bad k a b = false
  | [], _, _, _, _, _, _ => rfl
  | x :: b, a, m, hm, ha, hb, hs => by
    have hx := hb x (by simp)
    rw [List.length_cons] at hs
    have e : ((b.length + 1 : Nat) : Int) * n = b.length * n + n := by rw [Int.natCast_add, Int.add_mul]; simp
    rw [e] at hs
    have h0 : 0 ≤ (b.length : Int) * n := Int.mul_nonneg (by omega) hn
    have ih := bad_few h hn b (ins k x a) (m + x.acc.n) (by omega) (ins_ns h hx.1 hm ha (by omega)) (fun c hc => hb c (by simp [hc])) (by omega)
    rw [bad, ih, hitK_few h ha hx.1 (by omega)]
    rfl
theorem ins_may {k : Int} {x : Pn} {l : List Pn} {m : Int} (h : 1 ≤ k ∧ k ≤ 5) (hx : plOk x.p = true) (hn : Ns m (ins k x l)) (hl : ∀ a ∈ l, plOk a.p = true) : ∀ a ∈ ins k x l, may a = true := by
  intro a ha
  refine (may_ok a).2 ⟨?_, (hn a ha).1⟩
  rcases mem_ins ha with e | e
  · rw [e]; exact hx
  · exact hl a e
theorem adds_ok {k : Int} (h : 1 ≤ k ∧ k ≤ 5) {vs : List (Pl × Int)} (hv : ∀ v ∈ vs, plOk v.1 = true) (hl : vs.length ≤ 1000) : right (adds k vs) = true := by
  have hmem : ∀ vs : List (Pl × Int), (∀ v ∈ vs, plOk v.1 = true) → ∀ a ∈ adds k vs, plOk a.p = true := by
    refine list_snoc (by simp [adds]) fun l v ih hv a ha => ?_
    rw [adds_push] at ha
    rcases mem_ins ha with e | e
    · rw [e]; exact hv v (by simp)
    · exact ih (fun v hv' => hv v (by simp [hv'])) a e
  refine (right_iff _).2 ⟨by have := len_adds k vs; omega, fun a ha => (may_ok a).2 ⟨hmem vs hv a ha, (adds_n h (by omega) a ha).1⟩, adds_ord k vs⟩
theorem isK_true {k : Int} (h : 1 ≤ k ∧ k ≤ 5) : Acm.isK k = true := decide_eq_true h
theorem isK_false {k : Int} (h : ¬ (1 ≤ k ∧ k ≤ 5)) : Acm.isK k = false := decide_eq_false h
/-- Two rows whose Ns are few. -/
theorem mOut_few {k : Int} (h : 1 ≤ k ∧ k ≤ 5) {a b : List Pn} (ha : right a = true) (hb : right b = true) (hn : Ns 1000000 a) (hm : Ns 1000000 b) (hl : a.length + b.length ≤ 2000) : mOut k a b = (mrg k a b, 0) := by
  unfold mOut
  rw [ha, hb, isK_true h, bad_few h (by omega) b a 1000000 (by omega) hn hm (by omega), decide_eq_false (by have := (mrg_len k b a).2; omega)]
  rfl
theorem one_ns {k : Int} (h : 1 ≤ k ∧ k ≤ 5) (p : Pl) (v : Int) : Ns 1000000 [⟨p, Acm.one k v⟩] := by
  intro a ha
  have e : a = ⟨p, Acm.one k v⟩ := by simpa using ha
  subst e
  show 1 ≤ (Acm.one k v).n ∧ (Acm.one k v).n ≤ _
  rw [Acm.one_n h]
  omega
theorem aOut_few {k : Int} (h : 1 ≤ k ∧ k ≤ 5) {a : List Pn} (ha : right a = true) (hn : Ns 1000000 a) (hl : a.length ≤ 1999) {p : Pl} (hp : plOk p = true) (v : Int) : aOut k a p v = (ins k ⟨p, Acm.one k v⟩ a, 0) := by
  unfold aOut
  rw [mOut_few h ha (by rw [right_one, may_ok]; exact ⟨hp, by show 1 ≤ (Acm.one k v).n; rw [Acm.one_n h]; omega⟩) hn (one_ns h p v) (by simp; omega)]
  rfl
theorem aOut_not {k : Int} {a : List Pn} {p : Pl} {v : Int} (h : (right a && Acm.isK k && plOk p) = false) : (aOut k a p v).2 = 1 := by
  unfold aOut mOut
  rw [right_one]
  have : (right a && may ⟨p, Acm.one k v⟩ && Acm.isK k) = false := by
    cases h1 : right a
    · rfl
    · cases h2 : Acm.isK k
      · rw [Bool.and_false]
      · rw [h1, h2] at h
        have h3 : plOk p = false := h
        have h4 : may ⟨p, Acm.one k v⟩ = false := by
          cases h5 : may ⟨p, Acm.one k v⟩
          · rfl
          · have := ((may_ok _).1 h5).1
            rw [h3] at this; cases this
        rw [h4]; rfl
  rw [this]
  rfl
/-- A fold that is there. -/
theorem allO_kind {k : Int} (h : 1 ≤ k ∧ k ≤ 5) : ∀ (vs : List (Pl × Int)), vs.length ≤ 1000 → allO k vs = if vs.all (fun v => plOk v.1) then some (adds k vs) else none := by
  refine list_snoc (by simp [allO, adds]) fun l v ih hl => ?_
  rw [List.length_append, List.length_singleton] at hl
  have ih := ih (by omega)
  have e : allO k (l ++ [v]) = step k (allO k l) v := by unfold allO; rw [List.foldl_append]; rfl
  rw [e, ih, List.all_append]
  by_cases h1 : l.all (fun v => plOk v.1) = true
  · have hm : ∀ v ∈ l, plOk v.1 = true := fun v hv => List.all_eq_true.1 h1 v hv
    rw [if_pos h1, h1, Bool.true_and]
    show (if (aOut k (adds k l) v.1 v.2).2 = 0 then some (aOut k (adds k l) v.1 v.2).1 else none) = _
    by_cases h2 : plOk v.1 = true
    · rw [aOut_few h (adds_ok h hm (by omega)) (adds_n h (by omega)) (by have := len_adds k l; omega) h2, adds_push]
      simp [h2]
    · have h2' : plOk v.1 = false := by simpa using h2
      rw [if_neg (by rw [aOut_not (by rw [h2', Bool.and_false])]; omega)]
      simp [h2']
  · rw [if_neg h1, if_neg (by rw [Bool.and_eq_true]; exact fun h => h1 h.1)]
    rfl
/-- One that is not. -/
theorem allO_not {k : Int} (h : ¬ (1 ≤ k ∧ k ≤ 5)) (vs : List (Pl × Int)) : allO k vs = if vs = [] then some [] else none := by
  cases vs with
  | nil => rfl
  | cons v vs =>
    rw [if_neg (by simp)]
    have : step k (some []) v = none := by
      show (if (aOut k [] v.1 v.2).2 = 0 then some (aOut k [] v.1 v.2).1 else none) = none
      rw [if_neg (by rw [aOut_not (by rw [isK_false h, Bool.and_false, Bool.false_and])]; omega)]
    unfold allO
    rw [List.foldl_cons, this, foldl_none]
theorem all_perm {l m : List (Pl × Int)} (hp : l.Perm m) : l.all (fun v => plOk v.1) = m.all (fun v => plOk v.1) := by
  cases h : m.all (fun v => plOk v.1)
  · rw [List.all_eq_false] at h ⊢
    obtain ⟨v, hv, hn⟩ := h
    exact ⟨v, hp.mem_iff.2 hv, hn⟩
  · rw [List.all_eq_true] at h ⊢
    exact fun v hv => h v (hp.mem_iff.1 hv)
/-- THE STAGE'S THEOREM, of what is told. -/
theorem allO_perm {k : Int} {l m : List (Pl × Int)} (hp : l.Perm m) (hl : l.length ≤ 1000) : allO k l = allO k m := by
  by_cases h : 1 ≤ k ∧ k ≤ 5
  · rw [allO_kind h l hl, allO_kind h m (by rw [← hp.length_eq]; exact hl), all_perm hp, adds_perm h hp (by omega)]
  · rw [allO_not h, allO_not h]
    by_cases e : l = []
    · subst e; rw [if_pos rfl, if_pos hp.nil_eq.symm]
    · rw [if_neg e, if_neg (fun e2 => e (by subst e2; exact hp.eq_nil))]
theorem allO_right {k : Int} {l : List (Pl × Int)} {xs : List Pn} (hl : l.length ≤ 1000) (h : allO k l = some xs) : right xs = true := by
  by_cases hk : 1 ≤ k ∧ k ≤ 5
  · rw [allO_kind hk l hl] at h
    split at h
    · rename_i h1
      cases h
      exact adds_ok hk (fun v hv => List.all_eq_true.1 h1 v hv) hl
    · cases h
  · rw [allO_not hk] at h
    split at h
    · cases h; rfl
    · cases h
end Pan
end Go.Proofs.Ytipmphkmeiogoaa
/- One more pane, as the reference puts it in: step by step. -/
namespace Go.Proofs.Ytipmphkmeiogoaa
open Go.RowKit
set_option linter.unusedVariables false
set_option maxRecDepth 8000
namespace Pan
/-- What With answers. -/
def wOut (k : Int) (x : Pn) (l : List Pn) : List Pn × Int := if hitK k x l || decide (2000 < (ins k x l).length) then ([], 3) else (ins k x l, 0)
theorem ins_at_same {k : Int} {x a : Pn} {pre : List Pn} (h : ∀ m ∈ pre, ahead m.p x.p = true) (he : a.p = x.p) : ins k x (pre ++ [a]) = pre ++ [⟨a.p, Acm.join k a.acc x.acc⟩] := by
  rw [ins_pre h, ins, if_pos he]
theorem ins_at_ahead {k : Int} {x a : Pn} {pre : List Pn} (h : ∀ m ∈ pre, ahead m.p x.p = true) (he : a.p ≠ x.p) (ha : ahead x.p a.p = true) : ins k x (pre ++ [a]) = pre ++ [x, a] := by
  rw [ins_pre h, ins, if_neg he, if_pos ha]
theorem ins_at_end {k : Int} {x : Pn} {pre : List Pn} (h : ∀ m ∈ pre, ahead m.p x.p = true) : ins k x pre = pre ++ [x] := by
  have := ins_pre (k := k) (l := []) h
  rwa [List.append_nil] at this
theorem ins_done {k : Int} {x b : Pn} : ∀ {pre : List Pn}, (∃ a ∈ pre, ahead a.p x.p = false) → ins k x (pre ++ [b]) = ins k x pre ++ [b]
  | [], ⟨_, h, _⟩ => by cases h
  | a :: pre, ⟨c, hc, hn⟩ => by
    rw [List.cons_append, ins, ins]
    by_cases e : a.p = x.p
    · rw [if_pos e, if_pos e]; rfl
    · rw [if_neg e, if_neg e]
      by_cases h : ahead x.p a.p = true
      · rw [if_pos h, if_pos h]; rfl
      · rw [if_neg h, if_neg h]
        have hca : c ∈ pre := by
          rcases List.mem_cons.1 hc with rfl | hc
          · exfalso
            rcases ahead_total c.p x.p with h3 | h3 | h3
            · rw [hn] at h3; cases h3
            · exact e h3
            · exact h h3
          · exact hc
        rw [ins_done ⟨c, hca, hn⟩]
        rfl
theorem hitK_snoc (k : Int) (x b : Pn) (l : List Pn) : hitK k x (l ++ [b]) = (hitK k x l || (decide (b.p = x.p) && decide ((Acm.join k b.acc x.acc).n < 1))) := by
  unfold hitK
  rw [List.any_append]
  simp
theorem hitK_take {k : Int} {x b : Pn} {l : List Pn} {j : Nat} (hb : l[j]? = some b) (hp : b.p = x.p) (hn : (Acm.join k b.acc x.acc).n < 1) : hitK k x l = true := by
  unfold hitK
  rw [List.any_eq_true]
  exact ⟨b, List.mem_of_getElem? hb, by rw [decide_eq_true hp, decide_eq_true hn]; rfl⟩
/-- Where the reference stands behind j panes. -/
structure WAt (k : Int) (x : Pn) (l : List Pn) (j : Nat) (put : Bool) (out : List Pn) : Prop where
  hj : j ≤ l.length
  out_ : out = if put then ins k x (l.take j) else l.take j
  no : put = false → ∀ m ∈ l.take j, ahead m.p x.p = true
  yes : put = true → ∃ a ∈ l.take j, ahead a.p x.p = false
  nh : hitK k x (l.take j) = false
theorem WAt.start (k : Int) (x : Pn) (l : List Pn) : WAt k x l 0 false [] := ⟨Nat.zero_le _, by simp, (fun _ m hm => by simp at hm), (fun h => by cases h), by simp [hitK]⟩
section
variable {k : Int} {x y : Pn} {l : List Pn} {j : Nat} {put : Bool} {out : List Pn}
theorem WAt.len (h : WAt k x l j put out) : out.length ≤ l.length + 1 := by
  rw [h.out_]
  split
  · have := (len_ins k x (l.take j)).2; rw [List.length_take] at this; omega
  · rw [List.length_take]; omega
/-- Once it is put in there is no like any more. -/
theorem WAt.ne (h : WAt k x l j true out) (ho : Ord l) (hy : l[j]? = some y) : y.p ≠ x.p := by
  obtain ⟨a, ha, hn⟩ := h.yes rfl
  intro e
  obtain ⟨i, hi, rfl⟩ := List.getElem_of_mem ha
  rw [List.length_take] at hi
  rw [List.getElem_take] at hn
  have h1 : ahead (l[i]'(by omega)).p y.p = true := ord_get ho (List.getElem?_eq_getElem (by omega)) hy (by omega)
  rw [e, hn] at h1
  cases h1
theorem WAt.full (hy : l[j]? = some y) (he : y.p = x.p) (hn : (Acm.join k y.acc x.acc).n < 1) : wOut k x l = ([], 3) := by
  unfold wOut; rw [hitK_take hy he hn]; rfl
theorem WAt.same (h : WAt k x l j false out) (hy : l[j]? = some y) (he : y.p = x.p) (hn : ¬ (Acm.join k y.acc x.acc).n < 1) : WAt k x l (j + 1) true (out ++ [⟨y.p, Acm.join k y.acc x.acc⟩]) := by
  have hl := (List.getElem?_eq_some_iff.1 hy).1
  have ho : out = l.take j := h.out_
  refine ⟨by omega, ?_, (fun e => by cases e), fun _ => ⟨y, by rw [take_snoc hy]; simp, by rw [he]; exact ahead_irrefl _⟩, ?_⟩
  · rw [if_pos rfl, take_snoc hy, ins_at_same (h.no rfl) he, ho]
  · rw [take_snoc hy, hitK_snoc, h.nh, decide_eq_false hn, Bool.and_false]; rfl
theorem WAt.done_ (h : WAt k x l j true out) (ho : Ord l) (hy : l[j]? = some y) : WAt k x l (j + 1) true (out ++ [y]) := by
  have hl := (List.getElem?_eq_some_iff.1 hy).1
  have ho2 : out = ins k x (l.take j) := h.out_
  refine ⟨by omega, ?_, (fun e => by cases e), fun _ => ?_, ?_⟩
  · rw [if_pos rfl, take_snoc hy, ins_done (h.yes rfl), ho2]
  · obtain ⟨a, ha, hn⟩ := h.yes rfl
    exact ⟨a, by rw [take_snoc hy]; simp [ha], hn⟩
  · rw [take_snoc hy, hitK_snoc, h.nh, decide_eq_false (h.ne ho hy)]; rfl
theorem WAt.ahead_ (h : WAt k x l j false out) (hy : l[j]? = some y) (he : y.p ≠ x.p) (ha : ahead x.p y.p = true) : WAt k x l (j + 1) true (out ++ [x] ++ [y]) := by
  have hl := (List.getElem?_eq_some_iff.1 hy).1
  have ho : out = l.take j := h.out_
  refine ⟨by omega, ?_, (fun e => by cases e), fun _ => ⟨y, by rw [take_snoc hy]; simp, ahead_asymm ha⟩, ?_⟩
  · rw [if_pos rfl, take_snoc hy, ins_at_ahead (h.no rfl) he ha, ho]; simp
  · rw [take_snoc hy, hitK_snoc, h.nh, decide_eq_false he]; rfl
theorem WAt.behind (h : WAt k x l j false out) (hy : l[j]? = some y) (he : y.p ≠ x.p) (ha : ahead x.p y.p = false) : WAt k x l (j + 1) false (out ++ [y]) := by
  have hl := (List.getElem?_eq_some_iff.1 hy).1
  have ho : out = l.take j := h.out_
  refine ⟨by omega, by rw [if_neg (by simp), take_snoc hy, ho], fun _ m hm => ?_, (fun e => by cases e), ?_⟩
  · rw [take_snoc hy] at hm
    rcases List.mem_append.1 hm with hm | hm
    · exact h.no rfl m hm
    · have e : m = y := by simpa using hm
      subst e
      rcases ahead_total m.p x.p with h3 | h3 | h3
      · exact h3
      · exact absurd h3 he
      · rw [ha] at h3; cases h3
  · rw [take_snoc hy, hitK_snoc, h.nh, decide_eq_false he]; rfl
theorem WAt.end_ (h : WAt k x l l.length true out) : out = ins k x l ∧ hitK k x l = false := ⟨by rw [h.out_, if_pos rfl, List.take_length], by have := h.nh; rwa [List.take_length] at this⟩
theorem WAt.end_no (h : WAt k x l l.length false out) : out ++ [x] = ins k x l ∧ hitK k x l = false := by
  have h1 := h.no rfl
  rw [List.take_length] at h1
  refine ⟨by rw [h.out_, if_neg (by simp), List.take_length, ins_at_end h1], by have := h.nh; rwa [List.take_length] at this⟩
end
end Pan
end Go.Proofs.Ytipmphkmeiogoaa
