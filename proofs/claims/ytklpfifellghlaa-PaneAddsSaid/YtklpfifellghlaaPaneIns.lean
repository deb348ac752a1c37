/- One more pane, as the reference puts it in: step by step. -/
import Derived.Test.YtklpfifellghlaaPaneMrg
namespace Go.Proofs.Ytklpfifellghlaa
open Go.RowKit
set_option linter.unusedVariables false
namespace Pan
/-- What With answers. -/
def wOut (k : Int) (x : Pn) (l : List Pn) : List Pn × Int := if hitK k x l || decide (2000 < (ins k x l).length) then ([], 3) else (ins k x l, 0)
theorem ins_at_same {k : Int} {x a : Pn} {pre : List Pn} (h : ∀ m ∈ pre, ahead m.p x.p = true) (he : a.p = x.p) : ins k x (pre ++ [a]) = pre ++ [⟨a.p, Acm.join k a.acc x.acc⟩] := by
  rw [ins_pre h, ins, if_pos he]
theorem ins_at_ahead {k : Int} {x a : Pn} {pre : List Pn} (h : ∀ m ∈ pre, ahead m.p x.p = true) (he : a.p ≠ x.p) (ha : ahead x.p a.p = true) : ins k x (pre ++ [a]) = pre ++ [x, a] := by
  rw [ins_pre h, ins, if_neg he, if_pos ha]
theorem ins_at_end {k : Int} {x : Pn} {pre : List Pn} (h : ∀ m ∈ pre, ahead m.p x.p = true) : ins k x pre = pre ++ [x] := by
  have := ins_pre (k := k) (l := []) h
  rwa [List.append_nil] at this
theorem ins_done {k : Int} {x b : Pn} : ∀ {pre : List Pn}, (∃ a ∈ pre, ahead a.p x.p = false) → ins k x (pre ++ [b]) = ins k x pre ++ [b]
  | [], ⟨_, h, _⟩ => by cases h
  | a :: pre, ⟨c, hc, hn⟩ => by
    rw [List.cons_append, ins, ins]
    by_cases e : a.p = x.p
    · rw [if_pos e, if_pos e]; rfl
    · rw [if_neg e, if_neg e]
      by_cases h : ahead x.p a.p = true
      · rw [if_pos h, if_pos h]; rfl
      · rw [if_neg h, if_neg h]
        have hca : c ∈ pre := by
          rcases List.mem_cons.1 hc with rfl | hc
          · exfalso
            rcases ahead_total c.p x.p with h3 | h3 | h3
            · rw [hn] at h3; cases h3
            · exact e h3
            · exact h h3
          · exact hc
        rw [ins_done ⟨c, hca, hn⟩]
        rfl
theorem hitK_snoc (k : Int) (x b : Pn) (l : List Pn) : hitK k x (l ++ [b]) = (hitK k x l || (decide (b.p = x.p) && decide ((Acm.join k b.acc x.acc).n < 1))) := by
  unfold hitK
  rw [List.any_append]
  simp
theorem hitK_take {k : Int} {x b : Pn} {l : List Pn} {j : Nat} (hb : l[j]? = some b) (hp : b.p = x.p) (hn : (Acm.join k b.acc x.acc).n < 1) : hitK k x l = true := by
  unfold hitK
  rw [List.any_eq_true]
  exact ⟨b, List.mem_of_getElem? hb, by rw [decide_eq_true hp, decide_eq_true hn]; rfl⟩
/-- Where the reference stands behind j panes. -/
structure WAt (k : Int) (x : Pn) (l : List Pn) (j : Nat) (put : Bool) (out : List Pn) : Prop where
  hj : j ≤ l.length
  out_ : out = if put then ins k x (l.take j) else l.take j
  no : put = false → ∀ m ∈ l.take j, ahead m.p x.p = true
  yes : put = true → ∃ a ∈ l.take j, ahead a.p x.p = false
  nh : hitK k x (l.take j) = false
theorem WAt.start (k : Int) (x : Pn) (l : List Pn) : WAt k x l 0 false [] := ⟨Nat.zero_le _, by simp, (fun _ m hm => by simp at hm), (fun h => by cases h), by simp [hitK]⟩
section
variable {k : Int} {x y : Pn} {l : List Pn} {j : Nat} {put : Bool} {out : List Pn}
theorem WAt.len (h : WAt k x l j put out) : out.length ≤ l.length + 1 := by
  rw [h.out_]
  split
  · have := (len_ins k x (l.take j)).2; rw [List.length_take] at this; omega
  · rw [List.length_take]; omega
/-- Once it is put in there is no like any more. -/
theorem WAt.ne (h : WAt k x l j true out) (ho : Ord l) (hy : l[j]? = some y) : y.p ≠ x.p := by
  obtain ⟨a, ha, hn⟩ := h.yes rfl
  intro e
  obtain ⟨i, hi, rfl⟩ := List.getElem_of_mem ha
  rw [List.length_take] at hi
  rw [List.getElem_take] at hn
  have h1 : ahead (l[i]'(by omega)).p y.p = true := ord_get ho (List.getElem?_eq_getElem (by omega)) hy (by omega)
  rw [e, hn] at h1
  cases h1
theorem WAt.full (hy : l[j]? = some y) (he : y.p = x.p) (hn : (Acm.join k y.acc x.acc).n < 1) : wOut k x l = ([], 3) := by
  unfold wOut; rw [hitK_take hy he hn]; rfl
theorem WAt.same (h : WAt k x l j false out) (hy : l[j]? = some y) (he : y.p = x.p) (hn : ¬ (Acm.join k y.acc x.acc).n < 1) : WAt k x l (j + 1) true (out ++ [⟨y.p, Acm.join k y.acc x.acc⟩]) := by
  have hl := (List.getElem?_eq_some_iff.1 hy).1
  have ho : out = l.take j := h.out_
  refine ⟨by omega, ?_, (fun e => by cases e), fun _ => ⟨y, by rw [take_snoc hy]; simp, by rw [he]; exact ahead_irrefl _⟩, ?_⟩
  · rw [if_pos rfl, take_snoc hy, ins_at_same (h.no rfl) he, ho]
  · rw [take_snoc hy, hitK_snoc, h.nh, decide_eq_false hn, Bool.and_false]; rfl
theorem WAt.done_ (h : WAt k x l j true out) (ho : Ord l) (hy : l[j]? = some y) : WAt k x l (j + 1) true (out ++ [y]) := by
  have hl := (List.getElem?_eq_some_iff.1 hy).1
  have ho2 : out = ins k x (l.take j) := h.out_
  refine ⟨by omega, ?_, (fun e => by cases e), fun _ => ?_, ?_⟩
  · rw [if_pos rfl, take_snoc hy, ins_done (h.yes rfl), ho2]
  · obtain ⟨a, ha, hn⟩ := h.yes rfl
    exact ⟨a, by rw [take_snoc hy]; simp [ha], hn⟩
  · rw [take_snoc hy, hitK_snoc, h.nh, decide_eq_false (h.ne ho hy)]; rfl
theorem WAt.ahead_ (h : WAt k x l j false out) (hy : l[j]? = some y) (he : y.p ≠ x.p) (ha : ahead x.p y.p = true) : WAt k x l (j + 1) true (out ++ [x] ++ [y]) := by
  have hl := (List.getElem?_eq_some_iff.1 hy).1
  have ho : out = l.take j := h.out_
  refine ⟨by omega, ?_, (fun e => by cases e), fun _ => ⟨y, by rw [take_snoc hy]; simp, ahead_asymm ha⟩, ?_⟩
  · rw [if_pos rfl, take_snoc hy, ins_at_ahead (h.no rfl) he ha, ho]; simp
  · rw [take_snoc hy, hitK_snoc, h.nh, decide_eq_false he]; rfl
theorem WAt.behind (h : WAt k x l j false out) (hy : l[j]? = some y) (he : y.p ≠ x.p) (ha : ahead x.p y.p = false) : WAt k x l (j + 1) false (out ++ [y]) := by
  have hl := (List.getElem?_eq_some_iff.1 hy).1
  have ho : out = l.take j := h.out_
  refine ⟨by omega, by rw [if_neg (by simp), take_snoc hy, ho], fun _ m hm => ?_, (fun e => by cases e), ?_⟩
  · rw [take_snoc hy] at hm
    rcases List.mem_append.1 hm with hm | hm
    · exact h.no rfl m hm
    · have e : m = y := by simpa using hm
      subst e
      rcases ahead_total m.p x.p with h3 | h3 | h3
      · exact h3
      · exact absurd h3 he
      · rw [ha] at h3; cases h3
  · rw [take_snoc hy, hitK_snoc, h.nh, decide_eq_false he]; rfl
theorem WAt.end_ (h : WAt k x l l.length true out) : out = ins k x l ∧ hitK k x l = false := ⟨by rw [h.out_, if_pos rfl, List.take_length], by have := h.nh; rwa [List.take_length] at this⟩
theorem WAt.end_no (h : WAt k x l l.length false out) : out ++ [x] = ins k x l ∧ hitK k x l = false := by
  have h1 := h.no rfl
  rw [List.take_length] at h1
  refine ⟨by rw [h.out_, if_neg (by simp), List.take_length, ins_at_end h1], by have := h.nh; rwa [List.take_length] at this⟩
end
end Pan
end Go.Proofs.Ytklpfifellghlaa
