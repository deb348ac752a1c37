/- What committing and aborting keep: the mathematics of SinkAgain, SinkSteps, SinkOnce. -/
import Derived.Test.YtmkbdlailffjeaaSinkM
namespace Go.Proofs.Ytmkbdlailffjeaa
open Go.ChangeShapes Go.WideShapes Go.ChangeAt Go.RowKit
set_option linter.unusedVariables false
namespace Sk
theorem all_nil (r : Nat) : allO [] r = some r := by simp [allO]
theorem all_app {l k : List Re} {r m m' : Nat} (h1 : allO l r = some m) (h2 : allO k m = some m') : allO (l ++ k) r = some m' := by
  unfold allO at h1 h2 ⊢
  split at h1
  · rename_i g1
    cases h1
    split at h2
    · rename_i g2
      cases h2
      rw [if_pos ⟨by rw [List.length_append]; omega, by rw [List.all_append, g1.2, g2.2]; rfl⟩, List.length_append]
      congr 1
      omega
    · cases h2
  · cases h1
theorem all_more {l : List Re} {r r' m : Nat} (h : allO l r = some m) (hr : r ≤ r') : ∃ m', allO l r' = some m' ∧ m ≤ m' := by
  unfold allO at h ⊢
  split at h
  · rename_i g
    cases h
    exact ⟨r' - l.length, if_pos ⟨by omega, g.2⟩, by omega⟩
  · cases h
theorem st_cons {last : Int} {r m : Nat} {x : Pg} {l : List Pg} (h : stO last r (x :: l) = some m) : ∃ q, allO x.2 r = some q ∧ last < x.1 ∧ x.1 ≤ 1073741824 ∧ stO x.1 q l = some m := by
  cases e : allO x.2 r with
  | none => rw [stO_bad e] at h; cases h
  | some q =>
    rw [stO_next e] at h
    split at h
    · cases h
    · exact ⟨q, rfl, by omega, by omega, h⟩
theorem st_ge : ∀ {l : List Pg} {last : Int} {r m : Nat}, stO last r l = some m → ∀ x ∈ l, last < x.1 ∧ x.1 ≤ 1073741824
  | [], _, _, _, _, x, hx => by cases hx
  | y :: l, last, r, m, h, x, hx => by
    obtain ⟨q, h1, h2, h3, h4⟩ := st_cons h
    rcases List.mem_cons.1 hx with rfl | hx
    · exact ⟨h2, h3⟩
    · have := st_ge h4 x hx
      omega
theorem keep_all {n : Int} : ∀ {l : List Pg}, (∀ x ∈ l, n < x.1) → keepO n l = l ∧ goesO n l = []
  | [], _ => ⟨rfl, rfl⟩
  | y :: l, h => by
    have h1 := h y (List.mem_cons_self ..)
    obtain ⟨h2, h3⟩ := keep_all (l := l) fun x hx => h x (List.mem_cons_of_mem _ hx)
    unfold keepO at h2 ⊢
    unfold goesO at h3 ⊢
    exact ⟨by rw [List.filter_cons, if_pos (by simpa using h1), h2], by rw [List.flatMap_cons, if_pos h1, h3]; rfl⟩
theorem keep_no {n : Int} {x : Pg} {l : List Pg} (h : x.1 ≤ n) : keepO n (x :: l) = keepO n l ∧ goesO n (x :: l) = x.2 ++ goesO n l := by
  unfold keepO goesO
  exact ⟨by rw [List.filter_cons, if_neg (by simp; omega)], by rw [List.flatMap_cons, if_neg (by omega)]⟩
theorem keep_st {n : Int} : ∀ {l : List Pg} {last : Int} {r m : Nat}, stO last r l = some m → last ≤ n → ∃ q, allO (goesO n l) r = some q ∧ stO n q (keepO n l) = some m
  | [], last, r, m, h, _ => ⟨r, all_nil r, h⟩
  | x :: l, last, r, m, h, hn => by
    obtain ⟨q, h1, h2, h3, h4⟩ := st_cons h
    by_cases hx : x.1 ≤ n
    · obtain ⟨e1, e2⟩ := keep_no (l := l) hx
      obtain ⟨q', h5, h6⟩ := keep_st h4 hx
      exact ⟨q', by rw [e2]; exact all_app h1 h5, by rw [e1]; exact h6⟩
    · obtain ⟨e1, e2⟩ := keep_all (n := n) (l := x :: l) (by
        intro y hy
        rcases List.mem_cons.1 hy with rfl | hy
        · omega
        · have := st_ge h4 y hy; omega)
      refine ⟨r, by rw [e2]; exact all_nil r, ?_⟩
      rw [e1, stO_next h1, if_neg (by omega)]
      exact h4
theorem right_parts {s : Si} (h : rightS s = true) : ∃ a b m, allO s.op 20000 = some a ∧ allO s.out a = some b ∧ 0 ≤ s.last ∧ s.last ≤ 1073741824 ∧ s.st.length ≤ 8 ∧ stO s.last b s.st = some m := by
  unfold rightS at h
  cases e : roomS s with
  | none => rw [e] at h; cases h
  | some m =>
    clear h
    unfold roomS headO at e
    cases e1 : allO s.op 20000 with
    | none => rw [e1] at e; cases e
    | some a =>
      rw [e1] at e
      simp only at e
      cases e2 : allO s.out a with
      | none => rw [e2] at e; cases e
      | some b =>
        rw [e2] at e
        simp only at e
        split at e
        · cases e
        · rename_i b' e3
          split at e3
          · cases e3
          · rename_i h3
            cases e3
            exact ⟨a, b, m, rfl, e2, by omega, by omega, by omega, e⟩
theorem right_of {s : Si} {a b m : Nat} (h1 : allO s.op 20000 = some a) (h2 : allO s.out a = some b) (h3 : 0 ≤ s.last) (h4 : s.last ≤ 1073741824) (h5 : s.st.length ≤ 8) (h6 : stO s.last b s.st = some m) : rightS s = true := by
  unfold rightS roomS headO
  rw [h1]
  simp only
  rw [h2]
  simp only
  rw [if_neg (by omega)]
  simp only
  rw [h6]
  rfl
theorem there_le {n : Int} {l : List Pg} (h : thereO n l = true) : ∃ x ∈ l, x.1 = n := by
  unfold thereO at h
  rw [List.any_eq_true] at h
  obtain ⟨x, hx, h1⟩ := h
  exact ⟨x, hx, of_decide_eq_true h1⟩
theorem there_of {n : Int} {l : List Pg} {x : Pg} (hx : x ∈ l) (h : x.1 = n) : thereO n l = true := by
  unfold thereO
  rw [List.any_eq_true]
  exact ⟨x, hx, decide_eq_true h⟩
/-- A commit that is not refused. -/
theorem commit_ok {s : Si} {n : Int} (h : (commitO s n).2 = 0) : rightS s = true ∧ rightS (commitO s n).1 = true ∧ n ≤ (commitO s n).1.last ∧ s.last ≤ (commitO s n).1.last ∧ ∃ k, (commitO s n).1.out = s.out ++ k := by
  unfold commitO at h ⊢
  by_cases h1 : rightS s = false
  · rw [if_pos h1] at h; cases h
  rw [if_neg h1] at h ⊢
  have h1 : rightS s = true := by simpa using h1
  by_cases h2 : n ≤ s.last
  · rw [if_pos h2]
    exact ⟨h1, h1, h2, Int.le_refl _, [], by simp⟩
  rw [if_neg h2] at h ⊢
  by_cases h3 : thereO n s.st = false
  · rw [if_pos h3] at h; cases h
  rw [if_neg h3]
  obtain ⟨a, b, m, k1, k2, k3, k4, k5, k6⟩ := right_parts h1
  obtain ⟨x, hx, hxn⟩ := there_le (by simpa using h3)
  have hx := st_ge k6 x hx
  obtain ⟨q, g1, g2⟩ := keep_st (n := n) k6 (by omega)
  refine ⟨h1, right_of (a := a) (b := q) (m := m) k1 (all_app k2 g1) (by simp only; omega) (by simp only; omega) ?_ g2, Int.le_refl _, by simp only; omega, _, rfl⟩
  exact Nat.le_trans (List.length_filter_le _ _) k5
theorem commit_no {s : Si} {n : Int} (h : (commitO s n).2 ≠ 0) : (commitO s n).1 = zS := by
  unfold commitO at h ⊢
  split
  · rfl
  · rename_i h1
    rw [if_neg h1] at h
    split
    · rename_i h2; rw [if_pos h2] at h; exact absurd rfl h
    · rename_i h2
      rw [if_neg h2] at h
      split
      · rfl
      · rename_i h3; rw [if_neg h3] at h; exact absurd rfl h
theorem commit_old {s : Si} {n : Int} (h : rightS s = true) (hn : n ≤ s.last) : commitO s n = (s, 0) := by
  unfold commitO
  rw [if_neg (by rw [h]; exact Bool.noConfusion), if_pos hn]
theorem commit_new {s : Si} {n : Int} (h : rightS s = true) (hn : s.last < n) (ht : thereO n s.st = true) : commitO s n = (⟨s.op, keepO n s.st, n, s.out ++ goesO n s.st⟩, 0) := by
  unfold commitO
  rw [if_neg (by rw [h]; exact Bool.noConfusion), if_neg (by omega), if_neg (by rw [ht]; exact Bool.noConfusion)]
theorem abort_eq {s : Si} (h : rightS s = true) : abortO s = (⟨[], [], s.last, s.out⟩, 0) := by
  unfold abortO
  rw [if_neg (by rw [h]; exact Bool.noConfusion)]
theorem abort_right {s : Si} (h : rightS s = true) : rightS ⟨[], [], s.last, s.out⟩ = true := by
  obtain ⟨a, b, m, k1, k2, k3, k4, k5, k6⟩ := right_parts h
  obtain ⟨m', g1, g2⟩ := all_more k2 (all_le k1).1
  exact right_of (a := 20000) (b := m') (m := m') (all_nil _) g1 k3 k4 (Nat.zero_le _) rfl
/-- Where a stage stands, committing it takes it and all ahead of it. -/
theorem cut_st : ∀ {l : List Pg} {last : Int} {r m i : Nat} {x : Pg}, stO last r l = some m → l[i]? = some x → keepO x.1 l = l.drop (i + 1) ∧ goesO x.1 l = (l.take (i + 1)).flatMap (fun y => y.2) ∧ last < x.1
  | [], _, _, _, _, _, _, hx => by cases hx
  | y :: t, last, r, m, 0, x, h, hx => by
    simp only [List.getElem?_cons_zero, Option.some.injEq] at hx
    subst hx
    obtain ⟨q, h1, h2, h3, h4⟩ := st_cons h
    obtain ⟨e1, e2⟩ := keep_no (n := y.1) (x := y) (l := t) (Int.le_refl _)
    obtain ⟨e3, e4⟩ := keep_all (n := y.1) (l := t) fun z hz => (st_ge h4 z hz).1
    exact ⟨by rw [e1, e3]; rfl, by rw [e2, e4]; simp, h2⟩
  | y :: t, last, r, m, i + 1, x, h, hx => by
    rw [List.getElem?_cons_succ] at hx
    obtain ⟨q, h1, h2, h3, h4⟩ := st_cons h
    obtain ⟨e3, e4, e5⟩ := cut_st h4 hx
    obtain ⟨e1, e2⟩ := keep_no (n := x.1) (x := y) (l := t) (by omega)
    exact ⟨by rw [e1, e3]; rfl, by rw [e2, e4]; simp, by omega⟩
/-- The sink when the first i stages have been committed. -/
def stp (s : Si) : Nat → Si
  | 0 => s
  | i + 1 => ⟨s.op, s.st.drop (i + 1), (match s.st[i]? with | none => s.last | some x => x.1), s.out ++ (s.st.take (i + 1)).flatMap (fun y => y.2)⟩
theorem stp_st (s : Si) (i : Nat) : (stp s i).st = s.st.drop i := by cases i <;> rfl
theorem stp_op (s : Si) (i : Nat) : (stp s i).op = s.op := by cases i <;> rfl
theorem stp_out (s : Si) (i : Nat) : (stp s i).out = s.out ++ (s.st.take i).flatMap (fun y => y.2) := by cases i <;> simp [stp]
theorem stp_succ {s : Si} {i : Nat} {x : Pg} (hx : s.st[i]? = some x) : stp s (i + 1) = ⟨s.op, s.st.drop (i + 1), x.1, s.out ++ (s.st.take (i + 1)).flatMap (fun y => y.2)⟩ := by
  show (⟨s.op, s.st.drop (i + 1), (match s.st[i]? with | none => s.last | some x => x.1), s.out ++ (s.st.take (i + 1)).flatMap (fun y => y.2)⟩ : Si) = _
  rw [hx]
theorem stp_last {s : Si} {i : Nat} {x : Pg} (hx : s.st[i]? = some x) : (stp s (i + 1)).last = x.1 := by rw [stp_succ hx]
theorem stp_all {s : Si} {i : Nat} {x : Pg} (h : rightS s = true) (hx : s.st[i]? = some x) : commitO s x.1 = (stp s (i + 1), 0) := by
  obtain ⟨a, b, m, k1, k2, k3, k4, k5, k6⟩ := right_parts h
  obtain ⟨e1, e2, e3⟩ := cut_st k6 hx
  rw [commit_new h e3 (there_of (List.mem_of_getElem? hx) rfl), e1, e2, stp_succ hx]
theorem stp_right {s : Si} (h : rightS s = true) : ∀ {i : Nat}, i ≤ s.st.length → rightS (stp s i) = true
  | 0, _ => h
  | i + 1, hi => by
    obtain ⟨x, hx⟩ : ∃ x, s.st[i]? = some x := ⟨_, List.getElem?_eq_getElem (by omega)⟩
    have h1 := stp_all h hx
    have h2 := (commit_ok (s := s) (n := x.1) (by rw [h1])).2.1
    rw [h1] at h2
    exact h2
theorem stp_step {s : Si} {i : Nat} {x : Pg} (h : rightS s = true) (hx : s.st[i]? = some x) : commitO (stp s i) x.1 = (stp s (i + 1), 0) ∧ (stp s (i + 1)).out.length = (stp s i).out.length + x.2.length := by
  have hi : i < s.st.length := (List.getElem?_eq_some_iff.1 hx).1
  have hr := stp_right h (Nat.le_of_lt hi)
  have h0 : (stp s i).st[0]? = some x := by rw [stp_st, List.getElem?_drop]; exact hx
  have ht : s.st.take (i + 1) = s.st.take i ++ [x] := by rw [List.take_add_one, hx]; rfl
  have ho : (stp s (i + 1)).out = (stp s i).out ++ x.2 := by rw [stp_out, stp_out, ht, List.flatMap_append]; simp
  have a6 : ((stp s i).st.take (0 + 1)).flatMap (fun y => y.2) = x.2 := by
    rw [List.take_add_one, h0]; simp
  refine ⟨?_, by rw [ho, List.length_append]⟩
  rw [stp_all hr h0, stp_succ h0, a6, ← ho, stp_out, stp_succ hx, stp_st, stp_op, List.drop_drop]
end Sk
end Go.Proofs.Ytmkbdlailffjeaa
