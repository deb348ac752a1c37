/- What may be, by counting: what adding and staging keep (SinkOnce). -/
import Derived.Test.YtmkbdlailffjeaaSinkN
namespace Go.Proofs.Ytmkbdlailffjeaa
open Go.ChangeShapes Go.WideShapes Go.ChangeAt Go.RowKit
set_option linter.unusedVariables false
namespace Sk
def Srt : Int → List Pg → Prop
  | _, [] => True
  | last, x :: l => last < x.1 ∧ x.1 ≤ 1073741824 ∧ Srt x.1 l
def cnt (l : List Pg) : Nat := (l.map (fun x => x.2.length)).sum
theorem cnt_cons (x : Pg) (l : List Pg) : cnt (x :: l) = x.2.length + cnt l := by simp [cnt]
theorem cnt_app (l k : List Pg) : cnt (l ++ k) = cnt l + cnt k := by simp [cnt]
theorem all_iff (l : List Re) (r m : Nat) : allO l r = some m ↔ l.length ≤ r ∧ l.all okR = true ∧ m + l.length = r := by
  unfold allO
  split
  · rename_i h
    constructor
    · intro e; cases e; exact ⟨h.1, h.2, by omega⟩
    · intro ⟨_, _, e⟩; congr 1; omega
  · rename_i h
    constructor
    · intro e; cases e
    · intro ⟨h1, h2, _⟩; exact absurd ⟨h1, h2⟩ h
theorem st_iff : ∀ (l : List Pg) (last : Int) (r m : Nat), stO last r l = some m ↔ Srt last l ∧ (∀ x ∈ l, x.2.all okR = true) ∧ m + cnt l = r
  | [], last, r, m => by
    show some r = some m ↔ _
    simp [Srt, cnt]
    exact eq_comm
  | x :: l, last, r, m => by
    constructor
    · intro h
      obtain ⟨q, h1, h2, h3, h4⟩ := st_cons h
      obtain ⟨g1, g2, g3⟩ := (st_iff l x.1 q m).1 h4
      obtain ⟨k1, k2, k3⟩ := (all_iff _ _ _).1 h1
      refine ⟨⟨h2, h3, g1⟩, ?_, by rw [cnt_cons]; omega⟩
      intro y hy
      rcases List.mem_cons.1 hy with rfl | hy
      · exact k2
      · exact g2 y hy
    · rintro ⟨⟨h2, h3, g1⟩, g2, g3⟩
      rw [cnt_cons] at g3
      have h1 : allO x.2 r = some (r - x.2.length) := (all_iff _ _ _).2 ⟨by omega, g2 x (List.mem_cons_self ..), by omega⟩
      rw [stO_next h1, if_neg (by omega)]
      exact (st_iff l x.1 _ m).2 ⟨g1, fun y hy => g2 y (List.mem_cons_of_mem _ hy), by omega⟩
/-- What may be. -/
structure Ri (s : Si) : Prop where
  o : s.op.all okR = true
  u : s.out.all okR = true
  l0 : 0 ≤ s.last
  l1 : s.last ≤ 1073741824
  t : s.st.length ≤ 8
  r : Srt s.last s.st
  e : ∀ x ∈ s.st, x.2.all okR = true
  c : s.op.length + s.out.length + cnt s.st ≤ 20000
theorem Ri.right {s : Si} (h : Ri s) : rightS s = true := by
  have := h.c
  exact right_of (a := 20000 - s.op.length) (b := 20000 - s.op.length - s.out.length) (m := 20000 - s.op.length - s.out.length - cnt s.st)
    ((all_iff _ _ _).2 ⟨by omega, h.o, by omega⟩) ((all_iff _ _ _).2 ⟨by omega, h.u, by omega⟩) h.l0 h.l1 h.t ((st_iff _ _ _ _).2 ⟨h.r, h.e, by omega⟩)
theorem right_ri {s : Si} (h : rightS s = true) : Ri s := by
  obtain ⟨a, b, m, k1, k2, k3, k4, k5, k6⟩ := right_parts h
  obtain ⟨g1, g2, g3⟩ := (all_iff _ _ _).1 k1
  obtain ⟨g4, g5, g6⟩ := (all_iff _ _ _).1 k2
  obtain ⟨g7, g8, g9⟩ := (st_iff _ _ _ _).1 k6
  exact ⟨g2, g5, k3, k4, k5, g7, g8, by omega⟩
theorem room_eq {s : Si} {m : Nat} (h : roomS s = some m) : Ri s ∧ m + s.op.length + s.out.length + cnt s.st = 20000 := by
  have hr : rightS s = true := by unfold rightS; rw [h]; rfl
  refine ⟨right_ri hr, ?_⟩
  unfold roomS headO at h
  cases e1 : allO s.op 20000 with
  | none => rw [e1] at h; cases h
  | some a =>
    rw [e1] at h
    simp only at h
    cases e2 : allO s.out a with
    | none => rw [e2] at h; cases h
    | some b =>
      rw [e2] at h
      simp only at h
      obtain ⟨g1, g2, g3⟩ := (all_iff _ _ _).1 e1
      obtain ⟨g4, g5, g6⟩ := (all_iff _ _ _).1 e2
      split at h
      · cases h
      · rename_i b' e3
        split at e3
        · cases e3
        · cases e3
          obtain ⟨g7, g8, g9⟩ := (st_iff _ _ _ _).1 h
          omega
/-- An add that is not refused. -/
theorem add_ok {s : Si} {r : Re} (h : (addO s r).2 = 0) : addO s r = (⟨s.op ++ [r], s.st, s.last, s.out⟩, 0) ∧ rightS ⟨s.op ++ [r], s.st, s.last, s.out⟩ = true := by
  unfold addO at h ⊢
  cases e : roomS s with
  | none => rw [e] at h; cases h
  | some m =>
    rw [e] at h
    simp only at h ⊢
    split at h
    · cases h
    · rename_i h1
      rw [if_neg h1]
      split at h
      · cases h
      · rename_i h2
        rw [if_neg h2]
        obtain ⟨hr, hc⟩ := room_eq e
        have h1 : okR r = true := by simpa using h1
        exact ⟨rfl, Ri.right ⟨by show (s.op ++ [r]).all okR = true; rw [List.all_append, hr.o]; simp [h1], hr.u, hr.l0, hr.l1, hr.t, hr.r, hr.e, by show (s.op ++ [r]).length + s.out.length + cnt s.st ≤ 20000; rw [List.length_append]; simp only [List.length_cons, List.length_nil]; omega⟩⟩
theorem srt_push : ∀ {l : List Pg} {last : Int} {y : Pg}, Srt last l → (match l.getLast? with | none => last | some x => x.1) < y.1 → y.1 ≤ 1073741824 → Srt last (l ++ [y])
  | [], last, y, _, h2, h3 => ⟨h2, h3, trivial⟩
  | x :: l, last, y, ⟨h1, h4, h5⟩, h2, h3 => by
    refine ⟨h1, h4, srt_push h5 ?_ h3⟩
    cases l with
    | nil => exact h2
    | cons z t => rw [List.getLast?_cons_cons] at h2; cases e : (z :: t).getLast? with
      | none => simp at e
      | some v => rw [e] at h2; exact h2
/-- A stage that is not refused. -/
theorem stage_ok {s : Si} {n : Int} (h : (stageO s n).2 = 0) : stageO s n = (⟨[], s.st ++ [(n, s.op)], s.last, s.out⟩, 0) ∧ rightS ⟨[], s.st ++ [(n, s.op)], s.last, s.out⟩ = true := by
  unfold stageO at h ⊢
  split at h
  · cases h
  · rename_i h1
    rw [if_neg h1]
    split at h
    · cases h
    · rename_i h2
      rw [if_neg h2]
      split at h
      · cases h
      · rename_i h3
        rw [if_neg h3]
        have hr : Ri s := right_ri (by cases e : rightS s with | true => rfl | false => exact absurd (Or.inl e) h1)
        have hn : ¬ 1073741824 < n := fun e => h1 (Or.inr e)
        have hc := hr.c
        have ht := hr.t
        refine ⟨rfl, Ri.right ⟨rfl, hr.u, hr.l0, hr.l1, ?_, srt_push hr.r (by unfold lastO at h2; exact Int.not_le.1 h2) (by show n ≤ _; omega), ?_, ?_⟩⟩
        · show (s.st ++ [(n, s.op)]).length ≤ 8
          rw [List.length_append]; simp only [List.length_cons, List.length_nil]; omega
        · intro x hx
          rcases List.mem_append.1 hx with hx | hx
          · exact hr.e x hx
          · cases List.mem_singleton.1 hx; exact hr.o
        · show 0 + s.out.length + cnt (s.st ++ [(n, s.op)]) ≤ 20000
          rw [cnt_app, cnt_cons]; simp only [cnt, List.map_nil, List.sum_nil] at hc ⊢; omega
end Sk
end Go.Proofs.Ytmkbdlailffjeaa
