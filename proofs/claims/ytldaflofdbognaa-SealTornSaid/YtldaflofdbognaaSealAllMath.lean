/- The plain mathematics of all frames in a row of bytes. -/
import Derived.Test.YtldaflofdbognaaSealForm
namespace Go.Proofs.Ytldaflofdbognaa
open Vlq
set_option linter.unusedVariables false
namespace Seal
/-- All bodies from place i on, behind those of bs. -/
def allF (l : List UInt8) (bs : List (List UInt8)) (i : Nat) : List (List UInt8) × Nat × Nat :=
  if h : i < l.length ∧ (getF l i).2.2 = 0 then allF l (bs ++ [(getF l i).1]) (getF l i).2.1
  else if i < l.length then (bs, i, (getF l i).2.2) else (bs, i, 0)
termination_by l.length - i
decreasing_by have := getF_next h.2; omega
theorem allF_step {l : List UInt8} {bs : List (List UInt8)} {i : Nat} (h : i < l.length) (h2 : (getF l i).2.2 = 0) : allF l bs i = allF l (bs ++ [(getF l i).1]) (getF l i).2.1 := by
  rw [allF, dif_pos ⟨h, h2⟩]
theorem allF_stop {l : List UInt8} {bs : List (List UInt8)} {i : Nat} (h : i < l.length) (h2 : (getF l i).2.2 ≠ 0) : allF l bs i = (bs, i, (getF l i).2.2) := by
  rw [allF, dif_neg (fun h3 => h2 h3.2), if_pos h]
theorem allF_end {l : List UInt8} {bs : List (List UInt8)} {i : Nat} (h : l.length ≤ i) : allF l bs i = (bs, i, 0) := by
  rw [allF, dif_neg (by omega), if_neg (by omega)]
def frames (bs : List (List UInt8)) : List UInt8 := (bs.map frame).flatten
theorem frames_snoc (bs : List (List UInt8)) (b : List UInt8) : frames (bs ++ [b]) = frames bs ++ frame b := by simp [frames]
theorem frames_cons (bs : List (List UInt8)) (b : List UInt8) : frames (b :: bs) = frame b ++ frames bs := by simp [frames]
/-- What is read, put again. -/
theorem allF_once (l : List UInt8) : ∀ (n : Nat) (bs : List (List UInt8)) (i : Nat), l.length - i = n → i ≤ l.length → l.take i = frames bs → (∀ b ∈ bs, b.length ≤ 8192) →
    (allF l bs i).2.1 ≤ l.length ∧ l.take (allF l bs i).2.1 = frames (allF l bs i).1 ∧ (∀ b ∈ (allF l bs i).1, b.length ≤ 8192) ∧ ((allF l bs i).2.2 = 0 ↔ (allF l bs i).2.1 = l.length) := by
  intro n
  induction n using Nat.strongRecOn with
  | _ n ih =>
    intro bs i hn hi ht hb
    by_cases h : i < l.length
    · by_cases h2 : (getF l i).2.2 = 0
      · obtain ⟨g1, g2, g3, g4⟩ := getF_next h2
        rw [allF_step h h2]
        refine ih (l.length - (getF l i).2.1) (by omega) _ _ rfl g2 ?_ ?_
        · rw [frames_snoc, ← ht, ← g4, ← List.take_add, show i + ((getF l i).2.1 - i) = (getF l i).2.1 by omega]
        · intro b hm
          rcases List.mem_append.1 hm with hm | hm
          · exact hb b hm
          · rw [List.mem_singleton.1 hm]; exact g3
      · rw [allF_stop h h2]
        refine ⟨hi, ht, hb, ?_⟩
        constructor
        · intro h3; exact absurd h3 h2
        · intro h3; dsimp only at h3; omega
    · rw [allF_end (by omega)]
      refine ⟨hi, ht, hb, ?_⟩
      constructor
      · intro _; dsimp only; omega
      · intro _; rfl
/-- Frames, one behind the other, are read as their bodies. -/
theorem allF_back : ∀ (cs bs : List (List UInt8)), (∀ b ∈ cs, b.length ≤ 8192) → allF (frames bs ++ frames cs) bs (frames bs).length = (bs ++ cs, (frames bs ++ frames cs).length, 0)
  | [], bs, _ => by
    rw [allF_end (by simp [frames])]
    simp [frames]
  | b :: cs, bs, h => by
    have hb : b.length ≤ 8192 := h b (by simp)
    have hg := getF_frame (frames bs) b (frames cs) hb
    have hl := (frame_bd b hb).1
    rw [frames_cons, allF_step (by rw [List.length_append, List.length_append]; omega) (by rw [hg]), hg]
    dsimp only
    have ih := allF_back cs (bs ++ [b]) (fun x hx => h x (by simp [hx]))
    rw [frames_snoc, List.length_append, List.append_assoc] at ih
    rw [ih]
    simp
theorem allF_frames (cs : List (List UInt8)) (h : ∀ b ∈ cs, b.length ≤ 8192) : allF (frames cs) [] 0 = (cs, (frames cs).length, 0) := by
  have := allF_back cs [] h
  simpa [frames] using this
end Seal
end Go.Proofs.Ytldaflofdbognaa
