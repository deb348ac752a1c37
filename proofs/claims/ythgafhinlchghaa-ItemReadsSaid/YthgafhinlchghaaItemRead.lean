/- What the reader reads, as plain data; its methods' contracts. -/
import Derived.Test.YthgafhinlchghaaItemField
namespace Go.Proofs.Ythgafhinlchghaa
open Go.RowKit
open Itm Vlq
set_option linter.unusedVariables false
/-- What is read of a number, a signed one, a text: nothing behind an error. -/
def numS (s : ByteArray) (p : Nat × Nat) : Nat × Nat × Nat := if p.2 = 0 then rd M1 (sl s) p.1 else (0, p.1, p.2)
def sgnS (s : ByteArray) (p : Nat × Nat) : Nat × Nat × Nat := if p.2 = 0 then rd M2 (sl s) p.1 else (0, p.1, p.2)
def txtS (s : ByteArray) (p : Nat × Nat) : List UInt8 × Nat × Nat := if p.2 = 0 then rt (sl s) p.1 else ([], p.1, p.2)
abbrev numV (R : Nat × Nat × Nat) : Value := .int .i64 (R.1 : Int)
abbrev sgnV (R : Nat × Nat × Nat) : Value := .int .i64 (un R.1)
abbrev txtV (R : List UInt8 × Nat × Nat) : Value := .string ⟨R.1.toArray⟩
theorem itNumber (g : Nat) (s : ByteArray) (hs : s.size ≤ 9223372036854775807) (i c : Nat) (hi : i ≤ s.size) (w : World) (h : RdAt 50 g s i c w) :
    Calls Try.prog 38 #[.pointer (some ⟨g, 0, none⟩)] w (Took 50 g s (numV (numS s (i, c))) (numS s (i, c)).2.1 (numS s (i, c)).2.2 w) := by
  refine itMeth_number g s _ _ _ w ?_
  by_cases hc : c = 0
  · subst hc
    exact itField_number g s i _ _ _ (fun w => (vlqGet_ok s i w hs hi).mono fun e w' h => ⟨h.1, h.2 ▸ Below.refl _ _⟩) w h
  · have e : numS s (i, c) = (0, i, c) := if_neg hc
    rw [e]
    exact itFieldE_number g s i c (by omega) w h
theorem itSigned (g : Nat) (s : ByteArray) (hs : s.size ≤ 9223372036854775807) (i c : Nat) (hi : i ≤ s.size) (w : World) (h : RdAt 50 g s i c w) :
    Calls Try.prog 41 #[.pointer (some ⟨g, 0, none⟩)] w (Took 50 g s (sgnV (sgnS s (i, c))) (sgnS s (i, c)).2.1 (sgnS s (i, c)).2.2 w) := by
  refine itMeth_signed g s _ _ _ w ?_
  by_cases hc : c = 0
  · subst hc
    exact itField_signed g s i _ _ _ (fun w => (vlqGetSigned_ok s i w hs hi).mono fun e w' h => ⟨h.1, h.2 ▸ Below.refl _ _⟩) w h
  · have e : sgnS s (i, c) = (0, i, c) := if_neg hc
    rw [e]
    show Calls _ _ _ _ (Took _ g s (.int .i64 (un 0)) i c w)
    rw [show un 0 = 0 from by simp [un]]
    exact itFieldE_signed g s i c (by omega) w h
theorem itTextR (g : Nat) (s : ByteArray) (hs : s.size ≤ 9223372036854775807) (i c : Nat) (hi : i ≤ s.size) (w : World) (h : RdAt 50 g s i c w) :
    Calls Try.prog 40 #[.pointer (some ⟨g, 0, none⟩)] w (Took 50 g s (txtV (txtS s (i, c))) (txtS s (i, c)).2.1 (txtS s (i, c)).2.2 w) := by
  refine itMeth_text g s _ _ _ w ?_
  by_cases hc : c = 0
  · subst hc
    exact itField_text g s i _ _ _ (fun w => vlqGetText_ok s i w hs hi) w h
  · have e : txtS s (i, c) = ([], i, c) := if_neg hc
    rw [e]
    exact itFieldE_text g s i c (by omega) w h
theorem numS_to (s : ByteArray) (p : Nat × Nat) (h : p.1 ≤ s.size) : (numS s p).2.1 ≤ s.size := by
  unfold numS
  split
  · have := rd_to M1 (by decide) (sl s) p.1; rwa [sl_len] at this
  · exact h
theorem sgnS_to (s : ByteArray) (p : Nat × Nat) (h : p.1 ≤ s.size) : (sgnS s p).2.1 ≤ s.size := by
  unfold sgnS
  split
  · have := rd_to M2 (by decide) (sl s) p.1; rwa [sl_len] at this
  · exact h
theorem txtS_to (s : ByteArray) (p : Nat × Nat) (h : p.1 ≤ s.size) : (txtS s p).2.1 ≤ s.size := by
  unfold txtS
  split
  · rcases rt_ways s p.1 _ rfl with ⟨_, e⟩ | ⟨_, _, ⟨_, e⟩ | ⟨_, ⟨_, e⟩ | ⟨hb, _, e⟩⟩⟩
    · rw [e]; exact Nat.zero_le _
    · rw [e]; exact Nat.zero_le _
    · rw [e]; exact Nat.zero_le _
    · rw [e]; exact hb
  · exact h
/-- What bytes are read as, before it is asked whether it may be. -/
def getP (s : ByteArray) : It × Nat × Nat :=
  let K := numS s (0, 0)
  if K.1 = 1 then
    let A := txtS s K.2
    let B := numS s A.2
    let C := sgnS s B.2
    ({ bare 1 with ek := ⟨A.1.toArray⟩, ea := B.1, ev := un C.1 }, C.2)
  else if K.1 = 2 then
    let A := numS s K.2
    ({ bare 2 with m := A.1 }, A.2)
  else if K.1 = 3 then (bare 3, K.2)
  else if K.1 = 4 then
    let A := numS s K.2
    ({ bare 4 with n := A.1 }, A.2)
  else if K.1 = 5 then
    let A := txtS s K.2
    let B := numS s A.2
    let C := numS s B.2
    let D := numS s C.2
    let E := sgnS s D.2
    ({ bare 5 with rk := ⟨A.1.toArray⟩, lo := B.1, hi := C.1, rn := D.1, rv := un E.1 }, E.2)
  else (bare K.1, K.2.1, if K.2.2 = 0 then 40 else K.2.2)
/-- What bytes are read as, and the error. -/
def getE (s : ByteArray) : It × Nat :=
  let P := getP s
  if P.2.2 ≠ 0 then (bare 0, P.2.2) else if P.2.1 < s.size then (bare 0, 21) else if right P.1 = true then (P.1, 0) else (bare 0, 1)
end Go.Proofs.Ythgafhinlchghaa
