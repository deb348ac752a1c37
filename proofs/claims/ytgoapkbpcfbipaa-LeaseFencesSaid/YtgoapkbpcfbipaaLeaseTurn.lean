/- What LeaseTurns asks, in values. -/
import Derived.Test.YtgoapkbpcfbipaaLawsLeaseD
namespace Go.Proofs.Ytgoapkbpcfbipaa
set_option linter.unusedVariables false
set_option maxRecDepth 8000
set_option linter.unusedSectionVars false
namespace Ls
open Tick (cl addT)
theorem hasT_mk {t : Tb} (h : Ok t) {j : Nat} (hj : j < t.ls.length) : hasT t (j : Int) = true := (has_iff _ _).2 ⟨h, by omega, by omega⟩
theorem grant_eq {t : Tb} (h : Ok t) {j : Nat} {x : Le} (hx : t.ls[j]? = some x) {w now ut : Int} (hw : 1 ≤ w ∧ w ≤ 99) (hf : inF x now = false) (hl : t.last ≠ 1073741824) :
    grantO t (j : Int) w now ut = (⟨t.ls.set j ⟨w, t.last + 1, ut⟩, t.last + 1⟩, t.last + 1, 0) := by
  have hj := (List.getElem?_eq_some_iff.1 hx).1
  have ha : at_ t (j : Int) = x := at_nat t.ls t.last hx
  unfold grantO
  rw [if_neg (by rw [hasT_mk h hj]; simp [hw]), ha, hf, if_neg (by simp), if_neg hl]
  unfold setT
  rw [Int.toNat_natCast]
theorem grant_fence {t : Tb} (h : Ok t) {j : Nat} {x : Le} (hx : t.ls[j]? = some x) {w now ut : Int} (hw : 1 ≤ w ∧ w ≤ 99) (hf : inF x now = true) : grantO t (j : Int) w now ut = (zT, 0, 160) := by
  have hj := (List.getElem?_eq_some_iff.1 hx).1
  have ha : at_ t (j : Int) = x := at_nat t.ls t.last hx
  unfold grantO
  rw [if_neg (by rw [hasT_mk h hj]; simp [hw]), ha, hf, if_pos rfl]
theorem fenced_eq {t : Tb} (h : Ok t) {j : Nat} {x : Le} (hx : t.ls[j]? = some x) {k : Int} (ho : x.own ≠ 0) (hk : x.tok = k) : fencedO t (j : Int) k = false := by
  have hj := (List.getElem?_eq_some_iff.1 hx).1
  have ha : at_ t (j : Int) = x := at_nat t.ls t.last hx
  unfold fencedO
  rw [if_neg (by rw [hasT_mk h hj]; simp), ha]
  exact decide_eq_false (fun e => e.elim ho (fun e => e hk))
theorem fenced_yes {t : Tb} {j : Nat} {x : Le} (hx : t.ls[j]? = some x) {k : Int} (h : x.own = 0 ∨ x.tok ≠ k) : fencedO t (j : Int) k = true := by
  have ha : at_ t (j : Int) = x := at_nat t.ls t.last hx
  unfold fencedO
  rw [ha]
  split
  · rfl
  · exact decide_eq_true h
theorem give_eq {t : Tb} (h : Ok t) {j : Nat} {x : Le} (hx : t.ls[j]? = some x) {k : Int} (ho : x.own ≠ 0) (hk : x.tok = k) : giveO t (j : Int) k = (⟨t.ls.set j ⟨0, k, 0⟩, t.last⟩, 0) := by
  have hj := (List.getElem?_eq_some_iff.1 hx).1
  unfold giveO
  rw [if_neg (by rw [hasT_mk h hj]; simp), fenced_eq h hx ho hk, if_neg (by simp)]
  unfold setT
  rw [Int.toNat_natCast]
theorem ok_setN {t : Tb} (h : Ok t) {j : Nat} (hj : j < t.ls.length) {x : Le} {last : Int} (hl : t.last ≤ last ∧ last ≤ 1073741824) (hx : okL last x = true)
    (hs : ∀ (i : Nat) (y : Le), i ≠ j → t.ls[i]? = some y → 0 < x.tok → y.tok ≠ x.tok) : Ok ⟨t.ls.set j x, last⟩ := by
  have := ok_set h (g := (j : Int)) ⟨by omega, by omega⟩ hl hx (by rw [Int.toNat_natCast]; exact hs)
  unfold setT at this
  rwa [Int.toNat_natCast] at this
theorem ok_zero {N : Nat} (h1 : 1 ≤ N) (h2 : N ≤ 32) : Ok ⟨List.replicate N ⟨0, 0, 0⟩, 0⟩ := by
  have hz : ∀ (i : Nat) (x : Le), (List.replicate N (⟨0, 0, 0⟩ : Le))[i]? = some x → x = ⟨0, 0, 0⟩ := fun i x hx => List.eq_of_mem_replicate (List.mem_of_getElem? hx)
  refine ⟨fun i x hx => ?_, fun i j x y hj hx hy h0 => ?_, ?_, ?_⟩
  · rw [hz i x hx]; rfl
  · rw [hz i x hx] at h0; exact absurd h0 (by decide)
  · show 1 ≤ (List.replicate N (⟨0, 0, 0⟩ : Le)).length ∧ _
    rw [List.length_replicate]
    exact ⟨h1, h2⟩
  · exact ⟨(by decide : (0 : Int) ≤ 0), (by decide : (0 : Int) ≤ 1073741824)⟩
/-- The tables. -/
def tu0 (N : Nat) : Tb := ⟨List.replicate N ⟨0, 0, 0⟩, 0⟩
def tu1 (N j : Nat) (a s : Int) : Tb := ⟨(List.replicate N ⟨0, 0, 0⟩).set j ⟨a, 1, s⟩, 1⟩
def tu2 (N j : Nat) (a s b u : Int) : Tb := ⟨((List.replicate N ⟨0, 0, 0⟩).set j ⟨a, 1, s⟩).set j ⟨b, 2, u⟩, 2⟩
def tu3 (N j : Nat) (a s : Int) : Tb := ⟨((List.replicate N ⟨0, 0, 0⟩).set j ⟨a, 1, s⟩).set j ⟨0, 1, 0⟩, 1⟩
def tu4 (N j : Nat) (a s b u : Int) : Tb := ⟨(((List.replicate N ⟨0, 0, 0⟩).set j ⟨a, 1, s⟩).set j ⟨0, 1, 0⟩).set j ⟨b, 2, u⟩, 2⟩
structure Tn (N j : Nat) (a b T L : Int) : Prop where
  n1 : 1 ≤ N
  n2 : N ≤ 32
  j : j < N
  a : 1 ≤ a ∧ a ≤ 99
  b : 1 ≤ b ∧ b ≤ 99
  t : 0 ≤ T ∧ T ≤ 1073741824
  l : 1 ≤ L ∧ L ≤ 1073741824
section
variable {N j : Nat} {a b T L : Int} (h : Tn N j a b T L)
include h
theorem Tn.get1 : (tu1 N j a (T + L)).ls[j]? = some ⟨a, 1, T + L⟩ := List.getElem?_set_self (by rw [List.length_replicate]; exact h.j)
theorem Tn.len1 : (tu1 N j a (T + L)).ls.length = N := by
  show ((List.replicate N (⟨0, 0, 0⟩ : Le)).set j _).length = N
  rw [List.length_set, List.length_replicate]
theorem Tn.get3 : (tu3 N j a (T + L)).ls[j]? = some ⟨0, 1, 0⟩ := List.getElem?_set_self (by have := h.len1; have := h.j; show j < (tu1 N j a (T + L)).ls.length; omega)
theorem Tn.new : newO (N : Int) = (tu0 N, 0) := by
  have := h.n1; have := h.n2
  unfold newO tu0
  rw [if_neg (by omega), Int.toNat_natCast]
theorem Tn.ok0 : Ok (tu0 N) := ok_zero h.n1 h.n2
theorem Tn.len0 : (tu0 N).ls.length = N := List.length_replicate
theorem Tn.get0 : (tu0 N).ls[j]? = some ⟨0, 0, 0⟩ := by
  show (List.replicate N (⟨0, 0, 0⟩ : Le))[j]? = _
  rw [List.getElem?_replicate, if_pos h.j]
theorem Tn.ok1 : Ok (tu1 N j a (T + L)) := by
  have h1 := h.a; have h2 := h.t; have h3 := h.l
  exact ok_setN h.ok0 (by rw [h.len0]; exact h.j) (x := ⟨a, 1, T + L⟩) (last := 1) ⟨(by decide : (0 : Int) ≤ 1), by decide⟩ ((okL_iff _ _).2 ⟨by simp only; omega, ⟨(by decide : (0 : Int) ≤ 1), (by decide : (1 : Int) ≤ 1)⟩, by simp only [fin]; omega, fun e => by simp only at e; omega, fun _ => (by decide : (1 : Int) ≠ 0)⟩)
    (fun i y hi hy _ => by
      have e : y = ⟨0, 0, 0⟩ := List.eq_of_mem_replicate (List.mem_of_getElem? hy)
      rw [e]; exact (by decide : (0 : Int) ≠ 1))
theorem Tn.grant1 : grantO (tu0 N) (j : Int) a (cl T) (addT T L) = (tu1 N j a (T + L), 1, 0) := by
  have h1 := h.a; have h2 := h.t; have h3 := h.l
  have e : addT T L = T + L := by
    unfold addT
    rw [Tick.cl_mid (t := T) (by omega) (by omega), Tick.cl_mid (t := L) (by omega) (by omega), Tick.cl_mid (by omega) (by omega)]
  rw [grant_eq h.ok0 h.get0 h.a rfl (by decide : (0 : Int) ≠ 1073741824), e]
  rfl
theorem Tn.fenced1 : fencedO (tu1 N j a (T + L)) (j : Int) 1 = false := fenced_eq h.ok1 h.get1 (by have := h.a; simp only; omega) rfl
theorem Tn.owners (t : Int) : ownersO (tu1 N j a (T + L)) t = (tu1 N j a (T + L)).ls.map (ownF t) := owners_yes ((ok_iff _).2 h.ok1)
theorem Tn.own_len (t : Int) : (ownersO (tu1 N j a (T + L)) t).length = N := by rw [h.owners, List.length_map, h.len1]
theorem Tn.before : (ownersO (tu1 N j a (T + L)) (cl (T + L - 1)))[j]? = some a := by
  have h1 := h.a; have h2 := h.t; have h3 := h.l
  rw [h.owners, List.getElem?_map, h.get1, Tick.cl_mid (by omega) (by omega)]
  show some (ownF _ _) = _
  unfold ownF inF
  rw [decide_eq_true (by simp only; omega), if_pos rfl]
theorem Tn.behind : (ownersO (tu1 N j a (T + L)) (cl (T + L)))[j]? = some 0 := by
  have h1 := h.a; have h2 := h.t; have h3 := h.l
  rw [h.owners, List.getElem?_map, h.get1, Tick.cl_mid (by omega) (by omega)]
  show some (ownF _ _) = _
  unfold ownF inF
  rw [decide_eq_false (by simp only; omega), if_neg (by simp)]
theorem Tn.grant2 : grantO (tu1 N j a (T + L)) (j : Int) b (cl (T + L - 1)) (addT (T + L - 1) L) = (zT, 0, 160) := by
  have h1 := h.a; have h2 := h.t; have h3 := h.l
  exact grant_fence h.ok1 h.get1 h.b (decide_eq_true (by rw [Tick.cl_mid (by omega) (by omega)]; simp only; omega))
theorem Tn.grant3 : grantO (tu1 N j a (T + L)) (j : Int) b (cl (T + L)) (addT (T + L) L) = (tu2 N j a (T + L) b (addT (T + L) L), 2, 0) := by
  have h1 := h.a; have h2 := h.t; have h3 := h.l
  rw [grant_eq h.ok1 h.get1 h.b (decide_eq_false (by rw [Tick.cl_mid (by omega) (by omega)]; simp only; omega)) (by decide : (1 : Int) ≠ 1073741824)]
  rfl
theorem Tn.len2 (u : Int) : (tu2 N j a (T + L) b u).ls.length = N := by
  show ((tu1 N j a (T + L)).ls.set j _).length = N
  rw [List.length_set, h.len1]
theorem Tn.fenced2 (u : Int) : fencedO (tu2 N j a (T + L) b u) (j : Int) 1 = true :=
  fenced_yes (x := ⟨b, 2, u⟩) (List.getElem?_set_self (by have := h.len1; have := h.j; show j < (tu1 N j a (T + L)).ls.length; omega)) (.inr (by decide : (2 : Int) ≠ 1))
theorem Tn.give : giveO (tu1 N j a (T + L)) (j : Int) 1 = (tu3 N j a (T + L), 0) := by
  rw [give_eq h.ok1 h.get1 (by have := h.a; simp only; omega) rfl]
  rfl
theorem Tn.len3 : (tu3 N j a (T + L)).ls.length = N := by
  show ((tu1 N j a (T + L)).ls.set j _).length = N
  rw [List.length_set, h.len1]
theorem Tn.ok3 : Ok (tu3 N j a (T + L)) := by
  refine ok_setN h.ok1 (by rw [h.len1]; exact h.j) (x := ⟨0, 1, 0⟩) (last := 1) ⟨(by decide : (1 : Int) ≤ 1), by decide⟩ (by decide) (fun i y hi hy _ => ?_)
  have hy2 : (List.replicate N (⟨0, 0, 0⟩ : Le))[i]? = some y := by
    have h4 : ((List.replicate N (⟨0, 0, 0⟩ : Le)).set j ⟨a, 1, T + L⟩)[i]? = some y := hy
    rwa [List.getElem?_set_ne (fun e => hi e.symm)] at h4
  have e : y = ⟨0, 0, 0⟩ := List.eq_of_mem_replicate (List.mem_of_getElem? hy2)
  rw [e]; decide
theorem Tn.fenced3 : fencedO (tu3 N j a (T + L)) (j : Int) 1 = true := fenced_yes h.get3 (.inl rfl)
theorem Tn.grant4 : grantO (tu3 N j a (T + L)) (j : Int) b (cl T) (addT T L) = (tu4 N j a (T + L) b (addT T L), 2, 0) := by
  rw [grant_eq h.ok3 h.get3 h.b rfl (by decide : (1 : Int) ≠ 1073741824)]
  rfl
theorem Tn.len4 (u : Int) : (tu4 N j a (T + L) b u).ls.length = N := by
  show ((tu3 N j a (T + L)).ls.set j _).length = N
  rw [List.length_set, h.len3]
end
end Ls
end Go.Proofs.Ytgoapkbpcfbipaa
