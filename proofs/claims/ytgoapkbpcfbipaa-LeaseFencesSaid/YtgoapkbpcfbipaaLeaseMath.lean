/- Leases and their tables as values; what each call makes of them; what stays true. No code. -/
import Derived.Test.YtgoapkbpcfbipaaProg
namespace Go.Proofs.Ytgoapkbpcfbipaa
set_option linter.unusedVariables false
namespace Ls
/-- A lease: owner, token, until. -/
structure Le where
  own : Int
  tok : Int
  unt : Int
deriving DecidableEq
instance : Inhabited Le := ⟨⟨0, 0, 0⟩⟩
/-- A table: its leases, its last token. -/
structure Tb where
  ls : List Le
  last : Int
deriving DecidableEq
def zT : Tb := ⟨[], 0⟩
/-- The greatest time. -/
abbrev fin : Int := 1099511627776
def okL (last : Int) (l : Le) : Bool := decide ((0 ≤ l.own ∧ l.own ≤ 99) ∧ (0 ≤ l.tok ∧ l.tok ≤ last) ∧ (0 ≤ l.unt ∧ l.unt ≤ fin) ∧ (l.own = 0 → l.unt = 0) ∧ (0 < l.own → l.tok ≠ 0))
def solo : List Le → Bool
  | [] => true
  | x :: r => r.all (fun y => decide (0 < y.tok → x.tok ≠ y.tok)) && solo r
def rightT (t : Tb) : Bool := t.ls.all (okL t.last) && solo t.ls && decide ((1 ≤ t.ls.length ∧ t.ls.length ≤ 32) ∧ (0 ≤ t.last ∧ t.last ≤ 1073741824))
theorem okL_iff (last : Int) (l : Le) : okL last l = true ↔ (0 ≤ l.own ∧ l.own ≤ 99) ∧ (0 ≤ l.tok ∧ l.tok ≤ last) ∧ (0 ≤ l.unt ∧ l.unt ≤ fin) ∧ (l.own = 0 → l.unt = 0) ∧ (0 < l.own → l.tok ≠ 0) := by
  unfold okL
  exact decide_eq_true_iff
theorem solo_iff (l : List Le) : solo l = true ↔ ∀ (i j : Nat) (x y : Le), j < i → l[i]? = some x → l[j]? = some y → 0 < x.tok → y.tok ≠ x.tok := by
  induction l with
  | nil => simp [solo]
  | cons z r ih =>
    simp only [solo, Bool.and_eq_true, List.all_eq_true, decide_eq_true_eq]
    constructor
    · rintro ⟨h1, h2⟩ i j x y hj hx hy h0
      cases i with
      | zero => omega
      | succ i =>
        rw [List.getElem?_cons_succ] at hx
        cases j with
        | zero =>
          rw [List.getElem?_cons_zero] at hy
          cases hy
          exact h1 x (List.mem_of_getElem? hx) h0
        | succ j =>
          rw [List.getElem?_cons_succ] at hy
          exact ih.1 h2 i j x y (by omega) hx hy h0
    · intro h
      refine ⟨fun y hy h0 => ?_, ih.2 fun i j x y hj hx hy h0 => h (i + 1) (j + 1) x y (by omega) (by rw [List.getElem?_cons_succ]; exact hx) (by rw [List.getElem?_cons_succ]; exact hy) h0⟩
      obtain ⟨i, hi⟩ := List.getElem?_of_mem hy
      exact h (i + 1) 0 y z (by omega) (by rw [List.getElem?_cons_succ]; exact hi) (by rw [List.getElem?_cons_zero]) h0
theorem right_iff (t : Tb) : rightT t = true ↔ (∀ (i : Nat) (x : Le), t.ls[i]? = some x → okL t.last x = true) ∧ (∀ (i j : Nat) (x y : Le), j < i → t.ls[i]? = some x → t.ls[j]? = some y → 0 < x.tok → y.tok ≠ x.tok) ∧ (1 ≤ t.ls.length ∧ t.ls.length ≤ 32) ∧ (0 ≤ t.last ∧ t.last ≤ 1073741824) := by
  unfold rightT
  rw [Bool.and_eq_true, Bool.and_eq_true, solo_iff, decide_eq_true_eq, List.all_eq_true]
  constructor
  · rintro ⟨⟨h1, h2⟩, h3⟩
    exact ⟨fun i x hx => h1 x (List.mem_of_getElem? hx), h2, h3⟩
  · rintro ⟨h1, h2, h3⟩
    exact ⟨⟨fun x hx => by obtain ⟨i, hi⟩ := List.getElem?_of_mem hx; exact h1 i x hi, h2⟩, h3⟩
/-- A group that the table has. -/
def hasT (t : Tb) (g : Int) : Bool := rightT t && decide (0 ≤ g ∧ g < (t.ls.length : Int))
/-- A lease is in force at a time that lies between nought and the end. -/
def inF (l : Le) (now : Int) : Bool := decide (0 < l.own ∧ now < l.unt)
def at_ (t : Tb) (g : Int) : Le := t.ls.getD g.toNat ⟨0, 0, 0⟩
def setT (t : Tb) (g : Int) (x : Le) : List Le := t.ls.set g.toNat x
/-- Grant; now is a time, until the sum. -/
def grantO (t : Tb) (g w now unt : Int) : Tb × Int × Int :=
  if hasT t g = false ∨ ¬ (1 ≤ w ∧ w ≤ 99) then (zT, 0, 1)
  else if inF (at_ t g) now then (zT, 0, 160)
  else if t.last = 1073741824 then (zT, 0, 3)
  else (⟨setT t g ⟨w, t.last + 1, unt⟩, t.last + 1⟩, t.last + 1, 0)
def fencedO (t : Tb) (g k : Int) : Bool := if hasT t g = false then true else decide ((at_ t g).own = 0 ∨ (at_ t g).tok ≠ k)
def renewO (t : Tb) (g k now unt : Int) : Tb × Int :=
  if hasT t g = false then (zT, 1)
  else if fencedO t g k = true ∨ inF (at_ t g) now = false then (zT, 160)
  else (⟨setT t g ⟨(at_ t g).own, (at_ t g).tok, max (at_ t g).unt unt⟩, t.last⟩, 0)
def giveO (t : Tb) (g k : Int) : Tb × Int :=
  if hasT t g = false then (zT, 1)
  else if fencedO t g k = true then (zT, 160)
  else (⟨setT t g ⟨0, k, 0⟩, t.last⟩, 0)
def ownersO (t : Tb) (now : Int) : List Int := if rightT t then t.ls.map (fun l => if inF l now then l.own else 0) else []
/-- What Right says, group by group. -/
structure Ok (t : Tb) : Prop where
  each : ∀ (i : Nat) (x : Le), t.ls[i]? = some x → okL t.last x = true
  solo : ∀ (i j : Nat) (x y : Le), j < i → t.ls[i]? = some x → t.ls[j]? = some y → 0 < x.tok → y.tok ≠ x.tok
  len : 1 ≤ t.ls.length ∧ t.ls.length ≤ 32
  last : 0 ≤ t.last ∧ t.last ≤ 1073741824
theorem ok_iff (t : Tb) : rightT t = true ↔ Ok t := by
  rw [right_iff]
  exact ⟨fun ⟨h1, h2, h3, h4⟩ => ⟨h1, h2, h3, h4⟩, fun h => ⟨h.each, h.solo, h.len, h.last⟩⟩
theorem has_iff (t : Tb) (g : Int) : hasT t g = true ↔ Ok t ∧ 0 ≤ g ∧ g < (t.ls.length : Int) := by
  unfold hasT
  rw [Bool.and_eq_true, ok_iff, decide_eq_true_eq]
theorem at_get {t : Tb} {g : Int} (h : 0 ≤ g ∧ g < (t.ls.length : Int)) : t.ls[g.toNat]? = some (at_ t g) := by
  unfold at_
  rw [List.getD_eq_getElem?_getD, List.getElem?_eq_getElem (by omega : g.toNat < t.ls.length)]
  rfl
/-- One lease is put anew: when the table stays right. -/
theorem ok_set {t : Tb} (h : Ok t) {g : Int} (hg : 0 ≤ g ∧ g < (t.ls.length : Int)) {x : Le} {last : Int} (hl : t.last ≤ last ∧ last ≤ 1073741824) (hx : okL last x = true)
    (hs : ∀ (i : Nat) (y : Le), i ≠ g.toNat → t.ls[i]? = some y → 0 < x.tok → y.tok ≠ x.tok) : Ok ⟨setT t g x, last⟩ := by
  have hlen : (setT t g x).length = t.ls.length := by unfold setT; rw [List.length_set]
  have hget : ∀ (i : Nat) (y : Le), (setT t g x)[i]? = some y → (i = g.toNat ∧ y = x) ∨ (i ≠ g.toNat ∧ t.ls[i]? = some y) := by
    intro i y hy
    unfold setT at hy
    by_cases e : i = g.toNat
    · subst e
      rw [List.getElem?_set_self (by omega)] at hy
      exact .inl ⟨rfl, (Option.some.inj hy).symm⟩
    · rw [List.getElem?_set_ne (fun e2 => e e2.symm)] at hy
      exact .inr ⟨e, hy⟩
  refine ⟨fun i y hy => ?_, fun i j y z hj hy hz h0 => ?_, by rw [hlen]; exact h.len, ⟨by show (0 : Int) ≤ last; have := h.last; omega, hl.2⟩⟩
  · rcases hget i y hy with ⟨_, e⟩ | ⟨_, hy2⟩
    · rw [e]; exact hx
    · have := (okL_iff _ _).1 (h.each i y hy2)
      exact (okL_iff _ _).2 ⟨this.1, ⟨this.2.1.1, by show y.tok ≤ last; omega⟩, this.2.2⟩
  · rcases hget i y hy with ⟨e1, e2⟩ | ⟨hi, hy2⟩
    · rcases hget j z hz with ⟨e, _⟩ | ⟨hj2, hz2⟩
      · omega
      · rw [e2] at h0 ⊢
        exact hs j z hj2 hz2 h0
    · rcases hget j z hz with ⟨e1, e2⟩ | ⟨hj2, hz2⟩
      · rw [e2]
        intro e
        exact hs i y hi hy2 (by rw [e]; exact h0) e.symm
      · exact h.solo i j y z hj hy2 hz2 h0
end Ls
end Go.Proofs.Ytgoapkbpcfbipaa
