/- JobMath, put together. -/
import Derived.Lib.ItoaNum
import Derived.Test.YtipmphkmeiogoaaProg
/- A job's text, as plain data: numbers in decimal digits, lines that are read one behind the other. -/
namespace Go.Proofs.Ytipmphkmeiogoaa
set_option linter.unusedVariables false
namespace Jo
open Go.Lib (decDigits)
/-! ### Numbers -/
def isD (b : UInt8) : Bool := decide (48 ≤ b.toNat ∧ b.toNat ≤ 57)
def val (l : List UInt8) : Nat := l.foldl (fun a b => 10 * a + (b.toNat - 48)) 0
theorem val_push (l : List UInt8) (b : UInt8) : val (l ++ [b]) = 10 * val l + (b.toNat - 48) := by simp [val]
theorem digit_nat {u : Nat} (h : u < 10) : (UInt8.ofNat (48 + u)).toNat = 48 + u := by
  rw [UInt8.toNat_ofNat']; omega
theorem dec_small {u : Nat} (h : u < 10) : decDigits u = [UInt8.ofNat (48 + u)] := by rw [decDigits, dif_pos h]
theorem dec_big {u : Nat} (h : ¬ u < 10) : decDigits u = decDigits (u / 10) ++ [UInt8.ofNat (48 + u % 10)] := by rw [decDigits, dif_neg h]
theorem dec_isD (u : Nat) : ∀ b ∈ decDigits u, isD b = true := by
  induction u using Nat.strongRecOn with
  | _ u ih =>
    by_cases h : u < 10
    · rw [dec_small h]
      intro b hb
      rw [List.mem_singleton.1 hb]
      unfold isD
      rw [digit_nat h, decide_eq_true_eq]; omega
    · rw [dec_big h]
      intro b hb
      rcases List.mem_append.1 hb with hb | hb
      · exact ih (u / 10) (by omega) b hb
      · rw [List.mem_singleton.1 hb]
        unfold isD
        rw [digit_nat (Nat.mod_lt _ (by omega)), decide_eq_true_eq]; omega
theorem val_dec (u : Nat) : val (decDigits u) = u := by
  induction u using Nat.strongRecOn with
  | _ u ih =>
    by_cases h : u < 10
    · rw [dec_small h]
      simp only [val, List.foldl_cons, List.foldl_nil, digit_nat h]; omega
    · rw [dec_big h, val_push, ih (u / 10) (by omega), digit_nat (Nat.mod_lt _ (by omega))]; omega
theorem dec_ne (u : Nat) : decDigits u ≠ [] := by
  by_cases h : u < 10
  · rw [dec_small h]; simp
  · rw [dec_big h]; simp
/-- Digits that are a number's: there are some, and no 0 ahead of others. -/
def form (l : List UInt8) : Bool := decide (l ≠ []) && (decide (l.length = 1) || decide (l.head? ≠ some 48))
theorem head_app {α : Type} {l : List α} (r : List α) (h : l ≠ []) : (l ++ r).head? = l.head? := by
  cases l with
  | nil => exact absurd rfl h
  | cons x l => rfl
theorem mem_tw {p : UInt8 → Bool} {l : List UInt8} {b : UInt8} (h : b ∈ l.takeWhile p) : p b = true := by
  induction l with
  | nil => simp at h
  | cons x l ih =>
    by_cases hx : p x = true
    · rw [List.takeWhile_cons_of_pos hx] at h
      rcases List.mem_cons.1 h with rfl | h
      · exact hx
      · exact ih h
    · rw [List.takeWhile_cons_of_neg hx] at h; simp at h
theorem dec_form (u : Nat) : form (decDigits u) = true := by
  have key : u < 10 ∨ (decDigits u).head? ≠ some 48 := by
    induction u using Nat.strongRecOn with
    | _ u ih =>
      by_cases h : u < 10
      · exact .inl h
      · right
        rw [dec_big h]
        rw [head_app _ (dec_ne _)]
        rcases ih (u / 10) (by omega) with h2 | h2
        · rw [dec_small h2]
          simp only [List.head?_cons, ne_eq, Option.some.injEq]
          intro e
          have := congrArg UInt8.toNat e
          rw [digit_nat h2] at this
          have h3 : (48 : UInt8).toNat = 48 := rfl
          omega
        · exact h2
  unfold form
  rw [Bool.and_eq_true, decide_eq_true_eq, Bool.or_eq_true, decide_eq_true_eq, decide_eq_true_eq]
  refine ⟨dec_ne u, key.imp (fun h => ?_) id⟩
  rw [dec_small h]; rfl
theorem list_snoc {α : Type} {P : List α → Prop} (h0 : P []) (h1 : ∀ l x, P l → P (l ++ [x])) (l : List α) : P l := by
  have key : ∀ r : List α, P r.reverse := by
    intro r
    induction r with
    | nil => exact h0
    | cons x r ih => rw [List.reverse_cons]; exact h1 _ _ ih
  have := key l.reverse
  rwa [List.reverse_reverse] at this
/-- Digits of that form are those of their value. -/
theorem dec_val : ∀ l : List UInt8, (∀ b ∈ l, isD b = true) → form l = true → decDigits (val l) = l := by
  have key : ∀ l : List UInt8, (∀ b ∈ l, isD b = true) → form l = true → decDigits (val l) = l ∧ (l.head? ≠ some 48 → 1 ≤ val l) := by
    refine list_snoc (fun _ h => by simp [form] at h) fun l x ih hd hf => ?_
    have hx : isD x = true := hd x (by simp)
    unfold isD at hx
    rw [decide_eq_true_eq] at hx
    have hxe : UInt8.ofNat (48 + (x.toNat - 48)) = x := by
      rw [show 48 + (x.toNat - 48) = x.toNat by omega]; simp
    rw [val_push]
    by_cases hl : l = []
    · subst hl
      have h0 : val [] = 0 := rfl
      rw [h0, Nat.mul_zero, Nat.zero_add, dec_small (by omega), hxe]
      refine ⟨rfl, fun h => ?_⟩
      simp only [List.nil_append, List.head?_cons, ne_eq, Option.some.injEq] at h
      have : x.toNat ≠ 48 := fun e => h (UInt8.toNat_inj.1 e)
      omega
    · have hhead : (l ++ [x]).head? = l.head? := head_app _ hl
      unfold form at hf
      rw [Bool.and_eq_true, decide_eq_true_eq, Bool.or_eq_true, decide_eq_true_eq, decide_eq_true_eq, hhead] at hf
      have hlen : 0 < l.length := List.length_pos_iff.2 hl
      have hn48 : l.head? ≠ some 48 := hf.2.resolve_left (by rw [List.length_append, List.length_singleton]; omega)
      have hfl : form l = true := by
        unfold form
        rw [Bool.and_eq_true, decide_eq_true_eq, Bool.or_eq_true, decide_eq_true_eq, decide_eq_true_eq]
        exact ⟨hl, .inr hn48⟩
      obtain ⟨i1, i2⟩ := ih (fun b hb => hd b (by simp [hb])) hfl
      have h1 := i2 hn48
      refine ⟨?_, fun _ => by omega⟩
      rw [dec_big (by omega), show (10 * val l + (x.toNat - 48)) / 10 = val l by omega, show (10 * val l + (x.toNat - 48)) % 10 = x.toNat - 48 by omega, hxe, i1]
  exact fun l hd hf => (key l hd hf).1
/-- Reads a number of digits up to 2^63 - 1: what follows. -/
def rd (s : List UInt8) : Option (Nat × List UInt8) :=
  if form (s.takeWhile isD) && decide (val (s.takeWhile isD) ≤ 9223372036854775807) then some (val (s.takeWhile isD), s.dropWhile isD) else none
def stops (r : List UInt8) : Prop := ∀ b, r.head? = some b → isD b = false
theorem tw_app {l r : List UInt8} (h : ∀ b ∈ l, isD b = true) (hr : stops r) : (l ++ r).takeWhile isD = l ∧ (l ++ r).dropWhile isD = r := by
  induction l with
  | nil =>
    cases r with
    | nil => exact ⟨rfl, rfl⟩
    | cons b r =>
      have := hr b rfl
      simp [this]
  | cons x l ih =>
    obtain ⟨i1, i2⟩ := ih fun b hb => h b (by simp [hb])
    have hx := h x (by simp)
    simp [hx, i1, i2]
theorem rd_dec {n : Nat} {r : List UInt8} (h : n ≤ 9223372036854775807) (hr : stops r) : rd (decDigits n ++ r) = some (n, r) := by
  obtain ⟨h1, h2⟩ := tw_app (dec_isD n) hr
  unfold rd
  rw [h1, h2, val_dec, dec_form]
  simp [h]
theorem dw_stops (s : List UInt8) : stops (s.dropWhile isD) := by
  intro b hb
  induction s with
  | nil => simp at hb
  | cons x s ih =>
    by_cases hx : isD x = true
    · rw [List.dropWhile_cons_of_pos hx] at hb; exact ih hb
    · rw [List.dropWhile_cons_of_neg hx] at hb
      simp only [List.head?_cons, Option.some.injEq] at hb
      rw [← hb]; simpa using hx
theorem rd_once {s r : List UInt8} {n : Nat} (h : rd s = some (n, r)) : s = decDigits n ++ r ∧ n ≤ 9223372036854775807 ∧ stops r := by
  unfold rd at h
  split at h
  · rename_i hc
    rw [Bool.and_eq_true, decide_eq_true_eq] at hc
    simp only [Option.some.injEq, Prod.mk.injEq] at h
    obtain ⟨rfl, rfl⟩ := h
    refine ⟨?_, hc.2, dw_stops s⟩
    rw [dec_val _ (fun b hb => mem_tw hb) hc.1, List.takeWhile_append_dropWhile]
  · cases h
/-! ### Lines -/
/-- What stands behind a beginning. -/
def pre (w s : List UInt8) : Option (List UInt8) := if w.isPrefixOf s then some (s.drop w.length) else none
theorem pre_app (w r : List UInt8) : pre w (w ++ r) = some r := by
  unfold pre
  rw [if_pos (by rw [List.isPrefixOf_iff_prefix]; exact List.prefix_append _ _), List.drop_left]
theorem pre_once {w s r : List UInt8} (h : pre w s = some r) : s = w ++ r := by
  unfold pre at h
  split at h
  · rename_i hc
    rw [List.isPrefixOf_iff_prefix] at hc
    obtain ⟨t, rfl⟩ := hc
    rw [List.drop_left, Option.some.injEq] at h
    rw [h]
  · cases h
theorem pre_other {w s : List UInt8} {a : UInt8} (hw : w.head? = some a) (hs : s.head? ≠ some a) : pre w s = none := by
  unfold pre
  rw [if_neg]
  rw [List.isPrefixOf_iff_prefix]
  rintro ⟨t, rfl⟩
  cases w with
  | nil => cases hw
  | cons x w => exact hs hw
/-- A word, a number, the line's end. -/
def ln1 (w s : List UInt8) : Option (Nat × List UInt8) := (pre (w ++ [32]) s).bind fun s => (rd s).bind fun x => (pre [10] x.2).map fun r => (x.1, r)
/-- A word, two numbers, the line's end. -/
def ln2 (w s : List UInt8) : Option (Nat × Nat × List UInt8) :=
  (pre (w ++ [32]) s).bind fun s => (rd s).bind fun x => (pre [32] x.2).bind fun s => (rd s).bind fun y => (pre [10] y.2).map fun r => (x.1, y.1, r)
def tx1 (w : List UInt8) (n : Nat) : List UInt8 := w ++ [32] ++ decDigits n ++ [10]
def tx2 (w : List UInt8) (n m : Nat) : List UInt8 := w ++ [32] ++ decDigits n ++ [32] ++ decDigits m ++ [10]
theorem stop_nl (r : List UInt8) : stops (10 :: r) := by
  intro b hb
  simp only [List.head?_cons, Option.some.injEq] at hb
  subst hb
  decide
theorem stop_sp (r : List UInt8) : stops (32 :: r) := by
  intro b hb
  simp only [List.head?_cons, Option.some.injEq] at hb
  subst hb
  decide
theorem ln1_tx (w r : List UInt8) {n : Nat} (h : n ≤ 9223372036854775807) : ln1 w (tx1 w n ++ r) = some (n, r) := by
  unfold ln1 tx1
  rw [show w ++ [32] ++ decDigits n ++ [10] ++ r = (w ++ [32]) ++ (decDigits n ++ (10 :: r)) by simp, pre_app]
  simp only [Option.bind_some]
  rw [rd_dec h (stop_nl r)]
  simp only [Option.bind_some]
  rw [show (10 :: r) = [10] ++ r from rfl, pre_app]
  rfl
theorem ln2_tx (w r : List UInt8) {n m : Nat} (h : n ≤ 9223372036854775807) (h2 : m ≤ 9223372036854775807) : ln2 w (tx2 w n m ++ r) = some (n, m, r) := by
  unfold ln2 tx2
  rw [show w ++ [32] ++ decDigits n ++ [32] ++ decDigits m ++ [10] ++ r = (w ++ [32]) ++ (decDigits n ++ (32 :: (decDigits m ++ (10 :: r)))) by simp, pre_app]
  simp only [Option.bind_some]
  rw [rd_dec h (stop_sp _)]
  simp only [Option.bind_some]
  rw [show (32 :: (decDigits m ++ (10 :: r))) = [32] ++ (decDigits m ++ (10 :: r)) from rfl, pre_app]
  simp only [Option.bind_some]
  rw [rd_dec h2 (stop_nl r)]
  simp only [Option.bind_some]
  rw [show (10 :: r) = [10] ++ r from rfl, pre_app]
  rfl
theorem ln1_once {w s r : List UInt8} {n : Nat} (h : ln1 w s = some (n, r)) : s = tx1 w n ++ r ∧ n ≤ 9223372036854775807 := by
  unfold ln1 at h
  obtain ⟨a, h1, h⟩ := Option.bind_eq_some_iff.1 h
  obtain ⟨⟨b, c⟩, h2, h⟩ := Option.bind_eq_some_iff.1 h
  obtain ⟨d, h3, h⟩ := Option.map_eq_some_iff.1 h
  simp only [Prod.mk.injEq] at h
  obtain ⟨rfl, rfl⟩ := h
  obtain ⟨e2, hb, _⟩ := rd_once h2
  refine ⟨?_, hb⟩
  have e3 : c = [10] ++ d := pre_once h3
  rw [pre_once h1, e2, e3]
  simp [tx1]
theorem ln2_once {w s r : List UInt8} {n m : Nat} (h : ln2 w s = some (n, m, r)) : s = tx2 w n m ++ r ∧ n ≤ 9223372036854775807 ∧ m ≤ 9223372036854775807 := by
  unfold ln2 at h
  obtain ⟨a, h1, h⟩ := Option.bind_eq_some_iff.1 h
  obtain ⟨⟨b, c⟩, h2, h⟩ := Option.bind_eq_some_iff.1 h
  obtain ⟨a2, h3, h⟩ := Option.bind_eq_some_iff.1 h
  obtain ⟨⟨b2, c2⟩, h4, h⟩ := Option.bind_eq_some_iff.1 h
  obtain ⟨d, h5, h⟩ := Option.map_eq_some_iff.1 h
  simp only [Prod.mk.injEq] at h
  obtain ⟨rfl, rfl, rfl⟩ := h
  obtain ⟨e2, hb, _⟩ := rd_once h2
  obtain ⟨e4, hb2, _⟩ := rd_once h4
  refine ⟨?_, hb, hb2⟩
  have e3 : c = [32] ++ a2 := pre_once h3
  have e5 : c2 = [10] ++ d := pre_once h5
  rw [pre_once h1, e2, e3, e4, e5]
  simp [tx2]
theorem ln1_other {w s : List UInt8} {a : UInt8} (hw : w.head? = some a) (hs : s.head? ≠ some a) : ln1 w s = none := by
  unfold ln1
  rw [pre_other (a := a) (by cases w; cases hw; exact hw) hs]
  rfl
theorem ln2_other {w s : List UInt8} {a : UInt8} (hw : w.head? = some a) (hs : s.head? ≠ some a) : ln2 w s = none := by
  unfold ln2
  rw [pre_other (a := a) (by cases w; cases hw; exact hw) hs]
  rfl
/-! ### The fold's line -/
abbrev wGroups : List UInt8 := [103, 114, 111, 117, 112, 115]
abbrev wWindow : List UInt8 := [119, 105, 110, 100, 111, 119]
abbrev wFold : List UInt8 := [102, 111, 108, 100, 32]
abbrev wLoop : List UInt8 := [108, 111, 111, 112]
abbrev wDelay : List UInt8 := [100, 101, 108, 97, 121]
abbrev wIdle : List UInt8 := [105, 100, 108, 101]
def name : Nat → List UInt8
  | 1 => [99, 111, 117, 110, 116]
  | 2 => [115, 117, 109]
  | 3 => [108, 101, 97, 115, 116]
  | 4 => [103, 114, 101, 97, 116, 101, 115, 116]
  | 5 => [115, 112, 114, 101, 97, 100]
  | _ => []
def txF (k : Nat) : List UInt8 := wFold ++ name k ++ [10]
/-- The first kind whose line it is. -/
def lnF (s : List UInt8) : Option (Nat × List UInt8) :=
  match pre (txF 1) s with
  | some r => some (1, r)
  | none => match pre (txF 2) s with
    | some r => some (2, r)
    | none => match pre (txF 3) s with
      | some r => some (3, r)
      | none => match pre (txF 4) s with
        | some r => some (4, r)
        | none => (pre (txF 5) s).map fun r => (5, r)
theorem pre_not {w s : List UInt8} (h : ∀ t, s ≠ w ++ t) : pre w s = none := by
  cases hp : pre w s with
  | none => rfl
  | some r => exact absurd (pre_once hp) (h r)
theorem lnF_tx {k : Nat} (h1 : 1 ≤ k) (h5 : k ≤ 5) (r : List UInt8) : lnF (txF k ++ r) = some (k, r) := by
  have hk : k = 1 ∨ k = 2 ∨ k = 3 ∨ k = 4 ∨ k = 5 := by omega
  rcases hk with rfl | rfl | rfl | rfl | rfl
  · unfold lnF; rw [pre_app]
  · unfold lnF; rw [pre_not (w := txF 1) (fun t e => by simp [txF, name] at e), pre_app]
  · unfold lnF; rw [pre_not (w := txF 1) (fun t e => by simp [txF, name] at e), pre_not (w := txF 2) (fun t e => by simp [txF, name] at e), pre_app]
  · unfold lnF; rw [pre_not (w := txF 1) (fun t e => by simp [txF, name] at e), pre_not (w := txF 2) (fun t e => by simp [txF, name] at e), pre_not (w := txF 3) (fun t e => by simp [txF, name] at e), pre_app]
  · unfold lnF; rw [pre_not (w := txF 1) (fun t e => by simp [txF, name] at e), pre_not (w := txF 2) (fun t e => by simp [txF, name] at e), pre_not (w := txF 3) (fun t e => by simp [txF, name] at e), pre_not (w := txF 4) (fun t e => by simp [txF, name] at e), pre_app]; rfl
theorem lnF_once {s r : List UInt8} {k : Nat} (h : lnF s = some (k, r)) : s = txF k ++ r ∧ 1 ≤ k ∧ k ≤ 5 := by
  unfold lnF at h
  split at h
  · rename_i x hx
    simp only [Option.some.injEq, Prod.mk.injEq] at h
    obtain ⟨rfl, rfl⟩ := h
    exact ⟨pre_once hx, by omega, by omega⟩
  · split at h
    · rename_i x hx
      simp only [Option.some.injEq, Prod.mk.injEq] at h
      obtain ⟨rfl, rfl⟩ := h
      exact ⟨pre_once hx, by omega, by omega⟩
    · split at h
      · rename_i x hx
        simp only [Option.some.injEq, Prod.mk.injEq] at h
        obtain ⟨rfl, rfl⟩ := h
        exact ⟨pre_once hx, by omega, by omega⟩
      · split at h
        · rename_i x hx
          simp only [Option.some.injEq, Prod.mk.injEq] at h
          obtain ⟨rfl, rfl⟩ := h
          exact ⟨pre_once hx, by omega, by omega⟩
        · obtain ⟨x, hx, h⟩ := Option.map_eq_some_iff.1 h
          simp only [Prod.mk.injEq] at h
          obtain ⟨rfl, rfl⟩ := h
          exact ⟨pre_once hx, by omega, by omega⟩
theorem lnF_other {s : List UInt8} (hs : s.head? ≠ some 102) : lnF s = none := by
  have h : ∀ k, pre (txF k) s = none := fun k => pre_other (a := 102) rfl hs
  unfold lnF
  rw [h 1, h 2, h 3, h 4, h 5]
  rfl
/-! ### Jobs -/
structure Jb where
  groups : Int
  size : Int
  slide : Int
  fold : Int
  fuel : Int
  limit : Int
  delay : Int
  idle : Int
deriving DecidableEq
instance : Inhabited Jb := ⟨⟨0, 0, 0, 0, 0, 0, 0, 0⟩⟩
def winOk (size slide : Int) : Bool := decide (1 ≤ slide ∧ slide ≤ size ∧ size ≤ 1048576 ∧ (size + 15) / 16 ≤ slide)
def foldOk (k : Int) : Bool := decide (1 ≤ k ∧ k ≤ 5)
def right (j : Jb) : Bool :=
  decide (1 ≤ j.groups ∧ j.groups ≤ 32) && winOk j.size j.slide && foldOk j.fold && decide (0 ≤ j.fuel ∧ j.fuel ≤ 40) && decide (0 ≤ j.limit) && decide (0 ≤ j.delay ∧ j.delay ≤ 1099511627776) && decide (0 ≤ j.idle ∧ j.idle ≤ 1048576)
theorem right_iff (j : Jb) : right j = true ↔ (1 ≤ j.groups ∧ j.groups ≤ 32) ∧ winOk j.size j.slide = true ∧ foldOk j.fold = true ∧ (0 ≤ j.fuel ∧ j.fuel ≤ 40) ∧ 0 ≤ j.limit ∧ (0 ≤ j.delay ∧ j.delay ≤ 1099511627776) ∧ (0 ≤ j.idle ∧ j.idle ≤ 1048576) := by
  unfold right
  simp only [Bool.and_eq_true, decide_eq_true_eq, and_assoc]
/-- The text of a job whose numbers are 0 or more. -/
def text (j : Jb) : List UInt8 :=
  tx1 wGroups j.groups.toNat ++ (tx2 wWindow j.size.toNat j.slide.toNat ++ (txF j.fold.toNat ++ (tx2 wLoop j.limit.toNat j.fuel.toNat ++ (tx1 wDelay j.delay.toNat ++ (tx1 wIdle j.idle.toNat ++ [])))))
/-- The lines of a job, the one numbered k (from 0 on). -/
def lines (j : Jb) : List (List UInt8) :=
  [tx1 wGroups j.groups.toNat, tx2 wWindow j.size.toNat j.slide.toNat, txF j.fold.toNat, tx2 wLoop j.limit.toNat j.fuel.toNat, tx1 wDelay j.delay.toNat, tx1 wIdle j.idle.toNat]
theorem text_lines (j : Jb) : text j = (lines j).flatten := by simp [text, lines]
/-- A number as an int of the program: nothing above 2^30 is told apart. -/
def small (n : Nat) : Int := if n > 1073741824 then 1073741824 else n
/-- What is read: a job, ErrJob, or the line that is not one. -/
inductive Res where
  | ok (j : Jb)
  | job
  | line (k : Nat)
deriving DecidableEq
def parse (s : List UInt8) : Res :=
  match ln1 wGroups s with
  | none => .line 1
  | some (g, s) => match ln2 wWindow s with
    | none => .line 2
    | some (a, b, s) => match lnF s with
      | none => .line 3
      | some (k, s) => match ln2 wLoop s with
        | none => .line 4
        | some (l, f, s) => match ln1 wDelay s with
          | none => .line 5
          | some (d, s) => match ln1 wIdle s with
            | none => .line 6
            | some (i, s) => if s = [] then (if right ⟨small g, a, b, k, small f, l, d, small i⟩ then .ok ⟨small g, a, b, k, small f, l, d, small i⟩ else .job) else .line 7
end Jo
end Go.Proofs.Ytipmphkmeiogoaa
