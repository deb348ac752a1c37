/- Numbers as the code reads them: skip, number of the reader. -/
import Derived.Test.YtileonenphmkkaaDoorJobMath
import Derived.Test.YtileonenphmkkaaDoorGen
import Derived.Test.YtileonenphmkkaaDoorStrs
import Derived.Test.YtileonenphmkkaaDoorShelf
import Derived.Lib.AppendIntMem
namespace Go.Proofs.YtileonenphmkkaaDoor
open Go.RowKit
set_option linter.unusedVariables false
set_option maxRecDepth 8000
namespace Jo
open Gen
open Go.Lib (decDigits)
/-! ### What a row's listed variables hold -/
def Tb (w : World) : Prop := Lib.TabIs Tryd.prog w "internal/strconv.uint64pow10" .u64 Lib.pow10Tab
theorem Tb.next {w w' : World} (h : Tb w) (hb : Below w.heap.size w w') : Tb w' := Lib.tabBelow_of_tabIs h w' hb
structure Vr (w : World) : Prop where
  tab : Tb w
  syn : ∃ tp p, w.cell? ⟨4, 0, none⟩ = some (.iface tp p)
  rng : ∃ tp p, w.cell? ⟨5, 0, none⟩ = some (.iface tp p)
theorem Vr.next {w w' : World} (h : Vr w) (hb : Below w.heap.size w w') : Vr w' := by
  obtain ⟨h1, ⟨tp, p, h2⟩, ⟨tq, q, h3⟩⟩ := h
  exact ⟨h1.next hb, ⟨tp, p, (hb.cell (lt_of_cell h2)).trans h2⟩, ⟨tq, q, (hb.cell (lt_of_cell h3)).trans h3⟩⟩
/-! ### Digits -/
/-- Hands back a text; what was stays. -/
def GivesS (l : List UInt8) (w : World) (e : Ending) (w' : World) : Prop := e = .returned (strv l) ∧ Below w.heap.size w w'
theorem itoa_nat (n : Nat) : Lib.itoa (n : Int) = decDigits n := by
  unfold Lib.itoa
  rw [if_neg (by omega), Int.toNat_natCast]
theorem fmt10 (n : Nat) (h : n ≤ 9223372036854775807) (w : World) (ht : Tb w) : Calls Tryd.prog 34 #[.int .i64 (n : Int), .int .i64 10] w (GivesS (decDigits n) w) :=
  (Tryd.strconv_FormatInt_10 n (by omega) (by omega) w ht).mono fun e w' ⟨h1, k, os, h2⟩ => ⟨by rw [h1, itoa_nat], h2 ▸ Lib.below_grow _ w (Nat.le_refl _) k os⟩
theorem jDigits (n : Nat) (h : n ≤ 9223372036854775807) (w : World) (ht : Tb w) : Calls Tryd.prog 18 #[.int .i64 (n : Int)] w (GivesS (decDigits n) w) := by
  have H := Lib.hid (fmt10 n h w ht)
  clear h ht
  go_enter Tryd.func18, Tryd.ntmps18
  go_wp2_with fail
  refine H.out.mono ?_
  rintro e w1 ⟨rfl, hb⟩
  have HB := Lib.hid hb
  clear hb
  go_wp2_with fail
  go_ret
  exact ⟨rfl, HB.out⟩
/-! ### A reader -/
abbrev rdC (s : List UInt8) (k : Nat) (wr : Bool) : Array Value := #[strv s, .int .i64 (k : Int), .bool wr]
def St (b : Nat) (s : List UInt8) (k : Nat) (wr : Bool) (w : World) : Prop := Lies b (rdC s k wr) 41 w
theorem St.mine {M : Nat → Prop} {b : Nat} {s : List UInt8} {k : Nat} {wr : Bool} {w w' : World} (h : St b s k wr w) (hm : Mine M w w') (hb : ¬ M b) : St b s k wr w' := hm.lies h hb
theorem St.below {b : Nat} {s : List UInt8} {k : Nat} {wr : Bool} {w w' : World} (h : St b s k wr w) (hb : Below w.heap.size w w') : St b s k wr w' := (hb.block _ (lt_of_block h)).trans h
theorem St.cells {b : Nat} {s : List UInt8} {k : Nat} {wr : Bool} {w : World} (h : St b s k wr w) : w.cell? ⟨b, 0, none⟩ = some (strv s) ∧ w.cell? ⟨b, 1, none⟩ = some (.int .i64 (k : Int)) ∧ w.cell? ⟨b, 2, none⟩ = some (.bool wr) :=
  ⟨Lies.cell h (j := 0) rfl, Lies.cell h (j := 1) rfl, Lies.cell h (j := 2) rfl⟩
theorem St.free {b : Nat} {s : List UInt8} {k : Nat} {wr : Bool} {w : World} (h : St b s k wr w) (j : Nat) : w.frozen? ⟨b, j, none⟩ = false := Lies.free h j
theorem St.set0 {b : Nat} {s : List UInt8} {k : Nat} {wr : Bool} {w : World} (h : St b s k wr w) (t : List UInt8) : St b t k wr (w.setCell ⟨b, 0, none⟩ (strv t)) := by
  have := Lies.set h 0 (strv t)
  exact this
theorem St.set1 {b : Nat} {s : List UInt8} {k : Nat} {wr : Bool} {w : World} (h : St b s k wr w) (m : Nat) : St b s m wr (w.setCell ⟨b, 1, none⟩ (.int .i64 (m : Int))) := by
  have := Lies.set h 1 (.int .i64 (m : Int))
  exact this
theorem St.set2 {b : Nat} {s : List UInt8} {k : Nat} {wr : Bool} {w : World} (h : St b s k wr w) (v : Bool) : St b s k v (w.setCell ⟨b, 2, none⟩ (.bool v)) := by
  have := Lies.set h 2 (.bool v)
  exact this
/-- Nothing handed back; the reader goes on so. -/
def GoesOn (b : Nat) (s : List UInt8) (k : Nat) (wr : Bool) (w : World) (e : Ending) (w' : World) : Prop := e = .returned (.tuple #[]) ∧ St b s k wr w' ∧ Mine (· = b) w w'
theorem mine_set2 {b : Nat} {w : World} (i j : Nat) (u v : Value) : Mine (· = b) w ((w.setCell ⟨b, i, none⟩ u).setCell ⟨b, j, none⟩ v) := (Mine.set (M := (· = b)) w (a := ⟨b, i, none⟩) u rfl).trans (Mine.set (M := (· = b)) _ (a := ⟨b, j, none⟩) v rfl)
set_option maxHeartbeats 1000000 in
theorem jSkip (b : Nat) (s t : List UInt8) (k : Nat) (wr : Bool) (w : World) (h : St b s k wr w) :
    Calls Tryd.prog 52 #[.pointer (some ⟨b, 0, none⟩), strv t] w (GoesOn b (Lib.trimPrefix s t) k (wr || !Lib.hasPrefix s t) w) := by
  have HC := Lib.hid (fun w => show Calls Tryd.prog 67 #[strv s, strv t] w fun e w' => e = .returned (.tuple #[strv (Lib.trimPrefix s t), .bool (Lib.hasPrefix s t)]) ∧ w' = w from Tryd.strings_CutPrefix ⟨s.toArray⟩ ⟨t.toArray⟩ w)
  obtain ⟨r, hr⟩ : ∃ r, r = Lib.trimPrefix s t := ⟨_, rfl⟩
  obtain ⟨q, hq⟩ : ∃ q, q = Lib.hasPrefix s t := ⟨_, rfl⟩
  rw [← hr, ← hq] at HC ⊢
  clear hr hq
  have H0 := Lib.hid h
  have c0 := h.cells.1
  have H1 := Lib.hid (h.set0 r)
  have c2 := (h.set0 r).cells.2.2
  have f0 := h.free 0
  have f2 := (h.set0 r).free 2
  clear h
  cases wr <;> cases q
  all_goals (
    go_enter Tryd.func52, Tryd.ntmps52
    go_wp2_with (go_at_call 67; refine (HC.out _).mono ?_; rintro e w1 ⟨rfl, rfl⟩)
    refine bodyPost_ret (results_none rfl _ _ _) rfl ?_
    exact ⟨rfl, H1.out.set2 _, mine_set2 _ _ _ _⟩)
/-! ### Numbers -/
theorem cs_isD (b : UInt8) : ([48, 49, 50, 51, 52, 53, 54, 55, 56, 57] : List UInt8).contains b = isD b := by
  have key : ∀ k : Fin 256, ([48, 49, 50, 51, 52, 53, 54, 55, 56, 57] : List UInt8).contains (UInt8.ofNat k.val) = isD (UInt8.ofNat k.val) := by decide +kernel
  have h := key ⟨b.toNat, b.toNat_lt⟩
  simpa using h
theorem trimL_isD (s : List UInt8) : Lib.trimLeftS s [48, 49, 50, 51, 52, 53, 54, 55, 56, 57] = s.dropWhile isD := by
  unfold Lib.trimLeftS
  congr 1
  funext b
  exact cs_isD b
theorem trimS_isD (s : List UInt8) : Lib.trimSuffix s (s.dropWhile isD) = s.takeWhile isD := by
  have e : s = s.takeWhile isD ++ s.dropWhile isD := (List.takeWhile_append_dropWhile).symm
  have hs : Lib.hasSuffix s (s.dropWhile isD) = true := by
    unfold Lib.hasSuffix
    rw [List.isSuffixOf_iff_suffix]
    exact ⟨s.takeWhile isD, e.symm⟩
  unfold Lib.trimSuffix
  rw [if_pos hs]
  have hl : s.length - (s.dropWhile isD).length = (s.takeWhile isD).length := by
    have := congrArg List.length e
    rw [List.length_append] at this
    omega
  rw [hl]
  conv => lhs; rw [e]
  rw [List.takeWhile_append_dropWhile]
  conv => lhs; arg 2; rw [e]
  rw [List.take_left]
theorem uintM_digits : ∀ (l : List UInt8) (acc : Nat), (∀ b ∈ l, isD b = true) → acc ≤ 18446744073709551615 →
    Lib.parseUintM 18446744073709551615 acc l = if l.foldl (fun a b => 10 * a + (b.toNat - 48)) acc ≤ 18446744073709551615 then .ok (l.foldl (fun a b => 10 * a + (b.toNat - 48)) acc) else .range
  | [], acc, _, h => by simp [Lib.parseUintM, h]
  | c :: r, acc, hd, h => by
    have hc : 48 ≤ c.toNat ∧ c.toNat ≤ 57 := by
      have := hd c (by simp)
      unfold isD at this
      exact of_decide_eq_true this
    have mono : ∀ (l : List UInt8) (a : Nat), a ≤ l.foldl (fun a b => 10 * a + (b.toNat - 48)) a := by
      intro l
      induction l with
      | nil => intro a; exact Nat.le_refl _
      | cons x l ih => intro a; rw [List.foldl_cons]; exact Nat.le_trans (by omega) (ih _)
    have hm := mono r (10 * acc + (c.toNat - 48))
    unfold Lib.parseUintM
    rw [if_pos hc, List.foldl_cons]
    by_cases h1 : 1844674407370955162 ≤ acc
    · rw [if_pos h1, if_neg (by omega)]
    · rw [if_neg h1]
      by_cases h2 : 18446744073709551615 < acc * 10 + (c.toNat - 48)
      · rw [if_pos h2, if_neg (by omega)]
      · rw [if_neg h2, show acc * 10 + (c.toNat - 48) = 10 * acc + (c.toNat - 48) by omega]
        exact uintM_digits r _ (fun b hb => hd b (by simp [hb])) (by omega)
/-- What digits are as an int64. -/
theorem int_digits {l : List UInt8} (hd : ∀ b ∈ l, isD b = true) :
    Lib.parseIntB 64 l = if l = [] then Lib.parseIntB 64 [] else if val l ≤ 9223372036854775807 then .ok (val l : Int) else .range := by
  cases l with
  | nil => rfl
  | cons c r =>
    have hc : 48 ≤ c.toNat ∧ c.toNat ≤ 57 := by
      have := hd c (by simp)
      unfold isD at this
      exact of_decide_eq_true this
    rw [if_neg (by simp)]
    unfold Lib.parseIntB
    simp only
    rw [if_neg (show ¬ (c.toNat = 43 ∨ c.toNat = 45) by omega)]
    have h45 : ¬ c.toNat = 45 := by omega
    unfold Lib.parseUintB
    rw [if_neg (by simp), show 2 ^ 64 - 1 = 18446744073709551615 by decide, uintM_digits _ 0 hd (by omega)]
    have hv : (c :: r).foldl (fun a b => 10 * a + (b.toNat - 48)) 0 = val (c :: r) := rfl
    rw [hv]
    generalize val (c :: r) = v
    by_cases h1 : v ≤ 18446744073709551615
    · rw [if_pos h1]
      simp only [h45, not_false_eq_true, true_and, false_and, if_false]
      by_cases h2 : v ≤ 9223372036854775807
      · rw [if_pos h2, if_neg (by omega)]
      · rw [if_neg h2, if_pos (by omega)]
    · rw [if_neg h1, if_neg (by omega)]
theorem sat_digits {l : List UInt8} (hd : ∀ b ∈ l, isD b = true) : Lib.intSat 64 l = 9223372036854775807 := by
  unfold Lib.intSat
  rw [if_neg]
  · decide
  · cases l with
    | nil => simp
    | cons c r =>
      have hc : 48 ≤ c.toNat ∧ c.toNat ≤ 57 := by
        have := hd c (by simp)
        unfold isD at this
        exact of_decide_eq_true this
      simp only [List.head?_cons, Option.map_some, Option.some.injEq]
      omega
def numOk (s : List UInt8) : Bool := form (s.takeWhile isD) && decide (val (s.takeWhile isD) ≤ 9223372036854775807)
theorem rd_num (s : List UInt8) : rd s = if numOk s then some (val (s.takeWhile isD), s.dropWhile isD) else none := rfl
/-- A number handed back; the reader goes on so. -/
def Numbered (b : Nat) (s : List UInt8) (k : Nat) (wr : Bool) (w : World) (e : Ending) (w' : World) : Prop :=
  ∃ n : Nat, e = .returned (.int .i64 (n : Int)) ∧ n ≤ 9223372036854775807 ∧ (numOk s = true → n = val (s.takeWhile isD)) ∧ St b (s.dropWhile isD) k (wr || !numOk s) w' ∧ Mine (· = b) w w'
end Jo
end Go.Proofs.YtileonenphmkkaaDoor
