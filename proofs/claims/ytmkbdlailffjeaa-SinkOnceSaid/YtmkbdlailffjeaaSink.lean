/- Sinks: rows of results, rows of stages; the reference's LikeResults, all. -/
import Derived.Test.YtmkbdlailffjeaaItemRight
import Derived.Test.YtmkbdlailffjeaaItemEq
import Derived.Test.YtmkbdlailffjeaaGen
import Derived.Test.YtmkbdlailffjeaaStill
import Derived.Test.YtmkbdlailffjeaaWide
import Derived.Test.YtmkbdlailffjeaaHold
import Derived.Laws.StructEq
import Derived.Deep.RegionHeld3
import Derived.BigQuiet
import Derived.LoopTactic
import Derived.Deep.Cut
import Derived.Deep.CutBlock
namespace Go.Proofs.Ytmkbdlailffjeaa
open Go.ChangeShapes Go.WideShapes Go.ChangeAt Go.RowKit
set_option linter.unusedVariables false
set_option maxRecDepth 8000
namespace Sk
open Gen (TellsB row_one flat_len flat_get)
/-- A result. -/
structure Re where
  lo : Int
  hi : Int
  k : ByteArray
  n : Int
  v : Int
instance : Inhabited Re := ⟨⟨0, 0, ⟨#[]⟩, 0, 0⟩⟩
abbrev reC (x : Re) : Array Value := Itm.resC x.lo x.hi x.k x.n x.v
abbrev reV (x : Re) : Value := .agg (reC x)
abbrev reL (x : Re) : List Value := (reC x).toList
abbrev rec_ (l : List Re) : List Value := l.flatMap reL
theorem reL_len (x : Re) : (reL x).length = 5 := rfl
theorem lenR (l : List Re) : (rec_ l).length = l.length * 5 := flat_len reL reL_len l
theorem appR (l m : List Re) : rec_ (l ++ m) = rec_ l ++ rec_ m := by simp [rec_]
def okR (x : Re) : Bool := Itm.okRes x.k x.lo x.hi x.n
theorem res_row {w : World} {A : Option Addr} {l : List Re} (h : Row w A (rec_ l)) {k : Nat} {x : Re} (hk : l[k]? = some x) :
    ∃ q off, A = some ⟨q, off, none⟩ ∧ ∀ (j : Nat) (u : Value), (reL x)[j]? = some u → w.cell? ⟨q, off + k * 5 + j, none⟩ = some u :=
  row_one reL_len (by omega) h hk
theorem wrapS {n : Int} (h1 : -9223372036854775808 ≤ n) (h2 : n ≤ 9223372036854775807) : IntKind.i64.wrap n = n := by
  simp [IntKind.wrap, IntKind.bits, IntKind.signed]; omega
theorem wrapKS {k : Nat} (h : k < 9223372036854775807) : IntKind.i64.wrap ((k : Int) + 1) = ((k + 1 : Nat) : Int) := by rw [wrapS (by omega) (by omega)]; rfl
theorem run_sameRe (x : Re) (w : World) : (binOp .neq 29 (reV x) (reV x)).run Try.prog w = .ok (.bool false) w := by
  have h := run_neR x.k x.k x.lo x.hi x.n x.v x.lo x.hi x.n x.v w
  have e : Itm.eqR x.k x.k x.lo x.hi x.n x.v x.lo x.hi x.n x.v = true := by simp [Itm.eqR, Itm.eqS]
  rw [e] at h
  exact h
set_option maxHeartbeats 1000000 in
/-- The same results in two rows. -/
theorem rfLikeRes (l : List Re) (n : Nat) (hn : n = l.length) (hl : n ≤ 4611686018427387904) (A A' : Option Addr) (c c' : Nat) (w : World) (hA : Row w A (rec_ l)) (hA' : Row w A' (rec_ l)) :
    Calls Try.prog 21 #[.slice A n c, .slice A' n c'] w (TellsB true w) := by
  have HR := Lib.hid hA
  have HR' := Lib.hid hA'
  have HN := Lib.hid hn
  clear hA hA' hn
  go_enter Try.func21, Try.ntmps21
  go_wp2_with fail
  go_loopw [13] (fun i wr => ∃ k : Nat, i = .int .i64 k ∧ k ≤ n ∧ ∃ m, wr = w.drewN m) (fun i _ => n - (intOf i).toNat)
  case atStart => exact ⟨0, rfl, Nat.zero_le _, 0, rfl⟩
  case round =>
    obtain ⟨k, rfl, hk, m, rfl⟩ := hrel
    by_cases hlt : k < n
    · obtain ⟨x, hx⟩ : ∃ x, l[k]? = some x := ⟨_, List.getElem?_eq_getElem (by have := HN.out; omega)⟩
      obtain ⟨b, off, rfl, c0⟩ := res_row HR.out hx
      obtain ⟨b', off', rfl, d0⟩ := res_row HR'.out hx
      have he : ∀ w : World, (binOp .neq 29 (reV x) (reV x)).run Try.prog w = .ok (.bool false) w := fun w => run_sameRe x w
      have hki : (k : Int) < (n : Int) := by omega
      have hw := wrapKS (k := k) (by omega)
      have c00 := c0 0 _ rfl; have c01 := c0 1 _ rfl; have c02 := c0 2 _ rfl; have c03 := c0 3 _ rfl; have c04 := c0 4 _ rfl
      have d00 := d0 0 _ rfl; have d01 := d0 1 _ rfl; have d02 := d0 2 _ rfl; have d03 := d0 3 _ rfl; have d04 := d0 4 _ rfl
      rw [Nat.add_zero] at c00 d00
      clear hx c0 d0
      go_wp2_with fail
      go_quiet (fail)
      go_wp2_with fail
      go_roundw
      case rel => exact ⟨k + 1, rfl, by omega, _, rfl⟩
      case measure => simp [intOf]; omega
    · have hki : ¬ (k : Int) < (n : Int) := by omega
      go_wp2_with fail
      go_ret
      exact ⟨rfl, below_drewN (Below.refl _ _)⟩
/-- How many more there may be. -/
def allO (l : List Re) (room : Nat) : Option Nat := if l.length ≤ room ∧ l.all okR = true then some (room - l.length) else none
def tupO (o : Option Nat) : Value := match o with
  | none => .tuple #[.int .i64 0, .bool false]
  | some m => .tuple #[.int .i64 m, .bool true]
def GivesO (o : Option Nat) (w : World) (e : Ending) (w' : World) : Prop := e = .returned (tupO o) ∧ Below w.heap.size w w'
theorem all_not {l : List Re} {i : Nat} {x : Re} (hx : l[i]? = some x) (h : okR x = false) : l.all okR = false := by
  cases e : l.all okR
  · rfl
  · rw [List.all_eq_true] at e
    have := e x (List.mem_of_getElem? hx)
    rw [h] at this; cases this
theorem all_of {l : List Re} {n : Nat} (hn : n = l.length) (h : ∀ i x, i < n → l[i]? = some x → okR x = true) : l.all okR = true := by
  rw [List.all_eq_true]
  intro x hx
  obtain ⟨i, hi⟩ := List.getElem?_of_mem hx
  exact h i x (by rw [hn]; exact (List.getElem?_eq_some_iff.1 hi).1) hi
set_option maxRecDepth 100000 in
set_option maxHeartbeats 1000000 in
theorem rfAllR (l : List Re) (n : Nat) (hn : n = l.length) (room : Nat) (hr : room ≤ 20000) (o : Option Nat) (ho : o = allO l room) (A : Option Addr) (c : Nat) (w : World) (hA : Row w A (rec_ l)) :
    Calls Try.prog 36 #[.slice A n c, .int .i64 room] w (GivesO o w) := by
  have HR := Lib.hid hA
  have HN := Lib.hid hn
  have HRR := Lib.hid (fun (x : Re) w' => rfResult x.lo x.hi x.k x.n x.v w')
  have HROOM := Lib.hid hr
  by_cases h1 : n ≤ room
  · have g1 : decide ((room : Int) < (n : Int)) = false := decide_eq_false (by omega)
    have g1n : decide (room < n) = false := decide_eq_false (by omega)
    have HBAD : Hid (l.all okR = false → o = none) := Lib.hid fun e => by rw [ho]; unfold allO; rw [if_neg (by rw [e]; simp)]
    have HGOOD : Hid (l.all okR = true → o = some (room - n)) := Lib.hid fun e => by rw [ho]; unfold allO; rw [if_pos ⟨by omega, e⟩, ← hn]
    have HRN := Lib.hid h1
    clear hA hn ho hr h1
    go_enter Try.func36, Try.ntmps36
    go_wp2_with fail
    go_loopw [14] (fun s14 wr => ∃ j : Nat, s14 = .int .i64 j ∧ j ≤ n ∧ (∀ i x, i < j → l[i]? = some x → okR x = true) ∧ Below w.heap.size w wr) (fun s14 _ => n - (intOf s14).toNat)
    case atStart => exact ⟨0, rfl, Nat.zero_le _, fun i x hi => absurd hi (Nat.not_lt_zero _), Below.refl _ _⟩
    case round =>
      obtain ⟨j, rfl, hk, hno, hb⟩ := hrel
      have HB := Lib.hid hb
      have HNO := Lib.hid hno
      clear hb hno
      by_cases hlt : j < n
      · obtain ⟨x, hx⟩ : ∃ x, l[j]? = some x := ⟨_, List.getElem?_eq_getElem (by rw [← HN.out]; exact hlt)⟩
        obtain ⟨b, off, rfl, c0⟩ := res_row (HR.out.below HB.out) hx
        have HX := Lib.hid hx
        have hki : (j : Int) < (n : Int) := by omega
        have hw := wrapKS (k := j) (by have := HROOM.out; have := HRN.out; omega)
        have HK := Lib.hid hlt
        have c00 := c0 0 _ rfl; have c01 := c0 1 _ rfl; have c02 := c0 2 _ rfl; have c03 := c0 3 _ rfl; have c04 := c0 4 _ rfl
        rw [Nat.add_zero] at c00
        clear hx c0 hlt hk
        go_upto_region 6 with fail
        have hb7 := below_al (o := .cells (reC x) 29) (Below.refl wr.heap.size wr)
        have L7 := Lib.hid (Lies.new wr (reC x) 29)
        have B7 := Lib.hid (below_next HB.out hb7)
        obtain ⟨b7, hb7e⟩ : ∃ b, b = wr.heap.size := ⟨_, rfl⟩
        obtain ⟨W7, hW7⟩ : ∃ W, W = wr.alloc (.cells (reC x) 29) := ⟨_, rfl⟩
        rw [← hW7] at L7 B7 ⊢
        rw [← hb7e] at L7 ⊢
        clear hW7 hb7e hb7 c00 c01 c02 c03 c04
        have y0 := L7.out.cell (j := 0) rfl; have y1 := L7.out.cell (j := 1) rfl; have y2 := L7.out.cell (j := 2) rfl; have y3 := L7.out.cell (j := 3) rfl; have y4 := L7.out.cell (j := 4) rfl
        obtain ⟨q, hq⟩ : ∃ q, q = okR x := ⟨_, rfl⟩
        have HQ := Lib.hid hq
        have HD := Lib.hid (HRR.out x W7)
        rw [show Itm.okRes x.k x.lo x.hi x.n = q from hq.symm] at HD
        clear hq
        go_wp2_with fail
        refine HD.out.mono ?_
        rintro e w1 ⟨rfl, rfl⟩
        have B8 := Lib.hid (below_al (o := .cells (reC x) 29) B7.out)
        cases q with
        | false =>
          have e : o = none := HBAD.out (all_not HX.out HQ.out.symm)
          subst e
          clear y0 y1 y2 y3 y4
          go_wp2_with fail
          go_ret2
          exact ⟨rfl, B8.out⟩
        | true =>
          clear y0 y1 y2 y3 y4
          go_wp2_with fail
          go_roundw
          case rel =>
            refine ⟨j + 1, rfl, HK.out, fun i y hi hy => ?_, B8.out⟩
            by_cases h1 : i = j
            · rw [h1, HX.out] at hy; cases hy; exact HQ.out.symm
            · exact HNO.out i y (by omega) hy
          case measure => simp [intOf]; have := HK.out; omega
      · have hki : ¬ (j : Int) < (n : Int) := by omega
        have e : o = some (room - n) := HGOOD.out (all_of HN.out (by rw [show n = j by omega]; exact HNO.out))
        have hw : IntKind.i64.wrap ((room : Int) - (n : Int)) = ((room - n : Nat) : Int) := by have := HRN.out; have := HROOM.out; rw [wrapS (by omega) (by omega)]; omega
        subst e
        clear hlt hk
        go_wp2_with fail
        go_ret2
        exact ⟨rfl, HB.out⟩
  · have g1 : decide ((room : Int) < (n : Int)) = true := decide_eq_true (by omega)
    have g1n : decide (room < n) = true := decide_eq_true (by omega)
    have e : o = none := by rw [ho]; unfold allO; rw [if_neg (by omega)]
    subst e
    clear hA hn ho hr h1
    go_enter Try.func36, Try.ntmps36
    go_wp2_with fail
    go_ret2
    exact ⟨rfl, Below.refl _ _⟩
end Sk
end Go.Proofs.Ytmkbdlailffjeaa
