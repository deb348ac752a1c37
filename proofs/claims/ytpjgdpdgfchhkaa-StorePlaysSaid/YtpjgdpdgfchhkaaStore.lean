/- Rows of cells; the reference's May, LikeCells, Like. -/
import Derived.Test.YtpjgdpdgfchhkaaStoreMath
import Derived.Test.YtpjgdpdgfchhkaaGen
import Derived.Test.YtpjgdpdgfchhkaaStill
import Derived.Test.YtpjgdpdgfchhkaaWide
import Derived.Laws.StructEq
import Derived.Deep.RegionHeld3
import Derived.BigQuiet
import Derived.LoopTactic
import Derived.Deep.Cut
import Derived.Deep.CutBlock
import Derived.Test.YtpjgdpdgfchhkaaProg
namespace Go.Proofs.Ytpjgdpdgfchhkaa
open Go.ChangeShapes Go.WideShapes Go.ChangeAt Go.RowKit
set_option linter.unusedVariables false
set_option maxRecDepth 8000
namespace So
open Gen (TellsB row_one flat_len flat_get)
def kS (l : List UInt8) : ByteArray := ⟨l.toArray⟩
theorem kS_size (l : List UInt8) : (kS l).size = l.length := by show l.toArray.size = _; simp
theorem kS_list (l : List UInt8) : (kS l).toList = l := by rw [ByteArray.toList_eq]; rfl
theorem kS_of (s : ByteArray) : kS s.toList = s := by rw [ByteArray.toList_eq]; rfl
abbrev clL (x : Cl) : List Value := [.string (kS x.n), .string (kS x.b)]
abbrev clC (x : Cl) : Array Value := #[.string (kS x.n), .string (kS x.b)]
abbrev clc (l : List Cl) : List Value := l.flatMap clL
theorem clL_len (x : Cl) : (clL x).length = 2 := rfl
theorem cell_row {w : World} {A : Option Addr} {l : List Cl} (h : Row w A (clc l)) {k : Nat} {x : Cl} (hk : l[k]? = some x) :
    ∃ q off, A = some ⟨q, off, none⟩ ∧ w.cell? ⟨q, off + k * 2, none⟩ = some (.string (kS x.n)) ∧ w.cell? ⟨q, off + k * 2 + 1, none⟩ = some (.string (kS x.b)) := by
  obtain ⟨q, off, rfl, g⟩ := row_one clL_len (by omega) h hk
  exact ⟨q, off, rfl, by simpa using g 0 _ rfl, g 1 _ rfl⟩
theorem wrapO {n : Int} (h1 : -9223372036854775808 ≤ n) (h2 : n ≤ 9223372036854775807) : IntKind.i64.wrap n = n := by
  simp [IntKind.wrap, IntKind.bits, IntKind.signed]; omega
theorem wrapKO {k : Nat} (h : k < 9223372036854775807) : IntKind.i64.wrap ((k : Int) + 1) = ((k + 1 : Nat) : Int) := by rw [wrapO (by omega) (by omega)]; rfl
theorem no_rO {r : Bool} {P : Prop} (h : r = true → P) (hn : P → False) : r = false := by
  cases r
  · rfl
  · exact (hn (h rfl)).elim
theorem run_leqS (a b : List UInt8) (q : Bool) (hq : (less a b || a == b) = q) (w : World) : (binOp .leq 9 (.string (kS a)) (.string (kS b))).run Try.prog w = .ok (.bool q) w := by
  subst hq
  have e : ∀ (a b : ByteArray), binOp .leq 9 (.string a) (.string b) = pure (.bool (Op.bytesLess a.toList b.toList || a.toList == b.toList)) := fun a b => by simp [binOp, Op.stringOp]
  rw [e, kS_list, kS_list]
  rfl
theorem run_geqS (a b : List UInt8) (q : Bool) (hq : (!less a b) = q) (w : World) : (binOp .geq 9 (.string (kS a)) (.string (kS b))).run Try.prog w = .ok (.bool q) w := by
  subst hq
  have e : ∀ (a b : ByteArray), binOp .geq 9 (.string a) (.string b) = pure (.bool !(Op.bytesLess a.toList b.toList)) := fun a b => by simp [binOp, Op.stringOp]
  rw [e, kS_list, kS_list]
  rfl
theorem run_eqlS (a b : List UInt8) (q : Bool) (hq : (a == b) = q) (w : World) : (binOp .eql 9 (.string (kS a)) (.string (kS b))).run Try.prog w = .ok (.bool q) w := by
  subst hq
  have e : ∀ (a b : ByteArray), binOp .eql 9 (.string a) (.string b) = pure (.bool (a.toList == b.toList)) := fun a b => by simp [binOp, Op.stringOp]
  rw [e, kS_list, kS_list]
  rfl
theorem run_neqS (a b : List UInt8) (q : Bool) (hq : (!(a == b)) = q) (w : World) : (binOp .neq 9 (.string (kS a)) (.string (kS b))).run Try.prog w = .ok (.bool q) w := by
  subst hq
  have e : ∀ (a b : ByteArray), binOp .neq 9 (.string a) (.string b) = pure (.bool (!(a.toList == b.toList))) := fun a b => by simp [binOp, Op.stringOp]
  rw [e, kS_list, kS_list]
  rfl
theorem mayB_as (x : Cl) : mayB x = (decide (1 ≤ x.n.length) && (decide (x.n.length ≤ 16) && decide (x.b.length ≤ 4096))) := by
  unfold mayB
  rw [← Bool.decide_and, ← Bool.decide_and]
  exact decide_eq_decide.2 (by omega)
theorem rfMay (x : Cl) (r : Bool) (hr : r = mayB x) (w : World) : Calls Try.prog 28 #[.agg (clC x)] w (TellsB r w) := by
  obtain ⟨n, b⟩ := x
  have HB := Lib.hid (below_al (o := .cells (clC ⟨n, b⟩) 43) (Below.refl w.heap.size w))
  obtain ⟨nl, hnl⟩ : ∃ k, k = n.length := ⟨_, rfl⟩
  obtain ⟨bl, hbl⟩ : ∃ k, k = b.length := ⟨_, rfl⟩
  have e1 : (kS n).size = nl := by rw [kS_size, hnl]
  have e2 : (kS b).size = bl := by rw [kS_size, hbl]
  have HR : Hid (r = (decide (1 ≤ nl) && (decide (nl ≤ 16) && decide (bl ≤ 4096)))) := Lib.hid (by rw [hr, mayB_as, hnl, hbl])
  clear hr hnl hbl
  by_cases h1 : 1 ≤ nl
  · have g1 : decide ((1 : Int) ≤ (nl : Int)) = true := decide_eq_true (by omega)
    by_cases h2 : nl ≤ 16
    · have g2 : decide ((nl : Int) ≤ 16) = true := decide_eq_true (by omega)
      by_cases h3 : bl ≤ 4096
      · have g3 : decide ((bl : Int) ≤ 4096) = true := decide_eq_true (by omega)
        have e : r = true := by rw [HR.out, decide_eq_true h1, decide_eq_true h2, decide_eq_true h3]; rfl
        clear h1 h2 h3
        go_enter Try.func28, Try.ntmps28
        go_wp2_with fail
        go_ret
        exact ⟨by (try rw [e]); rfl, HB.out⟩
      · have g3 : decide ((bl : Int) ≤ 4096) = false := decide_eq_false (by omega)
        have e : r = false := by rw [HR.out, decide_eq_true h1, decide_eq_true h2, decide_eq_false h3]; rfl
        clear h1 h2 h3
        go_enter Try.func28, Try.ntmps28
        go_wp2_with fail
        go_ret
        exact ⟨by (try rw [e]); rfl, HB.out⟩
    · have g2 : decide ((nl : Int) ≤ 16) = false := decide_eq_false (by omega)
      have e : r = false := by rw [HR.out, decide_eq_true h1, decide_eq_false h2]; rfl
      clear h1 h2
      go_enter Try.func28, Try.ntmps28
      go_wp2_with fail
      go_ret
      exact ⟨by (try rw [e]); rfl, HB.out⟩
  · have g1 : decide ((1 : Int) ≤ (nl : Int)) = false := decide_eq_false (by omega)
    have e : r = false := by rw [HR.out, decide_eq_false h1]; rfl
    clear h1
    go_enter Try.func28, Try.ntmps28
    go_wp2_with fail
    go_ret
    exact ⟨by (try rw [e]); rfl, HB.out⟩
theorem sfields : Try.prog.underlying 43 = some (.struct (Try.prog.fieldsOf 43)) := by kernel_rfl
theorem sstood : Try.prog.stoodInHeld 43 = false := by kernel_rfl
theorem run_sameCl (x : Cl) (w : World) : (binOp .neq 43 (.agg (clC x)) (.agg (clC x))).run Try.prog w = .ok (.bool false) w := by
  have h1 := Try.underlying9
  rw [run_neq_struct, show (10000 : Nat) = 9999 + 1 from rfl, run_equalIn_agg w _ _ _ _ sfields sstood]
  simp [Program.fieldsOf, Try.underlying43, Op.eqFields, part, isAgg, run_underlying h1, run_equalIn_string w 9998 _ _ _ h1]
set_option maxHeartbeats 1000000 in
/-- The same cells in two rows. -/
theorem rfLikeCells (l : List Cl) (n : Nat) (hn : n = l.length) (hl : n ≤ 100000) (A A' : Option Addr) (c c' : Nat) (w : World) (hA : Row w A (clc l)) (hA' : Row w A' (clc l)) :
    Calls Try.prog 23 #[.slice A n c, .slice A' n c'] w (TellsB true w) := by
  have HR := Lib.hid hA
  have HR' := Lib.hid hA'
  have HN := Lib.hid hn
  clear hA hA' hn
  go_enter Try.func23, Try.ntmps23
  go_wp2_with fail
  go_loopw [13] (fun i wr => ∃ k : Nat, i = .int .i64 k ∧ k ≤ n ∧ ∃ m, wr = w.drewN m) (fun i _ => n - (intOf i).toNat)
  case atStart => exact ⟨0, rfl, Nat.zero_le _, 0, rfl⟩
  case round =>
    obtain ⟨k, rfl, hk, m, rfl⟩ := hrel
    by_cases hlt : k < n
    · obtain ⟨x, hx⟩ : ∃ x, l[k]? = some x := ⟨_, List.getElem?_eq_getElem (by have := HN.out; omega)⟩
      obtain ⟨b, off, rfl, c0, c1⟩ := cell_row HR.out hx
      obtain ⟨b', off', rfl, d0, d1⟩ := cell_row HR'.out hx
      have he : ∀ w : World, (binOp .neq 43 (.agg (clC x)) (.agg (clC x))).run Try.prog w = .ok (.bool false) w := fun w => run_sameCl x w
      have hki : (k : Int) < (n : Int) := by omega
      have hw := wrapKO (k := k) (by omega)
      clear hx
      go_wp2_with fail
      go_quiet (fail)
      go_wp2_with fail
      go_roundw
      case rel => exact ⟨k + 1, rfl, by omega, _, rfl⟩
      case measure => simp [intOf]; omega
    · have hki : ¬ (k : Int) < (n : Int) := by omega
      go_wp2_with fail
      go_ret
      exact ⟨rfl, below_drewN (Below.refl _ _)⟩
/-- A store's value. -/
abbrev srV (A : Option Addr) (n c : Nat) (B : Option Addr) (m d : Nat) (dn : Bool) : Value := .agg #[.slice A n c, .slice B m d, .bool dn]
abbrev srC (A : Option Addr) (n c : Nat) (B : Option Addr) (m d : Nat) (dn : Bool) : Array Value := #[.slice A n c, .slice B m d, .bool dn]
theorem rfLike (cs fs : List Cl) (n m : Nat) (dn : Bool) (hn : n = cs.length) (hm : m = fs.length) (hl : n ≤ 100000) (hl2 : m ≤ 100000) (A A' B B' : Option Addr) (c c' d d' : Nat) (w : World)
    (hA : Row w A (clc cs)) (hA' : Row w A' (clc cs)) (hB : Row w B (clc fs)) (hB' : Row w B' (clc fs)) :
    Calls Try.prog 19 #[srV A n c B m d dn, srV A' n c' B' m d' dn] w (TellsB true w) := by
  have hb0 := below_al (o := .cells (srC A' n c' B' m d' dn) 24) (below_al (o := .cells (srC A n c B m d dn) 24) (Below.refl w.heap.size w))
  have HB0 := Lib.hid hb0
  have HL1 := Lib.hid (fun w' (hb : Below w.heap.size w w') => rfLikeCells cs n hn hl A A' c c' w' (hA.below hb) (hA'.below hb))
  have HL2 := Lib.hid (fun w' (hb : Below w.heap.size w w') => rfLikeCells fs m hm hl2 B B' d d' w' (hB.below hb) (hB'.below hb))
  have L1 := Lib.hid ((Lies.new w (srC A n c B m d dn) 24).al (o := .cells (srC A' n c' B' m d' dn) 24))
  have L2 := Lib.hid (Gen.lies_new1 w (.cells (srC A n c B m d dn) 24) (srC A' n c' B' m d' dn) 24)
  clear hA hA' hB hB' hn hm hb0
  simp only [srC] at L1 L2 HB0
  go_enter Try.func19, Try.ntmps19
  go_upto_region 1 with fail
  obtain ⟨tb, htb⟩ : ∃ b, b = w.heap.size := ⟨_, rfl⟩
  obtain ⟨W, hW⟩ : ∃ W, W = (w.alloc (.cells #[.slice A n c, .slice B m d, .bool dn] 24)).alloc (.cells #[.slice A' n c', .slice B' m d', .bool dn] 24) := ⟨_, rfl⟩
  rw [← hW] at L1 L2 HB0 ⊢
  rw [← htb] at L1 L2 ⊢
  clear hW htb
  have x0 := L1.out.cell (j := 0) rfl; have x1 := L1.out.cell (j := 1) rfl; have x2 := L1.out.cell (j := 2) rfl
  have y0 := L2.out.cell (j := 0) rfl; have y1 := L2.out.cell (j := 1) rfl; have y2 := L2.out.cell (j := 2) rfl
  go_wp2_with fail
  refine (HL1.out _ HB0.out).mono ?_
  rintro e w1 ⟨rfl, hb1⟩
  have HB1 := Lib.hid (below_next HB0.out hb1)
  have M1 := Lib.hid (L1.out.below hb1)
  have M2 := Lib.hid (L2.out.below hb1)
  clear hb1 x0 x1 x2 y0 y1 y2
  have x1 := M1.out.cell (j := 1) rfl
  have y1 := M2.out.cell (j := 1) rfl
  go_wp2_with fail
  refine (HL2.out _ HB1.out).mono ?_
  rintro e w2 ⟨rfl, hb2⟩
  have HB2 := Lib.hid (below_next HB1.out hb2)
  clear hb2
  go_wp2_with fail
  go_ret
  exact ⟨rfl, HB2.out⟩
end So
end Go.Proofs.Ytpjgdpdgfchhkaa
