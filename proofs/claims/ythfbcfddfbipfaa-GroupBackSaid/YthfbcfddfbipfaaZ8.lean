/- ItemMath, ItemEq, ItemRight, ItemOk, VlqWrite, put together. -/
import Derived.Test.YthfbcfddfbipfaaZ7
import Derived.Test.YthfbcfddfbipfaaZ3
import Derived.Laws.StructEq
import Derived.Deep.RegionHeld3
import Derived.OneCell
import Derived.Outline
import Derived.ShutString
import Derived.Laws.IdiomStrings
import Derived.Lib.BufferRead
/- Items as plain data: which may be, which bytes they are. -/
namespace Go.Proofs.Ythfbcfddfbipfaa
set_option linter.unusedVariables false
set_option maxRecDepth 8000
namespace Itm
/-- An item, field by field. -/
structure It where
  k : Int
  ek : ByteArray
  ea : Int
  ev : Int
  m : Int
  n : Int
  lo : Int
  hi : Int
  rk : ByteArray
  rn : Int
  rv : Int
abbrev no : ByteArray := ⟨#[]⟩
def eqS (a b : ByteArray) : Bool := a.toList == b.toList
/-- From lo to hi. -/
def wn (n lo hi : Int) : Bool := decide (lo ≤ n ∧ n ≤ hi)
theorem wn_true {n lo hi : Int} (h1 : lo ≤ n) (h2 : n ≤ hi) : wn n lo hi = true := decide_eq_true ⟨h1, h2⟩
theorem wn_lo {n lo hi : Int} (h : ¬ lo ≤ n) : wn n lo hi = false := decide_eq_false fun g => h g.1
theorem wn_hi {n lo hi : Int} (h : ¬ n ≤ hi) : wn n lo hi = false := decide_eq_false fun g => h g.2
def okKey (s : ByteArray) : Bool := wn s.size 1 16
def okEv (k : ByteArray) (a : Int) : Bool := okKey k && wn a 0 1099511627775
def okRes (k : ByteArray) (lo hi n : Int) : Bool := okKey k && decide (0 ≤ lo) && decide (lo < hi) && decide (hi ≤ 1099511627776) && wn n 1 1073741824
def eqE (k k' : ByteArray) (a v a' v' : Int) : Bool := eqS k k' && (a == a') && (v == v')
def eqR (k k' : ByteArray) (lo hi n v lo' hi' n' v' : Int) : Bool := (lo == lo') && (hi == hi') && eqS k k' && (n == n') && (v == v')
def eqI (a b : It) : Bool := (a.k == b.k) && eqE a.ek b.ek a.ea a.ev b.ea b.ev && (a.m == b.m) && (a.n == b.n) && eqR a.rk b.rk a.lo a.hi a.rn a.rv b.lo b.hi b.rn b.rv
abbrev bare (k : Int) : It := ⟨k, no, 0, 0, 0, 0, 0, 0, no, 0, 0⟩
/-- The value of an item, of an event, of a result. -/
abbrev evC (k : ByteArray) (a v : Int) : Array Value := #[.string k, .int .i64 a, .int .i64 v]
abbrev evV (k : ByteArray) (a v : Int) : Value := .agg (evC k a v)
abbrev resC (lo hi : Int) (k : ByteArray) (n v : Int) : Array Value := #[.int .i64 lo, .int .i64 hi, .string k, .int .i64 n, .int .i64 v]
abbrev resV (lo hi : Int) (k : ByteArray) (n v : Int) : Value := .agg (resC lo hi k n v)
abbrev itC (a : It) : Array Value := #[.int .i64 a.k, .string a.ek, .int .i64 a.ea, .int .i64 a.ev, .int .i64 a.m, .int .i64 a.n, .int .i64 a.lo, .int .i64 a.hi, .string a.rk, .int .i64 a.rn, .int .i64 a.rv]
abbrev itV (a : It) : Value := .agg (itC a)
def right (a : It) : Bool :=
  if a.k = 1 then okEv a.ek a.ea && eqI a { bare 1 with ek := a.ek, ea := a.ea, ev := a.ev }
  else if a.k = 2 then wn a.m 0 1099511627776 && eqI a { bare 2 with m := a.m }
  else if a.k = 3 then eqI a (bare 3)
  else if a.k = 4 then wn a.n 1 1073741824 && eqI a { bare 4 with n := a.n }
  else if a.k = 5 then okRes a.rk a.lo a.hi a.rn && eqI a { bare 5 with lo := a.lo, hi := a.hi, rk := a.rk, rn := a.rn, rv := a.rv }
  else false
end Itm
end Go.Proofs.Ythfbcfddfbipfaa
/- Items, events and results compared as whole structs. -/
namespace Go.Proofs.Ythfbcfddfbipfaa
open Go.RowKit
open Itm
set_option linter.unusedVariables false
set_option maxRecDepth 8000
theorem fields_ev : Try.prog.underlying 28 = some (.struct (Try.prog.fieldsOf 28)) := by kernel_rfl
theorem fields_win : Try.prog.underlying 55 = some (.struct (Try.prog.fieldsOf 55)) := by kernel_rfl
theorem fields_res : Try.prog.underlying 78 = some (.struct (Try.prog.fieldsOf 78)) := by kernel_rfl
theorem stood_ev : Try.prog.stoodInHeld 28 = false := by kernel_rfl
theorem stood_win : Try.prog.stoodInHeld 55 = false := by kernel_rfl
theorem stood_res : Try.prog.stoodInHeld 78 = false := by kernel_rfl
theorem run_eqE (d : Nat) (k k' : ByteArray) (a v a' v' : Int) (w : World) : (Op.equalIn (d + 2) 28 (evV k a v) (evV k' a' v')).run Try.prog w = .ok (eqE k k' a v a' v') w := by
  have h1 := Try.underlying9
  have h2 := Try.underlying2
  rw [run_equalIn_agg w _ _ _ _ fields_ev stood_ev]
  simp [Program.fieldsOf, Try.underlying28, Op.eqFields, part, isAgg, run_underlying h1, run_underlying h2, run_equalIn_int w d _ .i64 .i64 _ _ h2, run_equalIn_string w d _ _ _ h1]
  unfold eqE eqS
  by_cases g1 : k.toList = k'.toList <;> by_cases g2 : a = a' <;> by_cases g3 : v = v' <;> simp [g1, g2, g3]
theorem run_eqW (d : Nat) (lo hi lo' hi' : Int) (w : World) : (Op.equalIn (d + 2) 55 (.agg #[.int .i64 lo, .int .i64 hi]) (.agg #[.int .i64 lo', .int .i64 hi'])).run Try.prog w = .ok ((lo == lo') && (hi == hi')) w := by
  have h2 := Try.underlying2
  rw [run_equalIn_agg w _ _ _ _ fields_win stood_win]
  simp [Program.fieldsOf, Try.underlying55, Op.eqFields, part, isAgg, run_underlying h2, run_equalIn_int w d _ .i64 .i64 _ _ h2]
  by_cases g1 : lo = lo' <;> by_cases g2 : hi = hi' <;> simp [g1, g2]
theorem size_win : (Try.prog.info? 55).map (·.size) = some 2 := by kernel_rfl
theorem size_ev : (Try.prog.info? 28).map (·.size) = some 3 := by kernel_rfl
theorem size_res : (Try.prog.info? 78).map (·.size) = some 5 := by kernel_rfl
theorem run_eqR (d : Nat) (k k' : ByteArray) (lo hi n v lo' hi' n' v' : Int) (w : World) : (Op.equalIn (d + 3) 78 (resV lo hi k n v) (resV lo' hi' k' n' v')).run Try.prog w = .ok (eqR k k' lo hi n v lo' hi' n' v') w := by
  have h1 := Try.underlying9
  have h2 := Try.underlying2
  obtain ⟨i0, hi0, hs0⟩ := Option.map_eq_some_iff.1 size_win
  have hsz : ∀ w, (sizeOf 55).run Try.prog w = .ok 2 w := fun w => by simp [sizeOf, typeInfo, hi0, hs0]
  have hW := run_eqW d lo hi lo' hi' w
  rw [run_equalIn_agg w _ _ _ _ fields_res stood_res]
  simp [Program.fieldsOf, Try.underlying78, Op.eqFields, part, isAgg, run_underlying h1, run_underlying h2, run_underlying Try.underlying55, hsz, hW, run_equalIn_int w (d + 1) _ .i64 .i64 _ _ h2, run_equalIn_string w (d + 1) _ _ _ h1]
  unfold eqR eqS
  by_cases g1 : k.toList = k'.toList <;> by_cases g2 : lo = lo' <;> by_cases g3 : hi = hi' <;> by_cases g4 : n = n' <;> by_cases g5 : v = v' <;> simp [g1, g2, g3, g4, g5]
theorem run_neE (k k' : ByteArray) (a v a' v' : Int) (w : World) : (binOp .neq 28 (evV k a v) (evV k' a' v')).run Try.prog w = .ok (.bool (!eqE k k' a v a' v')) w := by
  rw [run_neq_struct, show (10000 : Nat) = 9998 + 2 from rfl, run_eqE]; rfl
theorem run_neR (k k' : ByteArray) (lo hi n v lo' hi' n' v' : Int) (w : World) : (binOp .neq 78 (resV lo hi k n v) (resV lo' hi' k' n' v')).run Try.prog w = .ok (.bool (!eqR k k' lo hi n v lo' hi' n' v')) w := by
  rw [run_neq_struct, show (10000 : Nat) = 9997 + 3 from rfl, run_eqR]; rfl
end Go.Proofs.Ythfbcfddfbipfaa
/- Contracts of which items may be, of package item and of the reference. -/
namespace Go.Proofs.Ythfbcfddfbipfaa
open Go.RowKit
open Itm
set_option linter.unusedVariables false
set_option maxRecDepth 8000
/-- Hands back a truth; nothing is touched. -/
def Says (b : Bool) (w : World) (e : Ending) (w' : World) : Prop := e = .returned (.bool b) ∧ w = w'
theorem itWithin (n lo hi : Int) (w : World) :
    Calls Try.prog 63 #[.int .i64 n, .int .i64 lo, .int .i64 hi] w (Says (wn n lo hi) w) := by
  by_cases h1 : lo ≤ n
  · by_cases h2 : n ≤ hi
    · have hc := Lib.hid (wn_true h1 h2)
      go_enter Try.func63, Try.ntmps63
      go_wp2_with fail
      go_ret
      exact ⟨by rw [hc.out]; rfl, rfl⟩
    · have hc := Lib.hid (wn_hi (lo := lo) h2)
      go_enter Try.func63, Try.ntmps63
      go_wp2_with fail
      go_ret
      exact ⟨by rw [hc.out]; rfl, rfl⟩
  · have hc := Lib.hid (wn_lo (hi := hi) h1)
    go_enter Try.func63, Try.ntmps63
    go_wp2_with fail
    go_ret
    exact ⟨by rw [hc.out]; rfl, rfl⟩
theorem itKey (s : ByteArray) (w : World) :
    Calls Try.prog 62 #[.string s] w (Says (okKey s) w) := by
  go_enter Try.func62, Try.ntmps62
  go_wp2_with fail
  refine (itWithin _ _ _ _).mono ?_
  rintro e w' ⟨rfl, rfl⟩
  go_wp2_with fail
  go_ret
  exact ⟨rfl, rfl⟩
theorem rfKey (s : ByteArray) (w : World) :
    Calls Try.prog 67 #[.string s] w (Says (okKey s) w) := by
  by_cases h1 : (1 : Int) ≤ s.size
  · by_cases h2 : (s.size : Int) ≤ 16
    · have hc := Lib.hid (show okKey s = true from wn_true h1 h2)
      go_enter Try.func67, Try.ntmps67
      go_wp2_with fail
      go_ret
      exact ⟨by rw [hc.out]; rfl, rfl⟩
    · have hc := Lib.hid (show okKey s = false from wn_hi h2)
      go_enter Try.func67, Try.ntmps67
      go_wp2_with fail
      go_ret
      exact ⟨by rw [hc.out]; rfl, rfl⟩
  · have hc := Lib.hid (show okKey s = false from wn_lo h1)
    go_enter Try.func67, Try.ntmps67
    go_wp2_with fail
    go_ret
    exact ⟨by rw [hc.out]; rfl, rfl⟩
/-- Hands back a truth; what was stays. -/
def Tells (b : Bool) (w : World) (e : Ending) (w' : World) : Prop := e = .returned (.bool b) ∧ Below w.heap.size w w'
/-- Hands back a truth; its argument was laid anew. -/
def TellsA (b : Bool) (o : Obj) (w : World) (e : Ending) (w' : World) : Prop := e = .returned (.bool b) ∧ w' = w.alloc o
theorem itEvent (k : ByteArray) (a v : Int) (w : World) :
    Calls Try.prog 29 #[evV k a v] w (TellsA (okEv k a) (.cells (evC k a v) 28) w) := by
  by_cases hk : okKey k = true
  · have hc := Lib.hid (show okEv k a = wn a 0 1099511627775 from by unfold okEv; rw [hk, Bool.true_and])
    go_enter Try.func29, Try.ntmps29
    go_wp2_with fail
    refine (itKey _ _).mono ?_
    rintro e w' ⟨rfl, rfl⟩
    go_wp2_with fail
    refine (itWithin _ _ _ _).mono ?_
    rintro e w' ⟨rfl, rfl⟩
    go_wp2_with fail
    go_ret
    exact ⟨by rw [hc.out]; rfl, rfl⟩
  · have hk' : okKey k = false := by simpa using hk
    have hc := Lib.hid (show okEv k a = false from by unfold okEv; rw [hk', Bool.false_and])
    clear hk
    go_enter Try.func29, Try.ntmps29
    go_wp2_with fail
    refine (itKey _ _).mono ?_
    rintro e w' ⟨rfl, rfl⟩
    go_wp2_with fail
    go_ret
    exact ⟨by rw [hc.out]; rfl, rfl⟩
theorem rfEvent (k : ByteArray) (a v : Int) (w : World) :
    Calls Try.prog 33 #[evV k a v] w (TellsA (okEv k a) (.cells (evC k a v) 28) w) := by
  by_cases hk : okKey k = true
  · by_cases h1 : 0 ≤ a
    · by_cases h2 : a < 1099511627776
      · have hc := Lib.hid (show okEv k a = true from by unfold okEv; rw [hk, Bool.true_and]; exact wn_true h1 (by omega))
        go_enter Try.func33, Try.ntmps33
        go_wp2_with fail
        refine (rfKey _ _).mono ?_
        rintro e w' ⟨rfl, rfl⟩
        go_wp2_with fail
        go_ret
        exact ⟨by rw [hc.out]; rfl, rfl⟩
      · have hc := Lib.hid (show okEv k a = false from by unfold okEv; rw [hk, Bool.true_and]; exact wn_hi (by omega))
        have hd : decide (a < 1099511627776) = false := decide_eq_false h2
        go_enter Try.func33, Try.ntmps33
        go_wp2_with fail
        refine (rfKey _ _).mono ?_
        rintro e w' ⟨rfl, rfl⟩
        go_wp2_with fail
        go_ret
        exact ⟨by rw [hc.out]; rfl, rfl⟩
    · have hc := Lib.hid (show okEv k a = false from by unfold okEv; rw [hk, Bool.true_and]; exact wn_lo h1)
      go_enter Try.func33, Try.ntmps33
      go_wp2_with fail
      refine (rfKey _ _).mono ?_
      rintro e w' ⟨rfl, rfl⟩
      go_wp2_with fail
      go_ret
      exact ⟨by rw [hc.out]; rfl, rfl⟩
  · have hk' : okKey k = false := by simpa using hk
    have hc := Lib.hid (show okEv k a = false from by unfold okEv; rw [hk', Bool.false_and])
    clear hk
    go_enter Try.func33, Try.ntmps33
    go_wp2_with fail
    refine (rfKey _ _).mono ?_
    rintro e w' ⟨rfl, rfl⟩
    go_wp2_with fail
    go_ret
    exact ⟨by rw [hc.out]; rfl, rfl⟩
end Go.Proofs.Ythfbcfddfbipfaa
/- Contracts of Right, of package item and of the reference. -/
namespace Go.Proofs.Ythfbcfddfbipfaa
open Go.RowKit
open Itm
set_option linter.unusedVariables false
set_option maxRecDepth 8000
theorem right_1 (ek : ByteArray) (ea ev m n lo hi : Int) (rk : ByteArray) (rn rv : Int) (h : okEv ek ea = true) : right ⟨1, ek, ea, ev, m, n, lo, hi, rk, rn, rv⟩ = eqI ⟨1, ek, ea, ev, m, n, lo, hi, rk, rn, rv⟩ { bare 1 with ek := ek, ea := ea, ev := ev } := by simp [right, h]
theorem right_1n (ek : ByteArray) (ea ev m n lo hi : Int) (rk : ByteArray) (rn rv : Int) (h : okEv ek ea = false) : right ⟨1, ek, ea, ev, m, n, lo, hi, rk, rn, rv⟩ = false := by simp [right, h]
theorem right_2 (ek : ByteArray) (ea ev m n lo hi : Int) (rk : ByteArray) (rn rv : Int) (h : wn m 0 1099511627776 = true) : right ⟨2, ek, ea, ev, m, n, lo, hi, rk, rn, rv⟩ = eqI ⟨2, ek, ea, ev, m, n, lo, hi, rk, rn, rv⟩ { bare 2 with m := m } := by simp [right, h]
theorem right_2n (ek : ByteArray) (ea ev m n lo hi : Int) (rk : ByteArray) (rn rv : Int) (h : wn m 0 1099511627776 = false) : right ⟨2, ek, ea, ev, m, n, lo, hi, rk, rn, rv⟩ = false := by simp [right, h]
theorem right_4 (ek : ByteArray) (ea ev m n lo hi : Int) (rk : ByteArray) (rn rv : Int) (h : wn n 1 1073741824 = true) : right ⟨4, ek, ea, ev, m, n, lo, hi, rk, rn, rv⟩ = eqI ⟨4, ek, ea, ev, m, n, lo, hi, rk, rn, rv⟩ { bare 4 with n := n } := by simp [right, h]
theorem right_4n (ek : ByteArray) (ea ev m n lo hi : Int) (rk : ByteArray) (rn rv : Int) (h : wn n 1 1073741824 = false) : right ⟨4, ek, ea, ev, m, n, lo, hi, rk, rn, rv⟩ = false := by simp [right, h]
theorem right_5 (ek : ByteArray) (ea ev m n lo hi : Int) (rk : ByteArray) (rn rv : Int) (h : okRes rk lo hi rn = true) : right ⟨5, ek, ea, ev, m, n, lo, hi, rk, rn, rv⟩ = eqI ⟨5, ek, ea, ev, m, n, lo, hi, rk, rn, rv⟩ { bare 5 with lo := lo, hi := hi, rk := rk, rn := rn, rv := rv } := by simp [right, h]
theorem right_5n (ek : ByteArray) (ea ev m n lo hi : Int) (rk : ByteArray) (rn rv : Int) (h : okRes rk lo hi rn = false) : right ⟨5, ek, ea, ev, m, n, lo, hi, rk, rn, rv⟩ = false := by simp [right, h]
theorem right_3 (ek : ByteArray) (ea ev m n lo hi : Int) (rk : ByteArray) (rn rv : Int) : right ⟨3, ek, ea, ev, m, n, lo, hi, rk, rn, rv⟩ = eqI ⟨3, ek, ea, ev, m, n, lo, hi, rk, rn, rv⟩ (bare 3) := by simp [right]
theorem right_else (k : Int) (ek : ByteArray) (ea ev m n lo hi : Int) (rk : ByteArray) (rn rv : Int) (h1 : k ≠ 1) (h2 : k ≠ 2) (h3 : k ≠ 3) (h4 : k ≠ 4) (h5 : k ≠ 5) : right ⟨k, ek, ea, ev, m, n, lo, hi, rk, rn, rv⟩ = false := by simp [right, h1, h2, h3, h4, h5]
end Go.Proofs.Ythfbcfddfbipfaa
/- Contracts of what package vlq writes: a digit is added, a number's digits are written, the bytes are a string. -/
namespace Go.Proofs.Ythfbcfddfbipfaa
open Go.RowKit
open Vlq
set_option linter.unusedVariables false
theorem info_u8 : (Try.prog.info? 5).map (fun i => (i.zero, i.size, i.bytes)) = some (some (.int .u8 0), 1, 1) := by kernel_rfl
abbrev u8v (c : UInt8) : Value := .int .u8 (c.toNat : Int)
/-- Block g holds a struct with one slice of bytes, the call's own, which reads as l. -/
def Dig (w : World) (g : Nat) (l : List UInt8) : Prop :=
  ∃ A c, w.heap[g]? = some (.cells #[.slice A l.length c] 148 (0, 0)) ∧ w.ownsRow (g + 1) 5 1 (.slice A l.length c) l.length (l.map u8v)
def Added (g : Nat) (l : List UInt8) (w : World) (e : Ending) (w' : World) : Prop := e = .returned (.tuple #[]) ∧ Dig w' g l ∧ Below g w w'

theorem one_new (w : World) (u : Value) (t : TypeId) : Row (w.alloc (.cells #[u] t)) (some ⟨w.heap.size, 0, none⟩) [u] := by
  refine .inr ⟨_, _, rfl, fun j v hv => ?_⟩
  match j, hv with
  | 0, hv => simp at hv; subst hv; exact cell_of_one (heap_alloc_new w _)
theorem own_above {w : World} {g size n : Nat} {e : TypeId} {v : Value} {xs : List Value} (h : w.ownsRow (g + 1) e size v n xs) : v.ownBlock ≠ some g := by
  rcases h.2 with ⟨rfl, _⟩ | ⟨b, cap, cur, rfl, hb, _⟩
  · simp [Value.ownBlock]
  · simp only [Value.ownBlock, ne_eq, Option.some.injEq]; omega
theorem vlqAdd (g : Nat) (l : List UInt8) (x : Int) (c : UInt8) (hx : x = c.toNat) (w : World) (hd : Dig w g l) (hl : l.length ≤ 100) :
    Calls Try.prog 113 #[.pointer (some ⟨g, 0, none⟩), .int .u8 x] w (Added g (l ++ [c]) w) := by
  obtain ⟨A, k, hb, hown⟩ := hd
  obtain ⟨i0, hi, hz0, hz1, hz2⟩ := info_parts info_u8
  have hg := lt_of_block hb
  have hc := cell_of_one hb
  have hf := free_of_one hb
  have HX := Lib.hid hx
  clear hx
  go_enter Try.func113, Try.ntmps113
  go_wp2_with
    (at_builtin
     refine wpApp rfl (.tmp 8) (.tmp 10) _ rfl (g + 1) 5 i0 _ 1 1 Try.underlying80 hi hz0 hz1 hz2 rfl (by omega) _ l.length (l.map u8v) rfl (hown.alloc _) (some ⟨w.heap.size, 0, none⟩) 1 1 [.int .u8 x] rfl (one_new _ _ _) rfl (by simp [Value.oneCell']) (by unfold maxLen; omega) (by omega) (by simp; omega) ?_
     intro v1 w1 hown1 hb1
     obtain ⟨A1, k1, rfl, _, _, _, _, _⟩ := own_form hown1 (by omega)
     have hb1' : Below (g + 1) w w1 := ((Below.refl _ _).alloc (by omega) _).trans hb1
     have c1 : w1.heap[g]? = some (.cells #[.slice A l.length k] 148 (0, 0)) := (hb1'.block g (by omega)).trans hb
     have c2 := cell_of_one c1
     have c3 := free_of_one c1
     clear hc hf)
  go_end0
  refine ⟨rfl, ⟨A1, k1, ?_, ?_⟩, (hb1'.mono (by omega)).setCell (by simp) _⟩
  · have h := one_setCell (u := .slice A1 (l.length + 1) k1) c1
    simpa using h
  · have h := ownsRow_setCell_other (a := ⟨g, 0, none⟩) hown1 (own_above hown1) (.slice A1 (l.length + 1) k1)
    simpa [HX.out] using h

/-- A power of the base that is 1 or not above n. -/
def Pow (n m : Nat) : Prop := ∃ k, m = 128 ^ k ∧ (k = 0 ∨ 128 ^ k ≤ n)
theorem pow_one (n : Nat) : Pow n 1 := ⟨0, rfl, .inl rfl⟩
theorem pow_pos {n m : Nat} (h : Pow n m) : 1 ≤ m := by
  obtain ⟨k, rfl, _⟩ := h
  exact Nat.pow_pos (by omega)
theorem pow_bd {n m : Nat} (h : Pow n m) (hn : n < 18446744073709551616) : (m : Int) ≤ 18446744073709551615 := by
  obtain ⟨k, rfl, hk⟩ := h
  rcases hk with hk | hk
  · subst hk; simp
  · omega
theorem pow_up {n m : Nat} (h : Pow n m) (hq : 128 ≤ n / m) : Pow n (m * 128) ∧ m * 128 ≤ n := by
  have hp := pow_pos h
  have hle : 128 * m ≤ n := (Nat.le_div_iff_mul_le (by omega)).1 hq
  obtain ⟨k, rfl, _⟩ := h
  exact ⟨⟨k + 1, by rw [Nat.pow_succ], .inr (by rw [Nat.pow_succ]; omega)⟩, by omega⟩
theorem pow_down {n m : Nat} (h : Pow n m) (h1 : 1 < m) : Pow n (m / 128) ∧ n / m ≠ 0 ∧ m / 128 * 128 = m ∧ m / 128 < m := by
  obtain ⟨k, rfl, hk⟩ := h
  match k, h1, hk with
  | 0, h1, _ => simp at h1
  | k + 1, h1, hk =>
    have hle : 128 ^ (k + 1) ≤ n := by
      rcases hk with hk | hk
      · omega
      · exact hk
    have hp : 1 ≤ 128 ^ k := Nat.pow_pos (by omega)
    have e : 128 ^ (k + 1) / 128 = 128 ^ k := by rw [Nat.pow_succ]; omega
    have hne : n / 128 ^ (k + 1) ≠ 0 := by
      have h1 : 0 < 128 ^ (k + 1) := Nat.pow_pos (by omega)
      have := Nat.div_pos hle h1
      omega
    rw [e]
    refine ⟨⟨k, rfl, .inr ?_⟩, hne, by rw [Nat.pow_succ], ?_⟩
    · rw [Nat.pow_succ] at hle; omega
    · rw [Nat.pow_succ]; omega
theorem hi_next {n m : Nat} (h : Pow n m) (h1 : 1 < m) : hi (n / (m / 128 * 128)) = hi (n / (m * 128)) ++ [UInt8.ofNat (n / m % 128 + 128)] := by
  obtain ⟨_, h2, h3, _⟩ := pow_down h h1
  rw [h3, hi_pos h2, Nat.div_div_eq_div_mul]
theorem ofNat_val {c : Nat} (h : c < 256) : (UInt8.ofNat c).toNat = c := by rw [UInt8.toNat_ofNat']; omega
theorem Added.next {g : Nat} {l : List UInt8} {w w1 w2 : World} {e : Ending} (hb : Below g w w1) (h : Added g l w1 e w2) : Dig w2 g l ∧ Below g w w2 := ⟨h.2.1, hb.trans h.2.2⟩
theorem enc_hi_len (n m : Nat) (hn : n < 18446744073709551616) : (hi (n / m)).length ≤ 10 := by
  refine hi_len 10 _ ?_
  have h := Nat.div_le_self n m
  have e : (128 : Nat) ^ 10 = 1180591620717411303424 := by decide
  omega

theorem quo_bd (n m : Nat) : 0 ≤ (n : Int) / (m : Int) ∧ (n : Int) / (m : Int) ≤ n := ⟨Int.ediv_nonneg (by omega) (by omega), Int.ediv_le_self _ (by omega)⟩
theorem u8_arg (a : Nat) : ((UInt8.ofNat (a % 128 + 128)).toNat : Int) = (a : Int) % 128 + 128 := by rw [ofNat_val (by omega)]; omega
theorem u8_arg0 (a : Nat) : ((UInt8.ofNat (a % 128)).toNat : Int) = (a : Int) % 128 := by rw [ofNat_val (by omega)]; omega
set_option maxRecDepth 100000 in
set_option maxHeartbeats 400000 in
theorem vlqWrite (n : Nat) (hn : n < 18446744073709551616) (g : Nat) (w : World) (hd : Dig w g []) :
    Calls Try.prog 112 #[.int .u64 n, .func (.func 113) #[.pointer (some ⟨g, 0, none⟩)] #[]] w (Added g (enc n) w) := by
  have hn' : (n : Int) ≤ 18446744073709551615 := by omega
  go_enter Try.func112, Try.ntmps112
  go_wp2_with fail
  go_loop [4] (fun u => ∃ m : Nat, Pow n m ∧ u = .int .u64 m) (fun u => n - (intOf u).toNat)
  case atStart => exact ⟨1, pow_one n, rfl⟩
  case round =>
    obtain ⟨m, hm, rfl⟩ := hrel
    have hp := pow_pos hm
    have hz : ((m : Int) == 0) = false := by simp; omega
    obtain ⟨hq0, hq1⟩ := quo_bd n m
    by_cases hq : 128 ≤ n / m
    · obtain ⟨hu, hle⟩ := pow_up hm hq
      have hq' : (128 : Int) ≤ (n : Int) / (m : Int) := by exact_mod_cast hq
      have hle' : (m : Int) * 128 ≤ n := by exact_mod_cast hle
      clear hq hle
      go_wp2_with fail
      go_round
      case rel => exact ⟨m * 128, hu, by go_num⟩
      case measure => simp [intOf]; omega
    · have hq' : (n : Int) / (m : Int) < 128 := by
        have : n / m < 128 := by omega
        exact_mod_cast this
      have hd0 : Dig w g (hi (n / (m * 128))) := by
        have e : n / (m * 128) = 0 := by
          rw [← Nat.div_div_eq_div_mul]
          omega
        rw [e, hi_zero]; exact hd
      clear hd
      go_wp2_with fail
      go_loopw [4] (fun u wr => ∃ m : Nat, Pow n m ∧ u = .int .u64 m ∧ Dig wr g (hi (n / (m * 128))) ∧ Below g w wr) (fun u _ => (intOf u).toNat)
      case atStart => exact ⟨m, hm, rfl, hd0, Below.refl _ _⟩
      case round =>
        clear hm hp hq hq' hd0 hz hq0 hq1
        obtain ⟨m, hm, rfl, hd, hb⟩ := hrel
        have hp := pow_pos hm
        have hp2 := pow_bd hm hn
        have hz : ((m : Int) == 0) = false := by simp; omega
        obtain ⟨hq0, hq1⟩ := quo_bd n m
        by_cases h1 : 1 < m
        · obtain ⟨a1, a2, a3, a4⟩ := pow_down hm h1
          have hle := enc_hi_len n (m * 128) hn
          have hx := u8_arg (n / m)
          rw [Int.natCast_ediv] at hx
          have hnx := hi_next hm h1
          have HX := Lib.hid hx.symm
          have HN := Lib.hid hnx
          clear a2 a3 hx hnx
          go_wp2_with fail
          refine (vlqAdd g _ _ _ HX.out _ hd (by omega)).mono ?_
          intro e w2 h2
          have hd2 := (h2.next hb)
          obtain ⟨rfl, _, _⟩ := h2
          rw [← HN.out] at hd2
          clear hd hb
          go_wp2_with fail
          go_roundw
          case rel => exact ⟨m / 128, a1, by go_num, hd2.1, hd2.2⟩
          case measure => simp [intOf]; omega
        · obtain rfl : m = 1 := by omega
          have hx := u8_arg0 n
          have HX := Lib.hid hx.symm
          have hle := enc_hi_len n 128 hn
          clear hx
          rw [Nat.one_mul] at hd
          go_wp2_with fail
          refine (vlqAdd g _ _ _ HX.out _ hd (by omega)).mono ?_
          intro e w2 h2
          have hd2 := (h2.next hb)
          obtain ⟨rfl, _, _⟩ := h2
          clear hd hb
          go_wp2_with fail
          go_end0
          exact ⟨rfl, hd2.1, hd2.2⟩

/-- What a call of the number's writer leaves: the string of the digits; all that was stays. -/
def IsStr (l : List UInt8) (w : World) (e : Ending) (w' : World) : Prop := e = .returned (.string ⟨l.toArray⟩) ∧ Below w.heap.size w w'
theorem run_row_str {P : Program} {w : World} {A : Option Addr} {c : Nat} {l : List UInt8} {src dst e : TypeId} (hs : P.underlying src = some (.slice e)) (he : P.underlying e = some (.int .u8)) (hd : P.underlying dst = some .string)
    (h : Row w A (l.map u8v)) : (convert src dst (.slice A l.length c)).run P w = .ok (.string ⟨l.toArray⟩) w := by
  cases A with
  | none =>
    have hl : l = [] := by
      rcases h with h | ⟨_, _, h, _⟩
      · simpa using h
      · cases h
    subst hl
    exact Lib.run_convert_nil_bytes w src dst e c hs he hd
  | some a =>
    refine run_convert_bytes_back w src dst e a c l hs he hd fun j hj => ?_
    obtain ⟨b, off, ha, hc⟩ := h.at_ (k := j) (by simpa using hj)
    cases ha
    rw [Go.WideShapes.add_plain, hc]
    simp
theorem vlqEncode (n : Nat) (hn : n < 18446744073709551616) (w : World) : Calls Try.prog 82 #[.int .u64 n] w (IsStr (enc n) w) := by
  have hd : Dig (w.alloc (.cells #[.slice none 0 0] 148)) w.heap.size [] := ⟨none, 0, heap_alloc_new w _, own_none⟩
  go_enter Try.func82, Try.ntmps82
  go_wp2_with fail
  refine (vlqWrite n hn _ _ hd).mono ?_
  rintro e w2 ⟨rfl, h2, hb2⟩
  obtain ⟨A, k, hb, hown⟩ := h2
  have hc := cell_of_one hb
  obtain ⟨A', k', he, _, _, _, hr, _⟩ := own_form hown (by omega)
  cases he
  have hcv := run_row_str (P := Try.prog) (c := k) Try.underlying80 Try.underlying5 Try.underlying9 hr
  clear hb hown
  go_wp2_with fail
  go_ret
  exact ⟨rfl, ((Below.refl _ _).alloc (Nat.le_refl _) _).trans hb2⟩
end Go.Proofs.Ythfbcfddfbipfaa
