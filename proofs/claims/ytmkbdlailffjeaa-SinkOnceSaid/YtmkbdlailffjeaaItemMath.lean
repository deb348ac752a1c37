/- Items as plain data: which may be, which bytes they are. -/
import Derived.Test.YtmkbdlailffjeaaVlqMath
namespace Go.Proofs.Ytmkbdlailffjeaa
set_option linter.unusedVariables false
set_option maxRecDepth 8000
namespace Itm
/-- An item, field by field. -/
structure It where
  k : Int
  ek : ByteArray
  ea : Int
  ev : Int
  m : Int
  n : Int
  lo : Int
  hi : Int
  rk : ByteArray
  rn : Int
  rv : Int
abbrev no : ByteArray := ⟨#[]⟩
def eqS (a b : ByteArray) : Bool := a.toList == b.toList
/-- From lo to hi. -/
def wn (n lo hi : Int) : Bool := decide (lo ≤ n ∧ n ≤ hi)
theorem wn_true {n lo hi : Int} (h1 : lo ≤ n) (h2 : n ≤ hi) : wn n lo hi = true := decide_eq_true ⟨h1, h2⟩
theorem wn_lo {n lo hi : Int} (h : ¬ lo ≤ n) : wn n lo hi = false := decide_eq_false fun g => h g.1
theorem wn_hi {n lo hi : Int} (h : ¬ n ≤ hi) : wn n lo hi = false := decide_eq_false fun g => h g.2
def okKey (s : ByteArray) : Bool := wn s.size 1 16
def okEv (k : ByteArray) (a : Int) : Bool := okKey k && wn a 0 1099511627775
def okRes (k : ByteArray) (lo hi n : Int) : Bool := okKey k && decide (0 ≤ lo) && decide (lo < hi) && decide (hi ≤ 1099511627776) && wn n 1 1073741824
def eqE (k k' : ByteArray) (a v a' v' : Int) : Bool := eqS k k' && (a == a') && (v == v')
def eqR (k k' : ByteArray) (lo hi n v lo' hi' n' v' : Int) : Bool := (lo == lo') && (hi == hi') && eqS k k' && (n == n') && (v == v')
def eqI (a b : It) : Bool := (a.k == b.k) && eqE a.ek b.ek a.ea a.ev b.ea b.ev && (a.m == b.m) && (a.n == b.n) && eqR a.rk b.rk a.lo a.hi a.rn a.rv b.lo b.hi b.rn b.rv
abbrev bare (k : Int) : It := ⟨k, no, 0, 0, 0, 0, 0, 0, no, 0, 0⟩
/-- The value of an item, of an event, of a result. -/
abbrev evC (k : ByteArray) (a v : Int) : Array Value := #[.string k, .int .i64 a, .int .i64 v]
abbrev evV (k : ByteArray) (a v : Int) : Value := .agg (evC k a v)
abbrev resC (lo hi : Int) (k : ByteArray) (n v : Int) : Array Value := #[.int .i64 lo, .int .i64 hi, .string k, .int .i64 n, .int .i64 v]
abbrev resV (lo hi : Int) (k : ByteArray) (n v : Int) : Value := .agg (resC lo hi k n v)
abbrev itC (a : It) : Array Value := #[.int .i64 a.k, .string a.ek, .int .i64 a.ea, .int .i64 a.ev, .int .i64 a.m, .int .i64 a.n, .int .i64 a.lo, .int .i64 a.hi, .string a.rk, .int .i64 a.rn, .int .i64 a.rv]
abbrev itV (a : It) : Value := .agg (itC a)
def right (a : It) : Bool :=
  if a.k = 1 then okEv a.ek a.ea && eqI a { bare 1 with ek := a.ek, ea := a.ea, ev := a.ev }
  else if a.k = 2 then wn a.m 0 1099511627776 && eqI a { bare 2 with m := a.m }
  else if a.k = 3 then eqI a (bare 3)
  else if a.k = 4 then wn a.n 1 1073741824 && eqI a { bare 4 with n := a.n }
  else if a.k = 5 then okRes a.rk a.lo a.hi a.rn && eqI a { bare 5 with lo := a.lo, hi := a.hi, rk := a.rk, rn := a.rn, rv := a.rv }
  else false
end Itm
end Go.Proofs.Ytmkbdlailffjeaa
