/- Contracts of what writes items, of package item and of the reference. -/
import Derived.Test.YtgbklmncfajcgaaItemOk
import Derived.Test.YtgbklmncfajcgaaVlqPut
namespace Go.Proofs.Ytgbklmncfajcgaa
open Go.RowKit
open Itm Vlq
set_option linter.unusedVariables false
set_option maxRecDepth 8000
theorem cat2 (l r : List UInt8) : (⟨l.toArray⟩ : ByteArray) ++ ⟨r.toArray⟩ = ⟨(l ++ r).toArray⟩ := cat_eq l _
theorem keep1 {a b : World} {p : Addr} {u : Value} (hb : Below a.heap.size a b) (h : a.cell? p = some u) : b.cell? p = some u := (hb.cell (lt_of_cell h)).trans h
/-- The bytes of an event, of a result. -/
def evB (k : ByteArray) (a v : Int) : List UInt8 := (enc k.size ++ sl k) ++ enc a.toNat ++ enc (zz v)
def resB (k : ByteArray) (lo hi n v : Int) : List UInt8 := (enc k.size ++ sl k) ++ enc lo.toNat ++ enc hi.toNat ++ enc n.toNat ++ enc (zz v)
/-- A call gives a string of these bytes, no longer than that. -/
def Gvs (S : ByteArray) (w : World) (e : Ending) (w' : World) : Prop := e = .returned (.string S) ∧ Below w.heap.size w w'
structure Gives1 (f : FuncId) (v : Value) (S : ByteArray) : Prop where
  run : ∀ w, Calls Try.prog f #[v] w (Gvs S w)
def Str (f : FuncId) (v : Value) (l : List UInt8) (n : Nat) : Prop := ∃ S : ByteArray, sl S = l ∧ S.size ≤ n ∧ Gives1 f v S
theorem str_of {f : FuncId} {v : Value} {l : List UInt8} {n : Nat} (hl : l.length ≤ n) (h : ∀ w, Calls Try.prog f #[v] w (IsStr l w)) : Str f v l n :=
  ⟨⟨l.toArray⟩, rfl, by rw [Lib.size_eq]; exact hl, ⟨h⟩⟩
theorem txt_len {s : ByteArray} (h : s.size ≤ 16) : (enc s.size ++ sl s).length ≤ 26 := by
  have h1 := enc_len s.size (by omega)
  have h2 : (sl s).length = s.size := by simp [sl]
  rw [List.length_append]; omega
theorem sl_cat (a b : ByteArray) : sl (a ++ b) = sl a ++ sl b := by
  show (a ++ b).data.toList = _
  rw [ByteArray.data_append, Array.toList_append]
theorem of_sl {a : ByteArray} {l : List UInt8} (h : sl a = l) : a = ⟨l.toArray⟩ := by subst h; rfl
theorem add_run {a b : ByteArray} (h : a.size + b.size ≤ 100000) (w : World) : (Op.stringOp .add a b).run Try.prog w = .ok (.string (a ++ b)) w := run_string_add_sum (P := Try.prog) w a b (by omega)
theorem app_le {a b : ByteArray} {n m : Nat} (h1 : a.size ≤ n) (h2 : b.size ≤ m) : (a ++ b).size ≤ n + m := by rw [ByteArray.size_append]; omega
theorem ev_box (k : ByteArray) (a v : Int) (w : World) (t : TypeId) : Below w.heap.size w (w.alloc (.cells (evC k a v) t)) ∧ (w.alloc (.cells (evC k a v) t)).cell? ⟨w.heap.size, 0, none⟩ = some (.string k) ∧
    (w.alloc (.cells (evC k a v) t)).cell? ⟨w.heap.size, 1, none⟩ = some (.int .i64 a) ∧ (w.alloc (.cells (evC k a v) t)).cell? ⟨w.heap.size, 2, none⟩ = some (.int .i64 v) := by
  refine ⟨below_al (Below.refl _ _), ?_, ?_, ?_⟩
  all_goals (unfold World.cell?; rw [show (w.alloc (.cells (evC k a v) t)).heap[w.heap.size]? = _ from heap_alloc_new w _]; rfl)
theorem keepB3 {W a b : World} {p0 p1 p2 : Addr} {u0 u1 u2 : Value} (hb : Below a.heap.size a b) (h : a.cell? p0 = some u0 ∧ a.cell? p1 = some u1 ∧ a.cell? p2 = some u2 ∧ Below W.heap.size W a) :
    b.cell? p0 = some u0 ∧ b.cell? p1 = some u1 ∧ b.cell? p2 = some u2 ∧ Below W.heap.size W b :=
  ⟨keep1 hb h.1, keep1 hb h.2.1, keep1 hb h.2.2.1, below_next h.2.2.2 hb⟩
end Go.Proofs.Ytgbklmncfajcgaa
