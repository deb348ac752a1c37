/- Contract of what writes a result. -/
import Derived.Test.YtgbklmncfajcgaaItemPut
namespace Go.Proofs.Ytgbklmncfajcgaa
open Go.RowKit
open Itm Vlq
set_option linter.unusedVariables false
set_option maxRecDepth 8000
theorem keepB5 {W a b : World} {p0 p1 p2 p3 p4 : Addr} {u0 u1 u2 u3 u4 : Value} (hb : Below a.heap.size a b)
    (h : a.cell? p0 = some u0 ∧ a.cell? p1 = some u1 ∧ a.cell? p2 = some u2 ∧ a.cell? p3 = some u3 ∧ a.cell? p4 = some u4 ∧ Below W.heap.size W a) :
    b.cell? p0 = some u0 ∧ b.cell? p1 = some u1 ∧ b.cell? p2 = some u2 ∧ b.cell? p3 = some u3 ∧ b.cell? p4 = some u4 ∧ Below W.heap.size W b :=
  ⟨keep1 hb h.1, keep1 hb h.2.1, keep1 hb h.2.2.1, keep1 hb h.2.2.2.1, keep1 hb h.2.2.2.2.1, below_next h.2.2.2.2.2 hb⟩
theorem res_box (lo hi : Int) (k : ByteArray) (n v : Int) (w : World) (t : TypeId) : Below w.heap.size w (w.alloc (.cells (resC lo hi k n v) t)) ∧ (w.alloc (.cells (resC lo hi k n v) t)).cell? ⟨w.heap.size, 0, none⟩ = some (.int .i64 lo) ∧ (w.alloc (.cells (resC lo hi k n v) t)).cell? ⟨w.heap.size, 1, none⟩ = some (.int .i64 hi) ∧ (w.alloc (.cells (resC lo hi k n v) t)).cell? ⟨w.heap.size, 2, none⟩ = some (.string k) ∧ (w.alloc (.cells (resC lo hi k n v) t)).cell? ⟨w.heap.size, 3, none⟩ = some (.int .i64 n) ∧ (w.alloc (.cells (resC lo hi k n v) t)).cell? ⟨w.heap.size, 4, none⟩ = some (.int .i64 v) := by
  refine ⟨below_al (Below.refl _ _), ?_, ?_, ?_, ?_, ?_⟩
  all_goals (unfold World.cell?; rw [show (w.alloc (.cells (resC lo hi k n v) t)).heap[w.heap.size]? = _ from heap_alloc_new w _]; rfl)
end Go.Proofs.Ytgbklmncfajcgaa
