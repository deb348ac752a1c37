/- Contracts of Put and of the reference's bytes. -/
import Derived.Test.YtgbklmncfajcgaaItemPutRes
namespace Go.Proofs.Ytgbklmncfajcgaa
open Go.RowKit
open Itm Vlq
set_option linter.unusedVariables false
set_option maxRecDepth 8000
/-- The item lies in block g. -/
def Box (g : Nat) (a : It) (w : World) : Prop := ∀ (j : Nat) (v : Value), (itC a)[j]? = some v → w.cell? ⟨g, j, none⟩ = some v
theorem Box.keep {g : Nat} {a : It} {u w : World} (h : Box g a u) (hb : Below u.heap.size u w) : Box g a w := fun j v hv => keep1 hb (h j v hv)
theorem Box.cells {g : Nat} {a : It} {w : World} (h : Box g a w) : w.cell? ⟨g, 0, none⟩ = some (.int .i64 a.k) ∧ w.cell? ⟨g, 1, none⟩ = some (.string a.ek) ∧ w.cell? ⟨g, 2, none⟩ = some (.int .i64 a.ea) ∧ w.cell? ⟨g, 3, none⟩ = some (.int .i64 a.ev) ∧ w.cell? ⟨g, 4, none⟩ = some (.int .i64 a.m) ∧ w.cell? ⟨g, 5, none⟩ = some (.int .i64 a.n) ∧ w.cell? ⟨g, 6, none⟩ = some (.int .i64 a.lo) ∧ w.cell? ⟨g, 7, none⟩ = some (.int .i64 a.hi) ∧ w.cell? ⟨g, 8, none⟩ = some (.string a.rk) ∧ w.cell? ⟨g, 9, none⟩ = some (.int .i64 a.rn) ∧ w.cell? ⟨g, 10, none⟩ = some (.int .i64 a.rv) :=
  ⟨h 0 _ rfl, h 1 _ rfl, h 2 _ rfl, h 3 _ rfl, h 4 _ rfl, h 5 _ rfl, h 6 _ rfl, h 7 _ rfl, h 8 _ rfl, h 9 _ rfl, h 10 _ rfl⟩
theorem box_new (a : It) (w : World) (t : TypeId) : Box w.heap.size a (w.alloc (.cells (itC a) t)) := fun j v hv => by
  unfold World.cell?
  rw [show (w.alloc (.cells (itC a) t)).heap[w.heap.size]? = _ from heap_alloc_new w _]
  exact hv
/-- The bytes of an item that may be. -/
def itB (a : It) : List UInt8 := enc a.k.toNat ++ (if a.k = 1 then evB a.ek a.ea a.ev else if a.k = 2 then enc a.m.toNat else if a.k = 4 then enc a.n.toNat else if a.k = 5 then resB a.rk a.lo a.hi a.rn a.rv else [])
/-- Its numbers are such as an int64 has. -/
structure Fits (a : It) : Prop where
  ev0 : -9223372036854775808 ≤ a.ev
  ev1 : a.ev ≤ 9223372036854775807
  rv0 : -9223372036854775808 ≤ a.rv
  rv1 : a.rv ≤ 9223372036854775807
theorem wn_iff {n lo hi : Int} : wn n lo hi = true ↔ lo ≤ n ∧ n ≤ hi := by unfold wn; exact decide_eq_true_iff
theorem key_le {k : ByteArray} (h : okKey k = true) : k.size ≤ 16 := by have := (wn_iff.1 h).2; omega
theorem ev_parts {k : ByteArray} {a : Int} (h : okEv k a = true) : k.size ≤ 16 ∧ 0 ≤ a ∧ a ≤ 1099511627775 := by
  unfold okEv at h
  rw [Bool.and_eq_true] at h
  exact ⟨key_le h.1, wn_iff.1 h.2⟩
theorem res_parts {k : ByteArray} {lo hi n : Int} (h : okRes k lo hi n = true) : k.size ≤ 16 ∧ 0 ≤ lo ∧ lo < hi ∧ hi ≤ 1099511627776 ∧ 1 ≤ n ∧ n ≤ 1073741824 := by
  unfold okRes at h
  simp only [Bool.and_eq_true, decide_eq_true_eq] at h
  obtain ⟨⟨⟨⟨h1, h2⟩, h3⟩, h4⟩, h5⟩ := h
  exact ⟨key_le h1, h2, h3, h4, wn_iff.1 h5⟩
/-- What an item that may be is like. -/
theorem right_parts {a : It} (h : right a = true) : (a.k = 1 ∧ okEv a.ek a.ea = true) ∨ (a.k = 2 ∧ 0 ≤ a.m ∧ a.m ≤ 1099511627776) ∨ a.k = 3 ∨ (a.k = 4 ∧ 1 ≤ a.n ∧ a.n ≤ 1073741824) ∨ (a.k = 5 ∧ okRes a.rk a.lo a.hi a.rn = true) := by
  unfold right at h
  split at h
  · rw [Bool.and_eq_true] at h; exact .inl ⟨by assumption, h.1⟩
  · split at h
    · rw [Bool.and_eq_true] at h; exact .inr (.inl ⟨by assumption, wn_iff.1 h.1⟩)
    · split at h
      · exact .inr (.inr (.inl (by assumption)))
      · split at h
        · rw [Bool.and_eq_true] at h; exact .inr (.inr (.inr (.inl ⟨by assumption, wn_iff.1 h.1⟩)))
        · split at h
          · rw [Bool.and_eq_true] at h; exact .inr (.inr (.inr (.inr ⟨by assumption, h.1⟩)))
          · cases h
end Go.Proofs.Ytgbklmncfajcgaa
