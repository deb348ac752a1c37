/- A line of two numbers, as the code reads it. -/
import Derived.Test.YtileonenphmkkaaDoorJobLine
namespace Go.Proofs.YtileonenphmkkaaDoor
open Go.RowKit
set_option linter.unusedVariables false
set_option maxRecDepth 8000
namespace Jo
open Gen
abbrev arC (n m : Nat) : Array Value := #[.int .i64 (n : Int), .int .i64 (m : Int)]
abbrev arV (n m : Nat) : Value := .agg (arC n m)
theorem Sta.up {w0 w w' : World} {b : Nat} {x : Option (List UInt8)} {k : Nat} (h : Sta w0 b x k w) (hb : Below w.heap.size w w') : Sta w0 b x k w' :=
  h.mine (M := fun _ => False) (Mine.up hb) (fun h => h) (fun _ h => h.elim)
theorem Sta.lt {w0 w : World} {b : Nat} {x : Option (List UInt8)} {k : Nat} (h : Sta w0 b x k w) : b < w.heap.size := by
  cases x with
  | none => obtain ⟨s, h⟩ := h; exact lt_of_block h.st
  | some s => exact lt_of_block (Good.st h)
theorem Sta.lo {w0 w : World} {b : Nat} {x : Option (List UInt8)} {k : Nat} (h : Sta w0 b x k w) : w0.heap.size ≤ b ∧ Below w0.heap.size w0 w := by
  cases x with
  | none => obtain ⟨s, h⟩ := h; exact ⟨h.wh.lo, h.wh.bl⟩
  | some s => exact ⟨(Good.wh h).lo, (Good.wh h).bl⟩
/-- The place of a new block is stored to. -/
theorem Sta.set2 {w0 w : World} {b : Nat} {x : Option (List UInt8)} {k : Nat} (h : Sta w0 b x k w) {rb : Nat} (hr : rb ≠ b) (hl : w0.heap.size ≤ rb) (i j : Nat) (u v : Value) :
    Sta w0 b x k ((w.setCell ⟨rb, i, none⟩ u).setCell ⟨rb, j, none⟩ v) :=
  h.mine (M := (· = rb)) (mine_set2 i j u v) (fun e => hr e.symm) (fun k hk => hk ▸ hl)
theorem mine_new2 {b rb : Nat} {w w' : World} (h : Mine (· = b) w w') (hr : w.heap.size ≤ rb) (i j : Nat) (u v : Value) : Mine (· = b) w ((w'.setCell ⟨rb, i, none⟩ u).setCell ⟨rb, j, none⟩ v) :=
  (h.set_new (a := ⟨rb, i, none⟩) hr u).set_new (a := ⟨rb, j, none⟩) hr v
/-- Two numbers handed back. -/
def Two (w0 : World) (b : Nat) (x y : Option (Nat × List UInt8)) (k : Nat) (w : World) (e : Ending) (w' : World) : Prop :=
  ∃ n m : Nat, e = .returned (arV n m) ∧ n ≤ 9223372036854775807 ∧ m ≤ 9223372036854775807 ∧ (∀ a r, x = some (a, r) → n = a) ∧ (∀ a r, y = some (a, r) → m = a) ∧ Sta w0 b (y.map (·.2)) k w' ∧ Mine (· = b) w w'
theorem pair_ret {n m : Nat} {rb : Nat} {w : World} {act : Act} {Q : Ending → World → Prop} (ht : act.tmps.getD 2 undef = .pointer (some ⟨rb, 0, none⟩)) (hd : act.defers = []) (hl : Lies rb (arC n m) 68 w) (h : Q (.returned (arV n m)) w) :
    bodyPost Tryd.prog Tryd.f40 Q Exit.ret act w := by
  have c0 : w.cell? ⟨rb, 0, none⟩ = some (.int .i64 (n : Int)) := hl.cell (j := 0) rfl
  have c1 : w.cell? ⟨rb, 1, none⟩ = some (.int .i64 (m : Int)) := hl.cell (j := 1) rfl
  have ht2 : act.tmps[2]?.getD undef = .pointer (some ⟨rb, 0, none⟩) := by simpa using ht
  exact bodyPost_ret (v := arV n m) (by simp [results, Tryd.results40, go_sem, ht2, c0, c1]) hd h
theorem lies2 {rb : Nat} {w : World} {C : Array Value} {T : TypeId} (h : Lies rb C T w) (hC : C.size = 2) (u v : Value) : Lies rb #[u, v] T ((w.setCell ⟨rb, 0, none⟩ u).setCell ⟨rb, 1, none⟩ v) := by
  have h2 := (h.set 0 u).set 1 v
  obtain ⟨l⟩ := C
  match l, hC with
  | [a, b], _ => simpa using h2
set_option maxHeartbeats 2000000 in
theorem sPair (w0 : World) (b : Nat) (x : Option (List UInt8)) (k : Nat) (w : World) (h : Sta w0 b x k w) :
    Calls Tryd.prog 40 #[.pointer (some ⟨b, 0, none⟩)] w (Two w0 b (nu x) (nu (sk [32] ((nu x).map (·.2)))) k w) := by
  have HS := Lib.hid (fun x t w h => sSkip w0 b x t k w h)
  have HN := Lib.hid (fun x w h => sNumber w0 b x k w h)
  obtain ⟨y1, hy1⟩ : ∃ y, y = nu x := ⟨_, rfl⟩
  obtain ⟨y2, hy2⟩ : ∃ y, y = sk [32] (y1.map (·.2)) := ⟨_, rfl⟩
  obtain ⟨y3, hy3⟩ : ∃ y, y = nu y2 := ⟨_, rfl⟩
  rw [← hy1, ← hy2, ← hy3]
  have Y1 := Lib.hid hy1
  have Y2 := Lib.hid hy2
  have Y3 := Lib.hid hy3
  have S0 := Lib.hid (h.up (below_al (o := .cells #[.int .i64 0, .int .i64 0] 68) (Below.refl w.heap.size w)))
  have HLo := Lib.hid (And.intro h.lo h.lt)
  have L0 := Lib.hid (Lies.new w #[.int .i64 0, .int .i64 0] 68)
  clear hy1 hy2 hy3 h
  go_enter Tryd.func40, Tryd.ntmps40
  go_wp2_with fail
  refine (HN.out _ _ S0.out).mono ?_
  rintro e w1 ⟨n, rfl, hn, hv, s1, m1⟩
  rw [← Y1.out] at s1 hv
  have S1 := Lib.hid s1
  have M1 := Lib.hid ((Mine.up (M := (· = b)) (below_al (o := .cells #[.int .i64 0, .int .i64 0] 68) (Below.refl w.heap.size w))).trans m1)
  have L1 := Lib.hid (m1.lies L0.out (fun e => by have := HLo.out.2; omega))
  have NV := Lib.hid (And.intro hn hv)
  clear s1 m1 hn hv
  go_wp2_with fail
  refine (HS.out _ _ _ S1.out).mono ?_
  rintro e w2 ⟨rfl, s2, m2⟩
  rw [← Y2.out] at s2
  have S2 := Lib.hid s2
  have M2 := Lib.hid (M1.out.trans m2)
  have L2 := Lib.hid (m2.lies L1.out (fun e => by have := HLo.out.2; omega))
  clear s2 m2
  go_wp2_with fail
  refine (HN.out _ _ S2.out).mono ?_
  rintro e w3 ⟨m, rfl, hm, hv, s3, m3⟩
  rw [← Y3.out] at s3 hv
  have S3 := Lib.hid s3
  have M3 := Lib.hid (M2.out.trans m3)
  have L3 := Lib.hid (m3.lies L2.out (fun e => by have := HLo.out.2; omega))
  have MV := Lib.hid (And.intro hm hv)
  have z0 := L3.out.cell (j := 0) rfl
  have z1 := L3.out.cell (j := 1) rfl
  have f0 := L3.out.free 0
  have f1 := L3.out.free 1
  clear s3 m3 hm hv
  go_wp2_with fail
  refine pair_ret (n := n) (m := m) (rb := w.heap.size) rfl rfl ?_ ?_
  · exact lies2 L3.out rfl _ _
  · refine ⟨n, m, rfl, NV.out.1, MV.out.1, NV.out.2, MV.out.2, ?_, ?_⟩
    · exact S3.out.set2 (by have := HLo.out.2; omega) (by have := HLo.out; omega) _ _ _ _
    · exact mine_new2 M3.out (Nat.le_refl _) _ _ _ _
end Jo
end Go.Proofs.YtileonenphmkkaaDoor
