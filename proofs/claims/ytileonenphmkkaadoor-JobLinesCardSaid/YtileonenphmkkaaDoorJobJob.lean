/- All six lines, as the code reads them. -/
import Derived.Test.YtileonenphmkkaaDoorJobLine3
import Derived.Test.YtileonenphmkkaaDoorStill
namespace Go.Proofs.YtileonenphmkkaaDoor
open Go.RowKit
set_option linter.unusedVariables false
set_option maxRecDepth 8000
namespace Jo
open Gen
def y1 (s : List UInt8) : Option (Nat × List UInt8) := (some s).bind (ln1 wGroups)
def x1 (s : List UInt8) : Option (List UInt8) := (y1 s).map (·.2)
def y2 (s : List UInt8) : Option (Nat × Nat × List UInt8) := (x1 s).bind (ln2 wWindow)
def x2 (s : List UInt8) : Option (List UInt8) := (y2 s).map (·.2.2)
def y3 (s : List UInt8) : Option (Nat × List UInt8) := (x2 s).bind lnF
def x3 (s : List UInt8) : Option (List UInt8) := (y3 s).map (·.2)
def y4 (s : List UInt8) : Option (Nat × Nat × List UInt8) := (x3 s).bind (ln2 wLoop)
def x4 (s : List UInt8) : Option (List UInt8) := (y4 s).map (·.2.2)
def y5 (s : List UInt8) : Option (Nat × List UInt8) := (x4 s).bind (ln1 wDelay)
def x5 (s : List UInt8) : Option (List UInt8) := (y5 s).map (·.2)
def y6 (s : List UInt8) : Option (Nat × List UInt8) := (x5 s).bind (ln1 wIdle)
def x6 (s : List UInt8) : Option (List UInt8) := (y6 s).map (·.2)
def k6 (s : List UInt8) : Nat := kx (x5 s) (kx (x4 s) (kx (x3 s) (kx (x2 s) (kx (x1 s) (kx (some s) 0)))))
theorem kx_le (x : Option (List UInt8)) {k n : Nat} (h : k ≤ n) : kx x k ≤ n + 1 := by unfold kx; split <;> omega
/-- What the six lines told. -/
structure Told (s : List UInt8) (n1 n2 m2 n3 n4 m4 n5 n6 : Nat) : Prop where
  t1 : ∀ a r, y1 s = some (a, r) → n1 = a
  t2 : ∀ a c r, y2 s = some (a, c, r) → n2 = a ∧ m2 = c
  t3 : ∀ a r, y3 s = some (a, r) → n3 = a
  t4 : ∀ a c r, y4 s = some (a, c, r) → n4 = a ∧ m4 = c
  t5 : ∀ a r, y5 s = some (a, r) → n5 = a
  t6 : ∀ a r, y6 s = some (a, r) → n6 = a
abbrev jbOf (n1 n2 m2 n3 n4 m4 n5 n6 : Nat) : Jb := ⟨few n1, n2, m2, n3, few m4, n4, n5, few n6⟩
def JobGot (w0 : World) (b : Nat) (s : List UInt8) (w : World) (e : Ending) (w' : World) : Prop :=
  ∃ n1 n2 m2 n3 n4 m4 n5 n6 : Nat, e = .returned (jbV (jbOf n1 n2 m2 n3 n4 m4 n5 n6)) ∧ Told s n1 n2 m2 n3 n4 m4 n5 n6 ∧ Sta w0 b (x6 s) (k6 s) w' ∧ Mine (· = b) w w'
abbrev set8 (w : World) (b : Nat) (v0 v1 v2 v3 v4 v5 v6 v7 : Value) : World :=
  (((((((w.setCell ⟨b, 0, none⟩ v0).setCell ⟨b, 1, none⟩ v1).setCell ⟨b, 2, none⟩ v2).setCell ⟨b, 3, none⟩ v3).setCell ⟨b, 4, none⟩ v4).setCell ⟨b, 5, none⟩ v5).setCell ⟨b, 6, none⟩ v6).setCell ⟨b, 7, none⟩ v7
theorem lies8 {rb : Nat} {w : World} {T : TypeId} {u0 u1 u2 u3 u4 u5 u6 u7 : Value} (h : Lies rb #[u0, u1, u2, u3, u4, u5, u6, u7] T w) (v0 v1 v2 v3 v4 v5 v6 v7 : Value) : Lies rb #[v0, v1, v2, v3, v4, v5, v6, v7] T (set8 w rb v0 v1 v2 v3 v4 v5 v6 v7) := by
  have h2 := (((((((h.set 0 v0).set 1 v1).set 2 v2).set 3 v3).set 4 v4).set 5 v5).set 6 v6).set 7 v7
  simpa using h2
theorem mine8 {b : Nat} (w : World) (v0 v1 v2 v3 v4 v5 v6 v7 : Value) : Mine (· = b) w (set8 w b v0 v1 v2 v3 v4 v5 v6 v7) := by
  have g : ∀ (w : World) (i : Nat) (v : Value), Mine (· = b) w (w.setCell ⟨b, i, none⟩ v) := fun w i v => Mine.set (M := (· = b)) w (a := ⟨b, i, none⟩) v rfl
  exact (((((((g w 0 v0).trans (g _ 1 v1)).trans (g _ 2 v2)).trans (g _ 3 v3)).trans (g _ 4 v4)).trans (g _ 5 v5)).trans (g _ 6 v6)).trans (g _ 7 v7)
theorem mine_new {b rb : Nat} {w w1 w2 : World} (h : Mine (· = b) w w1) (hr : w.heap.size ≤ rb) (h2 : Mine (· = rb) w1 w2) : Mine (· = b) w w2 := h.next (M' := (· = rb)) (fun k hk => .inr (by subst hk; exact hr)) h2
abbrev zJb : Array Value := #[.int .i64 0, .int .i64 0, .int .i64 0, .int .i64 0, .int .i64 0, .int .i64 0, .int .i64 0, .int .i64 0]
theorem job_ret {j : Jb} {rb : Nat} {w : World} {act : Act} {Q : Ending → World → Prop} (ht : act.tmps.getD 2 undef = .pointer (some ⟨rb, 0, none⟩)) (hd : act.defers = []) (hl : Lies rb (jbC j) 23 w) (h : Q (.returned (jbV j)) w) :
    bodyPost Tryd.prog Tryd.f23 Q Exit.ret act w := by
  have c0 : w.cell? ⟨rb, 0, none⟩ = some (.int .i64 j.groups) := hl.cell (j := 0) rfl
  have c1 : w.cell? ⟨rb, 1, none⟩ = some (.int .i64 j.size) := hl.cell (j := 1) rfl
  have c2 : w.cell? ⟨rb, 2, none⟩ = some (.int .i64 j.slide) := hl.cell (j := 2) rfl
  have c3 : w.cell? ⟨rb, 3, none⟩ = some (.int .i64 j.fold) := hl.cell (j := 3) rfl
  have c4 : w.cell? ⟨rb, 4, none⟩ = some (.int .i64 j.fuel) := hl.cell (j := 4) rfl
  have c5 : w.cell? ⟨rb, 5, none⟩ = some (.int .i64 j.limit) := hl.cell (j := 5) rfl
  have c6 : w.cell? ⟨rb, 6, none⟩ = some (.int .i64 j.delay) := hl.cell (j := 6) rfl
  have c7 : w.cell? ⟨rb, 7, none⟩ = some (.int .i64 j.idle) := hl.cell (j := 7) rfl
  have ht2 : act.tmps[2]?.getD undef = .pointer (some ⟨rb, 0, none⟩) := by simpa using ht
  exact bodyPost_ret (v := jbV j) (by simp [results, Tryd.results23, go_sem, ht2, c0, c1, c2, c3, c4, c5, c6, c7]) hd h
theorem Z2lt {w0 w w' : World} {b : Nat} {x : Option (List UInt8)} {k : Nat} (h : Sta w0 b x k w') (hm : Mine (· = b) w w') : b < w'.heap.size ∧ w.heap.size ≤ w'.heap.size := ⟨h.lt, hm.size⟩
set_option maxHeartbeats 4000000 in
theorem sJob (w0 : World) (b : Nat) (s : List UInt8) (w : World) (h : Sta w0 b (some s) 0 w) :
    Calls Tryd.prog 23 #[.pointer (some ⟨b, 0, none⟩)] w (JobGot w0 b s w) := by
  have H1 := Lib.hid (fun x wd hwd k hk w h => sLine1 w0 b x wd hwd k hk w h)
  have H2 := Lib.hid (fun x wd hwd k hk w h => sLine2 w0 b x wd hwd k hk w h)
  have H3 := Lib.hid (fun x k hk w h => sLine3 w0 b x k hk w h)
  have HF := Lib.hid (fun n w => jFew n w)
  have A0 := below_al (o := .cells zJb 23) (Below.refl w.heap.size w)
  have S0 := Lib.hid (h.up A0)
  have M0 := Lib.hid (Mine.up (M := (· = b)) A0)
  have L0 := Lib.hid (Lies.new w zJb 23)
  have HLo := Lib.hid (And.intro h.lo h.lt)
  have K1 := Lib.hid (kx_le (some s) (Nat.le_refl 0))
  have K2 := Lib.hid (kx_le (x1 s) K1.out)
  have K3 := Lib.hid (kx_le (x2 s) K2.out)
  have K4 := Lib.hid (kx_le (x3 s) K3.out)
  have K5 := Lib.hid (kx_le (x4 s) K4.out)
  clear h A0
  go_enter Tryd.func23, Tryd.ntmps23
  go_wp2_with fail
  refine (H1.out (some s) wGroups (by decide) 0 (by omega) _ S0.out).mono ?_
  rintro e w1 ⟨n1, rfl, b1, v1, s1, m1⟩
  have S1 := Lib.hid (show Sta w0 b (x1 s) (kx (some s) 0) w1 from s1)
  have V1 := Lib.hid (show ∀ a r, y1 s = some (a, r) → n1 = a from v1)
  have L1 := Lib.hid (m1.lies L0.out (fun e => by have := HLo.out.2; omega))
  have M1 := Lib.hid (M0.out.trans m1)
  clear b1 v1 s1 m1
  go_wp2_with fail
  refine (H2.out (x1 s) wWindow (by decide) _ (by have := K1.out; omega) _ S1.out).mono ?_
  rintro e w2 ⟨n2, m2, rfl, b2, b2', v2, s2, mm2⟩
  have S2 := Lib.hid (show Sta w0 b (x2 s) (kx (x1 s) (kx (some s) 0)) w2 from s2)
  have V2 := Lib.hid (show ∀ a c r, y2 s = some (a, c, r) → n2 = a ∧ m2 = c from v2)
  have L2 := Lib.hid (mm2.lies L1.out (fun e => by have := HLo.out.2; omega))
  have M2 := Lib.hid (M1.out.trans mm2)
  have A2 := below_al (o := .cells (arC n2 m2) 68) (Below.refl w2.heap.size w2)
  have S2' := Lib.hid (S2.out.up A2)
  have M2' := Lib.hid (M2.out.trans (Mine.up A2))
  have L2' := Lib.hid (show Lies w.heap.size zJb 23 _ from (A2.block _ (lt_of_block L2.out)).trans L2.out)
  have T2 := Lib.hid (Lies.new w2 (arC n2 m2) 68)
  have q2 := Z2lt S2.out M2.out
  go_wp2_with fail
  refine (H3.out (x2 s) _ (by have := K2.out; omega) _ S2'.out).mono ?_
  rintro e w3 ⟨n3, rfl, b3, v3, s3, m3⟩
  have S3 := Lib.hid (show Sta w0 b (x3 s) (kx (x2 s) (kx (x1 s) (kx (some s) 0))) w3 from s3)
  have V3 := Lib.hid (show ∀ a r, y3 s = some (a, r) → n3 = a from v3)
  have L3 := Lib.hid (m3.lies L2'.out (fun e => by have := HLo.out.2; omega))
  have T3 := Lib.hid (m3.lies T2.out (fun e => by omega))
  have M3 := Lib.hid (M2'.out.trans m3)
  clear b2 b2' v2 s2 mm2 A2 b3 v3 s3 m3
  go_wp2_with fail
  refine (H2.out (x3 s) wLoop (by decide) _ (by have := K3.out; omega) _ S3.out).mono ?_
  rintro e w4 ⟨n4, m4, rfl, b4, b4', v4, s4, mm4⟩
  have S4 := Lib.hid (show Sta w0 b (x4 s) (kx (x3 s) (kx (x2 s) (kx (x1 s) (kx (some s) 0)))) w4 from s4)
  have V4 := Lib.hid (show ∀ a c r, y4 s = some (a, c, r) → n4 = a ∧ m4 = c from v4)
  have L4 := Lib.hid (mm4.lies L3.out (fun e => by have := HLo.out.2; omega))
  have T4 := Lib.hid (mm4.lies T3.out (fun e => by omega))
  have M4 := Lib.hid (M3.out.trans mm4)
  have A4 := below_al (o := .cells (arC n4 m4) 68) (Below.refl w4.heap.size w4)
  have S4' := Lib.hid (S4.out.up A4)
  have M4' := Lib.hid (M4.out.trans (Mine.up A4))
  have L4' := Lib.hid (show Lies w.heap.size zJb 23 _ from (A4.block _ (lt_of_block L4.out)).trans L4.out)
  have T4' := Lib.hid (show Lies w2.heap.size (arC n2 m2) 68 _ from (A4.block _ (lt_of_block T4.out)).trans T4.out)
  have U4 := Lib.hid (Lies.new w4 (arC n4 m4) 68)
  have q4 := Z2lt S4.out M4.out
  clear b4 b4' v4 s4 mm4 A4
  go_wp2_with fail
  refine (H1.out (x4 s) wDelay (by decide) _ (by have := K4.out; omega) _ S4'.out).mono ?_
  rintro e w5 ⟨n5, rfl, b5, v5, s5, m5⟩
  have S5 := Lib.hid (show Sta w0 b (x5 s) (kx (x4 s) (kx (x3 s) (kx (x2 s) (kx (x1 s) (kx (some s) 0))))) w5 from s5)
  have V5 := Lib.hid (show ∀ a r, y5 s = some (a, r) → n5 = a from v5)
  have L5 := Lib.hid (m5.lies L4'.out (fun e => by have := HLo.out.2; omega))
  have T5 := Lib.hid (m5.lies T4'.out (fun e => by omega))
  have U5 := Lib.hid (m5.lies U4.out (fun e => by omega))
  have M5 := Lib.hid (M4'.out.trans m5)
  clear b5 v5 s5 m5
  go_wp2_with fail
  refine (H1.out (x5 s) wIdle (by decide) _ (by have := K5.out; omega) _ S5.out).mono ?_
  rintro e w6 ⟨n6, rfl, b6, v6, s6, m6⟩
  have S6 := Lib.hid (show Sta w0 b (x6 s) (k6 s) w6 from s6)
  have V6 := Lib.hid (show ∀ a r, y6 s = some (a, r) → n6 = a from v6)
  have L6 := Lib.hid (m6.lies L5.out (fun e => by have := HLo.out.2; omega))
  have T6 := Lib.hid (m6.lies T5.out (fun e => by omega))
  have U6 := Lib.hid (m6.lies U5.out (fun e => by omega))
  have M6 := Lib.hid (M5.out.trans m6)
  clear b6 v6 s6 m6
  go_wp2_with fail
  refine still_tail 16 (by kernel_rfl) (by kernel_rfl) ?_
  intro w7 hw7
  simp only [List.take_succ_cons, List.take_zero, List.drop_succ_cons, List.drop_zero]
  have S7 := Lib.hid (show Sta w0 b (x6 s) (k6 s) w7 from hw7 ▸ S6.out.up (below_drewOf (Below.refl _ _)))
  have L7 := Lib.hid (show Lies w.heap.size zJb 23 w7 from hw7 ▸ L6.out.drew)
  have T7 := Lib.hid (show Lies w2.heap.size (arC n2 m2) 68 w7 from hw7 ▸ T6.out.drew)
  have U7 := Lib.hid (show Lies w4.heap.size (arC n4 m4) 68 w7 from hw7 ▸ U6.out.drew)
  have M7 := Lib.hid (show Mine (· = b) w w7 from hw7 ▸ M6.out.trans (Mine.drew _ _))
  clear hw7
  have t0 := T7.out.cell (j := 0) rfl
  have t1 := T7.out.cell (j := 1) rfl
  have u0 := U7.out.cell (j := 0) rfl
  have u1 := U7.out.cell (j := 1) rfl
  repeat still_step
  still_call (still_of (HF.out _ _))
  repeat still_step
  still_call (still_of (HF.out _ _))
  repeat still_step
  still_call (still_of (HF.out _ _))
  repeat still_step
  refine wpStill_nil ?_
  have z0 := L7.out.cell (j := 0) rfl
  have z1 := L7.out.cell (j := 1) rfl
  have z2 := L7.out.cell (j := 2) rfl
  have z3 := L7.out.cell (j := 3) rfl
  have z4 := L7.out.cell (j := 4) rfl
  have z5 := L7.out.cell (j := 5) rfl
  have z6 := L7.out.cell (j := 6) rfl
  have z7 := L7.out.cell (j := 7) rfl
  have f0 := L7.out.free 0
  have f1 := L7.out.free 1
  have f2 := L7.out.free 2
  have f3 := L7.out.free 3
  have f4 := L7.out.free 4
  have f5 := L7.out.free 5
  have f6 := L7.out.free 6
  have f7 := L7.out.free 7
  go_wp2_with fail
  refine job_ret (j := jbOf n1 n2 m2 n3 n4 m4 n5 n6) (rb := w.heap.size) rfl rfl ?_ ?_
  · exact lies8 L7.out _ _ _ _ _ _ _ _
  · refine ⟨n1, n2, m2, n3, n4, m4, n5, n6, rfl, ⟨V1.out, V2.out, V3.out, V4.out, V5.out, V6.out⟩, ?_, ?_⟩
    · exact S7.out.mine (M := (· = w.heap.size)) (mine8 _ _ _ _ _ _ _ _ _) (fun e => by have := HLo.out.2; omega) (fun k hk => by have := HLo.out; have := this.1.2.size; omega)
    · exact mine_new M7.out (Nat.le_refl _) (mine8 _ _ _ _ _ _ _ _ _)
end Jo
end Go.Proofs.YtileonenphmkkaaDoor
