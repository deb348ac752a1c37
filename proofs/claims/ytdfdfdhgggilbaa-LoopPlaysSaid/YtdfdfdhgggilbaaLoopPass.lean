/- pass: an event goes round once, unless it leaves. -/
import Derived.Test.YtdfdfdhgggilbaaLoopFn
namespace Go.Proofs.Ytdfdfdhgggilbaa
open Go.RowKit
set_option linter.unusedVariables false
namespace Lp
open Gen
def passed (L : Int) (F : Nat) (t : Tr) : Tr := if leaves L F t then t else next t
/-- Hands back a trip and a truth; what was stays. -/
def GivesT (t : Tr) (b : Bool) (w : World) (e : Ending) (w' : World) : Prop := e = .returned (.tuple #[trV t, .bool b]) ∧ Below w.heap.size w w'
theorem pass_ret {t : Tr} {b : Bool} {w0 : World} {rb : Nat} {w : World} {act : Act} (ht : act.tmps.getD 4 undef = .pointer (some ⟨rb, 0, none⟩)) (hs : act.tmps.getD 5 undef = .bool b) (hd : act.defers = []) (hl : Lies rb (trC t) 52 w) (h : Below w0.heap.size w0 w) :
    bodyPost Try.prog Try.f19 (GivesT t b w0) Exit.ret act w := by
  have c0 : w.cell? ⟨rb, 0, none⟩ = some (.string t.ev.key) := hl.cell (j := 0) rfl
  have c1 : w.cell? ⟨rb, 1, none⟩ = some (.int .i64 t.ev.at_) := hl.cell (j := 1) rfl
  have c2 : w.cell? ⟨rb, 2, none⟩ = some (.int .i64 t.ev.val) := hl.cell (j := 2) rfl
  have c3 : w.cell? ⟨rb, 3, none⟩ = some (.int .i64 (t.n : Int)) := hl.cell (j := 3) rfl
  have ht2 : act.tmps[4]?.getD undef = .pointer (some ⟨rb, 0, none⟩) := by simpa using ht
  have hs2 : act.tmps[5]?.getD undef = .bool b := by simpa using hs
  exact bodyPost_ret (v := .tuple #[trV t, .bool b]) (by simp [results, Try.results19, go_sem, ht2, hs2, c0, c1, c2, c3]) hd ⟨rfl, h⟩
set_option maxHeartbeats 1000000 in
theorem lpPass (L : Int) (F : Nat) (t : Tr) (hv : inI t.ev.val) (hL : 0 ≤ L ∧ L ≤ 9223372036854775807) (hF : F ≤ 40) (w : World) :
    Calls Try.prog 19 #[ruV L F, trV t] w (GivesT (passed L F t) (leaves L F t) w) := by
  have HL := Lib.hid (fun w => lpLeaves L F t hv hL w)
  have HH := Lib.hid (fun w => lpHalf t.ev.val hv w)
  cases hq : leaves L F t
  · rw [hq] at HL
    have hp : passed L F t = next t := by unfold passed; rw [hq]; rfl
    have hn := leaves_lt hq
    have hw := wrap_i (v := (t.n : Int) + 1) (by unfold inI; omega)
    rw [hp]
    clear hq hp hv hL
    go_enter Try.func19, Try.ntmps19
    go_wp2_with fail
    refine (HL.out _).mono ?_
    rintro e w1 ⟨rfl, hb1⟩
    have L1 := Lib.hid (((lies_new1 w (.cells (ruC L F) 49) (trC t) 52).al (o := .cells (trC zTr) 52)).below hb1)
    have L2 := Lib.hid ((lies_new2 w (.cells (ruC L F) 49) (.cells (trC t) 52) (trC zTr) 52).below hb1)
    have HB1 := Lib.hid (below_next (below_al (below_al (below_al (Below.refl w.heap.size w)))) hb1)
    clear hb1
    have c0 := L1.out.cell (j := 0) rfl
    have c1 := L1.out.cell (j := 1) rfl
    have c2 := L1.out.cell (j := 2) rfl
    have c3 := L1.out.cell (j := 3) rfl
    have f2 := L1.out.free 2
    have f3 := L1.out.free 3
    have d0 := L2.out.cell (j := 0) rfl
    have d1 := L2.out.cell (j := 1) rfl
    have d2 := L2.out.cell (j := 2) rfl
    have d3 := L2.out.cell (j := 3) rfl
    have g0 := L2.out.free 0
    have g1 := L2.out.free 1
    have g2 := L2.out.free 2
    have g3 := L2.out.free 3
    go_wp2_with fail
    refine (HH.out _).mono ?_
    rintro e w2 ⟨rfl, rfl⟩
    go_wp2_with fail
    have HB2 : Below w.heap.size w ((w1.setCell ⟨w.heap.size + 1, 2, none⟩ (.int .i64 (half t.ev.val))).setCell ⟨w.heap.size + 1, 3, none⟩ (.int .i64 ((t.n : Int) + 1))) :=
      (HB1.out.setCell (p := ⟨w.heap.size + 1, 2, none⟩) (Nat.le_succ _) _).setCell (p := ⟨w.heap.size + 1, 3, none⟩) (Nat.le_succ _) _
    exact pass_ret (t := next t) (rb := w.heap.size + 1 + 1) rfl rfl rfl (Lies.set4 ((L2.out.other (by omega) _ _).other (by omega) _ _) _ _ _ _) (below_set4 HB2 (by omega) _ _ _ _)
  · rw [hq] at HL
    have hp : passed L F t = t := by unfold passed; rw [hq]; rfl
    rw [hp]
    clear hq hp hv hL HH
    go_enter Try.func19, Try.ntmps19
    go_wp2_with fail
    refine (HL.out _).mono ?_
    rintro e w1 ⟨rfl, hb1⟩
    have L1 := Lib.hid (((lies_new1 w (.cells (ruC L F) 49) (trC t) 52).al (o := .cells (trC zTr) 52)).below hb1)
    have L2 := Lib.hid ((lies_new2 w (.cells (ruC L F) 49) (.cells (trC t) 52) (trC zTr) 52).below hb1)
    have HB1 := Lib.hid (below_next (below_al (below_al (below_al (Below.refl w.heap.size w)))) hb1)
    clear hb1
    have c0 := L1.out.cell (j := 0) rfl
    have c1 := L1.out.cell (j := 1) rfl
    have c2 := L1.out.cell (j := 2) rfl
    have c3 := L1.out.cell (j := 3) rfl
    have d0 := L2.out.cell (j := 0) rfl
    have d1 := L2.out.cell (j := 1) rfl
    have d2 := L2.out.cell (j := 2) rfl
    have d3 := L2.out.cell (j := 3) rfl
    have g0 := L2.out.free 0
    have g1 := L2.out.free 1
    have g2 := L2.out.free 2
    have g3 := L2.out.free 3
    go_wp2_with fail
    exact pass_ret (t := t) (rb := w.heap.size + 1 + 1) rfl rfl rfl (Lies.set4 L2.out _ _ _ _) (below_set4 HB1.out (by omega) _ _ _ _)
end Lp
end Go.Proofs.Ytdfdfdhgggilbaa
