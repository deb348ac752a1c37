/- The reference's Give. -/
import Derived.Test.YtgoapkbpcfbipaaLeaseW
namespace Go.Proofs.Ytgoapkbpcfbipaa
open Go.ChangeShapes Go.WideShapes Go.ChangeAt Go.RowKit
set_option linter.unusedVariables false
set_option maxRecDepth 8000
namespace Ls
open Gen (TellsB TellsI SaysB row_one flat_len)
open Tick (cl addT)
/-- A table in new memory, and an error. -/
def GivesTE (n : Nat) (t : Tb) (z : Int) (w : World) (e : Ending) (w' : World) : Prop :=
  ∃ A c, e = .returned (.tuple #[.agg #[.slice A n c, .int .i64 t.last], .int .i64 z]) ∧ w'.ownsRow w.heap.size 47 3 (.slice A n c) n (lec t.ls) ∧ Below w.heap.size w w'
theorem give_ret {w wF : World} {R n : Nat} {t : Tb} {z : Int} {A : Option Addr} {c : Nat} {act : Act} (ht : act.tmps.getD 6 undef = .pointer (some ⟨R, 0, none⟩)) (he : act.tmps.getD 7 undef = .int .i64 z) (hd : act.defers = [])
    (hL : Lies R #[.slice A n c, .int .i64 t.last] 24 wF) (h1 : wF.ownsRow w.heap.size 47 3 (.slice A n c) n (lec t.ls)) (hB : Below w.heap.size w wF) :
    bodyPost Try.prog Try.f23 (GivesTE n t z w) .ret act wF := by
  have c0 := hL.cell (j := 0) rfl
  have c1 := hL.cell (j := 1) rfl
  refine bodyPost_ret (v := .tuple #[.agg #[.slice A n c, .int .i64 t.last], .int .i64 z]) ?_ hd ⟨A, c, rfl, h1, hB⟩
  have ht2 : act.tmps[6]?.getD undef = .pointer (some ⟨R, 0, none⟩) := by simpa using ht
  have he2 : act.tmps[7]?.getD undef = .int .i64 z := by simpa using he
  simp [results, Try.results23, go_sem, ht2, he2, c0, c1]
/-- A table is laid into a result's block. -/
theorem lies_res {w a : World} {u0 u1 : Value} (h : Lies (w.heap.size + 1) #[u0, u1] 24 a) (v0 v1 : Value) : Lies (w.heap.size + 1) #[v0, v1] 24 ((a.setCell ⟨w.heap.size + 1, 0, none⟩ v0).setCell ⟨w.heap.size + 1, 1, none⟩ v1) := by
  have h := (h.set 0 v0).set 1 v1
  simpa using h
theorem below_res {w a : World} (h : Below w.heap.size w a) (v0 v1 : Value) : Below w.heap.size w ((a.setCell ⟨w.heap.size + 1, 0, none⟩ v0).setCell ⟨w.heap.size + 1, 1, none⟩ v1) :=
  (h.setCell (p := ⟨w.heap.size + 1, 0, none⟩) (show w.heap.size ≤ w.heap.size + 1 by omega) v0).setCell (p := ⟨w.heap.size + 1, 1, none⟩) (show w.heap.size ≤ w.heap.size + 1 by omega) v1
set_option maxRecDepth 100000 in
set_option maxHeartbeats 1000000 in
theorem rfGive (ls : List Le) (n : Nat) (last g k : Int) (A : Option Addr) (c : Nat) (o : Tb × Int) (m : Nat) (hn : n = ls.length) (ho : o = giveO ⟨ls, last⟩ g k) (hm : m = o.1.ls.length) (w : World) (h : Row w A (lec ls)) (hl : n ≤ 100000) :
    Calls Try.prog 23 #[.agg #[.slice A n c, .int .i64 last], .int .i64 g, .int .i64 k] w (GivesTE m o.1 o.2 w) := by
  obtain ⟨q, hq⟩ : ∃ q, q = hasT ⟨ls, last⟩ g := ⟨_, rfl⟩
  obtain ⟨f, hf⟩ : ∃ f, f = fencedO ⟨ls, last⟩ g k := ⟨_, rfl⟩
  have HH := Lib.hid (fun w' (h' : Row w' A (lec ls)) => rfHas ls n last g A c q hn hq w' h' (by omega))
  have HF := Lib.hid (fun w' (h' : Row w' A (lec ls)) => rfFenced ls n last g k A c f hn hf w' h' (by omega))
  have HW := Lib.hid (fun (j : Nat) (x : Le) w' (h' : Row w' A (lec ls)) => rfWith ls n last j x A c hn w' h' hl)
  have hb0 := below_al (o := .cells #[.slice none 0 0, .int .i64 0] 24) (below_al (o := .cells #[.slice A n c, .int .i64 last] 24) (Below.refl w.heap.size w))
  have HB := Lib.hid hb0
  have HR := Lib.hid (h.below hb0)
  have LA := Lib.hid ((Lies.new w #[.slice A n c, .int .i64 last] 24).al (o := .cells #[.slice none 0 0, .int .i64 0] 24))
  have LR := Lib.hid (Gen.lies_new1 w (.cells #[.slice A n c, .int .i64 last] 24) #[.slice none 0 0, .int .i64 0] 24)
  have HO : Hid (o = if q = false then (zT, 1) else if f = true then (zT, 160) else (⟨setT ⟨ls, last⟩ g ⟨0, k, 0⟩, last⟩, 0)) := Lib.hid (by rw [ho, hq, hf]; rfl)
  have HN := Lib.hid hn
  have HM := Lib.hid hm
  have HQ1 : Hid (q = true → 0 ≤ g ∧ g < (n : Int)) := Lib.hid (fun e => by rw [hq] at e; rw [hn]; exact ((has_iff _ _).1 e).2)
  clear h hb0 ho hq hf hn hm
  go_enter Try.func23, Try.ntmps23
  go_upto_region 1 with fail
  obtain ⟨W, hW⟩ : ∃ W, W = (w.alloc (.cells #[.slice A n c, .int .i64 last] 24)).alloc (.cells #[.slice none 0 0, .int .i64 0] 24) := ⟨_, rfl⟩
  rw [← hW] at LA LR HR HB ⊢
  clear hW
  have x0 := LA.out.cell (j := 0) rfl; have x1 := LA.out.cell (j := 1) rfl
  go_wp2_with fail
  refine (HH.out _ HR.out).mono ?_
  rintro e w1 ⟨rfl, hb1⟩
  have HB1 := Lib.hid (below_next HB.out hb1)
  have LA1 := Lib.hid (LA.out.below hb1)
  have LR1 := Lib.hid (LR.out.below hb1)
  have HR1 := Lib.hid (HR.out.below hb1)
  clear hb1 x0 x1 LA LR HR HB
  have x0 := LA1.out.cell (j := 0) rfl; have x1 := LA1.out.cell (j := 1) rfl
  cases q
  · have e1 : o = (zT, 1) := HO.out
    have y0 := LR1.out.cell (j := 0) rfl; have y1 := LR1.out.cell (j := 1) rfl
    have z0 := LR1.out.free 0; have z1 := LR1.out.free 1
    have hm0 : m = 0 := by rw [HM.out, e1]; rfl
    subst e1
    subst hm0
    clear HO HM HQ1
    go_wp2_with fail
    exact give_ret rfl rfl rfl (lies_res LR1.out _ _) own_none (below_res HB1.out _ _)
  · have hg := HQ1.out rfl
    obtain ⟨j, rfl⟩ : ∃ j : Nat, g = (j : Int) := ⟨g.toNat, by omega⟩
    clear hg
    go_wp2_with fail
    refine (HF.out _ HR1.out).mono ?_
    rintro e w2 ⟨rfl, hb2⟩
    have HB2 := Lib.hid (below_next HB1.out hb2)
    have LA2 := Lib.hid (LA1.out.below hb2)
    have LR2 := Lib.hid (LR1.out.below hb2)
    have HR2 := Lib.hid (HR1.out.below hb2)
    clear hb2 x0 x1 LA1 LR1 HR1 HB1
    have x0 := LA2.out.cell (j := 0) rfl; have x1 := LA2.out.cell (j := 1) rfl
    cases f
    · have e1 : o = (⟨ls.set j ⟨0, k, 0⟩, last⟩, 0) := HO.out
      have hm0 : m = n := by rw [HM.out, e1, HN.out]; exact List.length_set
      subst e1
      subst hm0
      clear HO HM HQ1 HH HF
      go_wp2_with fail
      refine (HW.out j ⟨0, k, 0⟩ _ HR2.out).mono ?_
      rintro e w3 ⟨A3, c3, rfl, ho3, hb3⟩
      have HB3 := Lib.hid (below_next HB2.out hb3)
      have LR3 := Lib.hid (LR2.out.below hb3)
      have hlt := lt_of_block LR2.out
      have HO3 := Lib.hid (own_setS (own_setS ho3 ⟨w.heap.size + 1, 0, none⟩ (fun e => by have := (ho3.lt _ e).1; simp only at this; omega) (.slice A3 m c3)) ⟨w.heap.size + 1, 1, none⟩ (fun e => by have := (ho3.lt _ e).1; simp only at this; omega) (.int .i64 last))
      have HSZ : Hid (w.heap.size ≤ w2.heap.size) := Lib.hid (by omega)
      clear hb3 ho3 x0 x1 hlt
      have y0 := LR3.out.cell (j := 0) rfl; have y1 := LR3.out.cell (j := 1) rfl
      have z0 := LR3.out.free 0; have z1 := LR3.out.free 1
      go_wp2_with fail
      exact give_ret rfl rfl rfl (lies_res LR3.out _ _) (own_baseS HO3.out HSZ.out) (below_res HB3.out _ _)
    · have e1 : o = (zT, 160) := HO.out
      have y0 := LR2.out.cell (j := 0) rfl; have y1 := LR2.out.cell (j := 1) rfl
      have z0 := LR2.out.free 0; have z1 := LR2.out.free 1
      have hm0 : m = 0 := by rw [HM.out, e1]; rfl
      subst e1
      subst hm0
      clear HO HM HQ1
      go_wp2_with fail
      exact give_ret rfl rfl rfl (lies_res LR2.out _ _) own_none (below_res HB2.out _ _)
end Ls
end Go.Proofs.Ytgoapkbpcfbipaa
