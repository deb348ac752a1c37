/- slices.Clone of leases; the code's with, New. -/
import Derived.Test.YtgoapkbpcfbipaaLeaseE
import Derived.Lib.SliceRun
import Derived.Laws.MakeOwn
namespace Go.Proofs.Ytgoapkbpcfbipaa
open Go.ChangeShapes Go.WideShapes Go.ChangeAt Go.RowKit
set_option linter.unusedVariables false
set_option maxRecDepth 8000
namespace Ls
open Gen (TellsB TellsI SaysB row_one flat_len flat_get)
open Tick (cl addT)
/-- A row of its own. -/
def GivesOL (n : Nat) (ls : List Le) (w : World) (e : Ending) (w' : World) : Prop := ∃ A c, e = .returned (.slice A n c) ∧ w'.ownsRow w.heap.size 47 3 (.slice A n c) n (lec ls) ∧ Below w.heap.size w w'
set_option maxHeartbeats 1000000 in
theorem ckClone (ls : List Le) (n : Nat) (A : Option Addr) (c : Nat) (hn : n = ls.length) (w : World) (hA : Row w A (lec ls)) (hl : n ≤ 100000) : Calls Try.prog 41 #[.slice A n c] w (GivesOL n ls w) := by
  rcases A with _ | ⟨b, off, sp⟩
  · have e : ls = [] := by
      rcases hA with h | ⟨_, _, h, _⟩
      · have := lec_len ls; rw [h] at this; exact List.eq_nil_of_length_eq_zero (by simp at this; omega)
      · cases h
    subst e
    subst hn
    clear hA
    have q : ∀ (w : World) (n c n' c' : Nat), (binOp .eql 22 (.slice none n c) (.slice none n' c')).run Try.prog w = .ok (.bool true) w := fun w n c n' c' => Lib.run_eql_slice_nil w _ _ none n c n' c' Try.underlying22
    go_enter Try.func41, Try.ntmps41
    go_wp2_with fail
    go_ret
    exact ⟨none, 0, rfl, own_none, Below.refl _ _⟩
  · obtain ⟨i0, hi0, hz0, hz1, hz2⟩ := info_partsS LInfo
    have HI0 := Lib.hid hi0; have HZ0 := Lib.hid hz0; have HZ1 := Lib.hid hz1; have HZ2 := Lib.hid hz2
    have HA := Lib.hid hA
    have HN := Lib.hid hn
    have q : ∀ (w : World) (n c n' c' : Nat), (binOp .eql 22 (.slice (some ⟨b, off, sp⟩) n c) (.slice none n' c')).run Try.prog w = .ok (.bool false) w := fun w n c n' c' => Lib.run_eql_slice_nil w _ _ (some _) n c n' c' Try.underlying22
    clear hA hi0 hz0 hz1 hz2 hn
    go_enter Try.func41, Try.ntmps41
    go_wp2_with (at_builtin; refine hold_mk ?_)
    refine hold_out ?_
    refine wpApp rfl _ _ 22 rfl w.heap.size 47 i0 _ 3 24 Try.underlying22 HI0.out HZ0.out HZ1.out HZ2.out rfl (by omega) _ 0 [] rfl
      (own_new (Nat.le_refl _)) _ n c (lec ls) rfl (HA.out.below (below_al (Below.refl _ _))) (by rw [lec_len, ← HN.out]) (lec_ones ls) (by unfold maxLen; omega) (by omega) (by simp) ?_
    intro v2 w2 hown hb
    have HOW := Lib.hid hown
    have HB := Lib.hid ((below_al (o := .cells #[] 47) (Below.refl w.heap.size w)).trans hb)
    clear hown hb
    go_wp2_with fail
    go_ret
    have ho := HOW.out
    rw [Nat.zero_add, List.nil_append] at ho
    obtain ⟨A', c', e', _⟩ := own_form ho (by omega)
    subst e'
    exact ⟨A', c', rfl, ho, HB.out⟩
theorem lec_set {l : List Le} {i : Nat} {x : Le} (hi : i < l.length) : (((lec l).set (i * 3) (.int .i64 x.own)).set (i * 3 + 1) (.int .i64 x.tok)).set (i * 3 + 2) (.int .i64 x.unt) = lec (l.set i x) := by
  have e : l = l.take i ++ l[i] :: l.drop (i + 1) := by rw [List.getElem_cons_drop, List.take_append_drop]
  have hl : (lec (l.take i)).length = i * 3 := by rw [lec_len, List.length_take]; omega
  have hs : l.set i x = l.take i ++ x :: l.drop (i + 1) := by
    rw [List.set_eq_take_append_cons_drop, if_pos hi]
  rw [hs]
  have e2 : lec l = lec (l.take i) ++ (.int .i64 l[i].own :: .int .i64 l[i].tok :: .int .i64 l[i].unt :: lec (l.drop (i + 1))) := by
    conv => lhs; rw [e]
    rw [lec_app]; rfl
  rw [e2, List.set_append_right _ _ (by omega), List.set_append_right _ _ (by omega), List.set_append_right _ _ (by omega), hl, Nat.sub_self, show i * 3 + 1 - i * 3 = 1 by omega, show i * 3 + 2 - i * 3 = 2 by omega, lec_app]
  rfl
def set3L (w : World) (g i : Nat) (x : Le) : World := ((w.setCell ⟨g, i * 3, none⟩ (.int .i64 x.own)).setCell ⟨g, i * 3 + 1, none⟩ (.int .i64 x.tok)).setCell ⟨g, i * 3 + 2, none⟩ (.int .i64 x.unt)
theorem own_set3L {w : World} {K n c g : Nat} {l : List Le} (h : w.ownsRow K 47 3 (.slice (some ⟨g, 0, none⟩) n c) n (lec l)) {i : Nat} (x : Le) (hi : i < l.length) :
    (set3L w g i x).ownsRow K 47 3 (.slice (some ⟨g, 0, none⟩) n c) n (lec (l.set i x)) := by
  have h1 := (h.stored (i * 3) (.int .i64 x.own)).1
  have h2 := (h1.stored (i * 3 + 1) (.int .i64 x.tok)).1
  have h3 := (h2.stored (i * 3 + 2) (.int .i64 x.unt)).1
  rwa [lec_set hi] at h3
theorem own_cell3L {w : World} {K n c g : Nat} {l : List Le} (h : w.ownsRow K 47 3 (.slice (some ⟨g, 0, none⟩) n c) n (lec l)) {i : Nat} {x : Le} (hi : l[i]? = some x) :
    (w.cell? ⟨g, i * 3, none⟩ = some (.int .i64 x.own) ∧ w.cell? ⟨g, i * 3 + 1, none⟩ = some (.int .i64 x.tok) ∧ w.cell? ⟨g, i * 3 + 2, none⟩ = some (.int .i64 x.unt)) ∧
    w.frozen? ⟨g, i * 3, none⟩ = false ∧ w.frozen? ⟨g, i * 3 + 1, none⟩ = false ∧ w.frozen? ⟨g, i * 3 + 2, none⟩ = false := by
  have hl := (List.getElem?_eq_some_iff.1 hi).1
  have hn : l.length * 3 = n * 3 := by rw [← lec_len, h.1]
  have f0 := flat_get leL leL_len (n := 3) (j := 0) hi (by omega)
  have f1 := flat_get leL leL_len (n := 3) (j := 1) hi (by omega)
  have f2 := flat_get leL leL_len (n := 3) (j := 2) hi (by omega)
  refine ⟨⟨?_, ?_, ?_⟩, h.frozenAt _, h.frozenAt _, h.frozenAt _⟩
  · rw [h.cellAt _ (by omega)]; exact f0.trans rfl
  · rw [h.cellAt _ (by omega)]; exact f1.trans rfl
  · rw [h.cellAt _ (by omega)]; exact f2.trans rfl
theorem own_atL {w : World} {K n : Nat} {T : TypeId} {A : Option Addr} {c : Nat} {xs : List Value} (h : w.ownsRow K T 3 (.slice A n c) n xs) (hn : 0 < n) : ∃ g, A = some ⟨g, 0, none⟩ ∧ K ≤ g ∧ g < w.heap.size := by
  obtain ⟨_, ⟨e, e0⟩ | ⟨g, cap, cur, e, hg, hh, _⟩⟩ := h
  · omega
  · cases e; exact ⟨g, rfl, hg, lt_of_block hh⟩
theorem withC_ret {w wF : World} {R n : Nat} {last : Int} {ms : List Le} {A : Option Addr} {c : Nat} {act : Act} (ht : act.tmps.getD 6 undef = .pointer (some ⟨R, 0, none⟩)) (hd : act.defers = [])
    (hL : Lies R #[.slice A n c, .int .i64 last] 24 wF) (h1 : wF.ownsRow w.heap.size 47 3 (.slice A n c) n (lec ms)) (hB : Below w.heap.size w wF) :
    bodyPost Try.prog Try.f32 (GivesT n last ms w) .ret act wF := by
  have c0 := hL.cell (j := 0) rfl
  have c1 := hL.cell (j := 1) rfl
  refine bodyPost_ret (v := .agg #[.slice A n c, .int .i64 last]) ?_ hd ⟨A, c, rfl, h1, hB⟩
  have ht2 : act.tmps[6]?.getD undef = .pointer (some ⟨R, 0, none⟩) := by simpa using ht
  simp [results, Try.results32, go_sem, ht2, c0, c1]
set_option maxRecDepth 100000 in
set_option maxHeartbeats 1000000 in
theorem ckWith (ls : List Le) (n : Nat) (last : Int) (g : Nat) (x : Le) (A : Option Addr) (c : Nat) (hn : n = ls.length) (w : World) (h : Row w A (lec ls)) (hl : n ≤ 100000) (hg : g < n) :
    Calls Try.prog 32 #[.agg #[.slice A n c, .int .i64 last], .int .i64 (g : Int), .agg (leC x)] w (GivesT n last (ls.set g x) w) := by
  have HCL := Lib.hid (fun w' (h' : Row w' A (lec ls)) => ckClone ls n A c hn w' h' hl)
  have hb0 := below_al (o := .cells #[.slice none 0 0, .int .i64 0] 24) (below_al (o := .cells (leC x) 47) (below_al (o := .cells #[.slice A n c, .int .i64 last] 24) (Below.refl w.heap.size w)))
  have HB := Lib.hid hb0
  have HR := Lib.hid (h.below hb0)
  have LA := Lib.hid (((Lies.new w #[.slice A n c, .int .i64 last] 24).al (o := .cells (leC x) 47)).al (o := .cells #[.slice none 0 0, .int .i64 0] 24))
  have LX := Lib.hid ((Gen.lies_new1 w (.cells #[.slice A n c, .int .i64 last] 24) (leC x) 47).al (o := .cells #[.slice none 0 0, .int .i64 0] 24))
  have LR := Lib.hid (Gen.lies_new2 w (.cells #[.slice A n c, .int .i64 last] 24) (.cells (leC x) 47) #[.slice none 0 0, .int .i64 0] 24)
  have HSZ : Hid ((((w.alloc (.cells #[.slice A n c, .int .i64 last] 24)).alloc (.cells (leC x) 47)).alloc (.cells #[.slice none 0 0, .int .i64 0] 24)).heap.size = w.heap.size + 3) := Lib.hid (by simp)
  have HGL : Hid (g < ls.length) := Lib.hid (by omega)
  have hgi : (g : Int) < (n : Int) := by omega
  have hg0 : (0 : Int) ≤ (g : Int) := by omega
  obtain ⟨o, t, u⟩ := x
  simp only [leC] at LA LX LR HB HR HSZ
  clear h hb0 hn
  go_enter Try.func32, Try.ntmps32
  go_upto_region 1 with fail
  obtain ⟨W, hW⟩ : ∃ W, W = ((w.alloc (.cells #[.slice A n c, .int .i64 last] 24)).alloc (.cells #[.int .i64 o, .int .i64 t, .int .i64 u] 47)).alloc (.cells #[.slice none 0 0, .int .i64 0] 24) := ⟨_, rfl⟩
  rw [← hW] at LA LX LR HR HB HSZ ⊢
  clear hW
  have x0 := LA.out.cell (j := 0) rfl
  go_wp2_with fail
  refine (HCL.out _ HR.out).mono ?_
  rintro e w1 ⟨A1, c1, rfl, ho1, hb1⟩
  obtain ⟨q, rfl, hq1, hq2⟩ := own_atL ho1 (by omega)
  have HB1 := Lib.hid (below_next HB.out hb1)
  have LA1 := Lib.hid (LA.out.below hb1)
  have LX1 := Lib.hid (LX.out.below hb1)
  have LR1 := Lib.hid (LR.out.below hb1)
  have HQ : Hid (w.heap.size + 3 ≤ q) := Lib.hid (by rw [← HSZ.out]; exact hq1)
  have HO1 := Lib.hid (own_setS ho1 ⟨w.heap.size, 0, none⟩ (fun e => by have h := (ho1.lt _ e).1; have h2 := HSZ.out; simp only at h; omega) (.slice (some ⟨q, 0, none⟩) n c1))
  clear hb1 x0 LA LX LR HR HB ho1 hq1 hq2
  have x0 := LA1.out.cell (j := 0) rfl
  have f0 := LA1.out.free 0
  go_upto_region 2 with fail
  have LA2 := Lib.hid (by have h := LA1.out.set 0 (.slice (some ⟨q, 0, none⟩) n c1); simpa using h : Lies w.heap.size #[.slice (some ⟨q, 0, none⟩) n c1, .int .i64 last] 24 (w1.setCell ⟨w.heap.size, 0, none⟩ (.slice (some ⟨q, 0, none⟩) n c1)))
  have LX2 := Lib.hid (LX1.out.other (c := w.heap.size) (by omega) 0 (.slice (some ⟨q, 0, none⟩) n c1))
  have LR2 := Lib.hid (LR1.out.other (c := w.heap.size) (by omega) 0 (.slice (some ⟨q, 0, none⟩) n c1))
  have HB2 := Lib.hid (HB1.out.setCell (p := ⟨w.heap.size, 0, none⟩) (Nat.le_refl _) (.slice (some ⟨q, 0, none⟩) n c1))
  obtain ⟨W2, hW2⟩ : ∃ W, W = w1.setCell ⟨w.heap.size, 0, none⟩ (.slice (some ⟨q, 0, none⟩) n c1) := ⟨_, rfl⟩
  rw [← hW2] at LA2 LX2 LR2 HB2 HO1 ⊢
  clear hW2 x0 f0 LA1 LX1 LR1 HB1
  have x0 := LA2.out.cell (j := 0) rfl
  have y0 := LX2.out.cell (j := 0) rfl; have y1 := LX2.out.cell (j := 1) rfl; have y2 := LX2.out.cell (j := 2) rfl
  obtain ⟨⟨k0, k1, k2⟩, m0, m1, m2⟩ := own_cell3L HO1.out (List.getElem?_eq_getElem HGL.out)
  go_upto_region 3 with fail
  have hne : w.heap.size ≠ q := by have := HQ.out; omega
  have hne2 : w.heap.size + 1 + 1 ≠ q := by have := HQ.out; omega
  have LA3 := Lib.hid (((LA2.out.other (c := q) hne (g * 3) (.int .i64 o)).other (c := q) hne (g * 3 + 1) (.int .i64 t)).other (c := q) hne (g * 3 + 2) (.int .i64 u))
  have LR3 := Lib.hid (((LR2.out.other (c := q) hne2 (g * 3) (.int .i64 o)).other (c := q) hne2 (g * 3 + 1) (.int .i64 t)).other (c := q) hne2 (g * 3 + 2) (.int .i64 u))
  have HB3 := Lib.hid (((HB2.out.setCell (p := ⟨q, g * 3, none⟩) (by have := HQ.out; show w.heap.size ≤ q; omega) (.int .i64 o)).setCell (p := ⟨q, g * 3 + 1, none⟩) (by have := HQ.out; show w.heap.size ≤ q; omega) (.int .i64 t)).setCell (p := ⟨q, g * 3 + 2, none⟩) (by have := HQ.out; show w.heap.size ≤ q; omega) (.int .i64 u))
  have HO3 := Lib.hid (own_set3L HO1.out ⟨o, t, u⟩ HGL.out)
  unfold set3L at HO3
  simp only at HO3
  obtain ⟨W3, hW3⟩ : ∃ W, W = ((W2.setCell ⟨q, g * 3, none⟩ (.int .i64 o)).setCell ⟨q, g * 3 + 1, none⟩ (.int .i64 t)).setCell ⟨q, g * 3 + 2, none⟩ (.int .i64 u) := ⟨_, rfl⟩
  rw [← hW3] at LA3 LR3 HB3 HO3 ⊢
  clear hW3 x0 y0 y1 y2 k0 k1 k2 m0 m1 m2 LA2 LR2 HB2 LX2 HO1 hne hne2
  have x0 := LA3.out.cell (j := 0) rfl; have x1 := LA3.out.cell (j := 1) rfl
  have z0 := LR3.out.cell (j := 0) rfl; have z1 := LR3.out.cell (j := 1) rfl
  have f0 := LR3.out.free 0; have f1 := LR3.out.free 1
  have HO4 := Lib.hid (own_setS (own_setS HO3.out ⟨w.heap.size + 1 + 1, 0, none⟩ (fun e => by have h := (HO3.out.lt _ e).1; have h2 := HSZ.out; simp only at h; omega) (.slice (some ⟨q, 0, none⟩) n c1)) ⟨w.heap.size + 1 + 1, 1, none⟩ (fun e => by have h := (HO3.out.lt _ e).1; have h2 := HSZ.out; simp only at h; omega) (.int .i64 last))
  have HLE : Hid (w.heap.size ≤ W.heap.size) := Lib.hid (by have := HSZ.out; omega)
  go_wp2_with fail
  exact withC_ret rfl rfl (by have h := (LR3.out.set 0 (.slice (some ⟨q, 0, none⟩) n c1)).set 1 (.int .i64 last); simpa using h) (own_baseS HO4.out HLE.out)
    ((HB3.out.setCell (p := ⟨w.heap.size + 1 + 1, 0, none⟩) (show w.heap.size ≤ w.heap.size + 1 + 1 by omega) _).setCell (p := ⟨w.heap.size + 1 + 1, 1, none⟩) (show w.heap.size ≤ w.heap.size + 1 + 1 by omega) _)
end Ls
end Go.Proofs.Ytgoapkbpcfbipaa
