/- The code's Renew, Grant. -/
import Derived.Test.YtgoapkbpcfbipaaLeaseI
import Derived.Lib.MinMax
namespace Go.Proofs.Ytgoapkbpcfbipaa
open Go.ChangeShapes Go.WideShapes Go.ChangeAt Go.RowKit
set_option linter.unusedVariables false
set_option maxRecDepth 8000
namespace Ls
open Gen (TellsB TellsI SaysB row_one flat_len flat_get)
open Tick (cl addT)
theorem renewC_ret {w wF : World} {R n : Nat} {t : Tb} {z : Int} {A : Option Addr} {c : Nat} {act : Act} (ht : act.tmps.getD 10 undef = .pointer (some ⟨R, 0, none⟩)) (hz : act.tmps.getD 11 undef = .int .i64 z) (hd : act.defers = [])
    (hL : Lies R #[.slice A n c, .int .i64 t.last] 24 wF) (h1 : wF.ownsRow w.heap.size 47 3 (.slice A n c) n (lec t.ls)) (hB : Below w.heap.size w wF) :
    bodyPost Try.prog Try.f20 (GivesTE n t z w) .ret act wF := by
  have c0 := hL.cell (j := 0) rfl
  have c1 := hL.cell (j := 1) rfl
  refine bodyPost_ret (v := .tuple #[.agg #[.slice A n c, .int .i64 t.last], .int .i64 z]) ?_ hd ⟨A, c, rfl, h1, hB⟩
  have ht2 : act.tmps[10]?.getD undef = .pointer (some ⟨R, 0, none⟩) := by simpa using ht
  have hz2 : act.tmps[11]?.getD undef = .int .i64 z := by simpa using hz
  simp [results, Try.results20, go_sem, ht2, hz2, c0, c1]
set_option maxRecDepth 100000 in
set_option maxHeartbeats 2000000 in
theorem ckRenew (ls : List Le) (n : Nat) (last g k now long : Int) (A : Option Addr) (c : Nat) (o : Tb × Int) (m : Nat) (hn : n = ls.length) (ho : o = renewO ⟨ls, last⟩ g k (cl now) (addT now long)) (hm : m = o.1.ls.length) (w : World) (h : Row w A (lec ls)) (hl : n ≤ 100000) (hc : n ≤ c) :
    Calls Try.prog 20 #[.agg #[.slice A n c, .int .i64 last], .int .i64 g, .int .i64 k, .int .i64 now, .int .i64 long] w (GivesTE m o.1 o.2 w) := by
  obtain ⟨q, hq⟩ : ∃ q, q = hasT ⟨ls, last⟩ g := ⟨_, rfl⟩
  obtain ⟨f, hf⟩ : ∃ f, f = fencedO ⟨ls, last⟩ g k := ⟨_, rfl⟩
  have HH := Lib.hid (fun w' (h' : Row w' A (lec ls)) => ckHas ls n last g A c q hn hq w' h' hl hc)
  have HF := Lib.hid (fun w' (h' : Row w' A (lec ls)) => ckFenced ls n last g k A c f hn hf w' h' hl hc)
  have HW := Lib.hid (fun (j : Nat) (x : Le) (hj : j < n) w' (h' : Row w' A (lec ls)) => ckWith ls n last j x A c hn w' h' hl hj)
  have HEX := Lib.hid (fun x w' => ckExamine x w')
  have HC := Lib.hid (fun o k u r hr w' => ckForce o k u now r hr w')
  have HAD := Lib.hid (fun w' => ckAddS now long w')
  obtain ⟨ut, hut⟩ : ∃ ut, ut = addT now long := ⟨_, rfl⟩
  rw [← hut] at HAD ho
  have hb0 := below_al (o := .cells #[.slice none 0 0, .int .i64 0] 24) (below_al (o := .cells #[.slice A n c, .int .i64 last] 24) (Below.refl w.heap.size w))
  have HB := Lib.hid hb0
  have HRW := Lib.hid h
  have HR := Lib.hid (h.below hb0)
  have LA := Lib.hid ((Lies.new w #[.slice A n c, .int .i64 last] 24).al (o := .cells #[.slice none 0 0, .int .i64 0] 24))
  have LR := Lib.hid (Gen.lies_new1 w (.cells #[.slice A n c, .int .i64 last] 24) #[.slice none 0 0, .int .i64 0] 24)
  have HO : Hid (o = if q = false then (zT, 1) else if f = true ∨ inF (at_ ⟨ls, last⟩ g) (cl now) = false then (zT, 160) else (⟨setT ⟨ls, last⟩ g ⟨(at_ ⟨ls, last⟩ g).own, (at_ ⟨ls, last⟩ g).tok, max (at_ ⟨ls, last⟩ g).unt ut⟩, last⟩, 0)) := Lib.hid (by rw [ho, hq, hf]; rfl)
  have HN := Lib.hid hn
  have HM := Lib.hid hm
  have HQ1 : Hid (q = true → Ok ⟨ls, last⟩ ∧ 0 ≤ g ∧ g < (n : Int)) := Lib.hid (fun e => by rw [hq] at e; rw [hn]; exact (has_iff _ _).1 e)
  clear h hb0 ho hq hf hn hm hut hl hc
  go_enter Try.func20, Try.ntmps20
  go_upto_region 1 with fail
  obtain ⟨W, hW⟩ : ∃ W, W = (w.alloc (.cells #[.slice A n c, .int .i64 last] 24)).alloc (.cells #[.slice none 0 0, .int .i64 0] 24) := ⟨_, rfl⟩
  rw [← hW] at LA LR HR HB ⊢
  clear hW
  have x0 := LA.out.cell (j := 0) rfl; have x1 := LA.out.cell (j := 1) rfl
  go_wp2_with fail
  refine (HH.out _ HR.out).mono ?_
  rintro e w1 ⟨rfl, hb1⟩
  have HB1 := Lib.hid (below_next HB.out hb1)
  have LA1 := Lib.hid (LA.out.below hb1)
  have LR1 := Lib.hid (LR.out.below hb1)
  have HR1 := Lib.hid (HR.out.below hb1)
  clear hb1 x0 x1 LA LR HR HB
  have x0 := LA1.out.cell (j := 0) rfl; have x1 := LA1.out.cell (j := 1) rfl
  cases q
  · have e1 : o = (zT, 1) := HO.out
    have y0 := LR1.out.cell (j := 0) rfl; have y1 := LR1.out.cell (j := 1) rfl
    have z0 := LR1.out.free 0; have z1 := LR1.out.free 1
    have hm0 : m = 0 := by rw [HM.out, e1]; rfl
    subst e1
    subst hm0
    clear HO HM HQ1
    go_wp2_with fail
    exact renewC_ret rfl rfl rfl (lies_res LR1.out _ _) own_none (below_res HB1.out _ _)
  · obtain ⟨hok, hg⟩ := HQ1.out rfl
    obtain ⟨j, rfl⟩ : ∃ j : Nat, g = (j : Int) := ⟨g.toNat, by omega⟩
    obtain ⟨x, hx⟩ : ∃ x, ls[j]? = some x := ⟨_, List.getElem?_eq_getElem (by have := HN.out; omega)⟩
    have HAT := Lib.hid (at_nat ls last hx)
    have HOW : Hid (0 ≤ x.own) := Lib.hid ((okL_iff _ _).1 (hok.each j x hx)).1.1
    have HX := Lib.hid hx
    have HJ : Hid (j < n) := Lib.hid (by omega)
    have hji : (j : Int) < (n : Int) := hg.2
    clear hg hx hok
    obtain ⟨ow, tk, un⟩ := x
    go_wp2_with fail
    refine (HF.out _ HR1.out).mono ?_
    rintro e w3 ⟨rfl, hb2⟩
    have HB3 := Lib.hid (below_next HB1.out hb2)
    have LA3 := Lib.hid (LA1.out.below hb2)
    have LR3 := Lib.hid (LR1.out.below hb2)
    have HR3 := Lib.hid (HR1.out.below hb2)
    clear hb2 x0 x1 LA1 LR1 HR1 HB1
    have x0 := LA3.out.cell (j := 0) rfl; have x1 := LA3.out.cell (j := 1) rfl
    cases f
    · obtain ⟨r, hr⟩ : ∃ r, r = forceL ow un (cl now) := ⟨_, rfl⟩
      have HCC := Lib.hid (fun w' => HC.out ow tk un r hr w')
      have HOR : Hid (o = if r = false then (zT, 160) else (⟨ls.set j ⟨ow, tk, max un ut⟩, last⟩, 0)) := Lib.hid (by
        have e : inF ⟨ow, tk, un⟩ (cl now) = r := by rw [hr]; exact (force_in (x := ⟨ow, tk, un⟩) HOW.out (cl now)).symm
        rw [HO.out, if_neg (by simp), HAT.out, e]
        cases r
        · rw [if_pos (.inr rfl), if_pos rfl]
        · rw [if_neg (by simp), if_neg (by simp)]; rfl)
      have HEE := Lib.hid (fun w' => HEX.out ⟨ow, tk, un⟩ w')
      clear HO HC hr HEX
      obtain ⟨qq, off, hA, d0, d1, d2⟩ := lease_row HR3.out HX.out
      subst hA
      simp only at d0 d1 d2
      go_wp2_with fail
      refine (HEE.out _).mono ?_
      rintro e w4 ⟨rfl, hb2⟩
      have HB4 := Lib.hid (below_next HB3.out hb2)
      have LA4 := Lib.hid (LA3.out.below hb2)
      have LR4 := Lib.hid (LR3.out.below hb2)
      have HR4 := Lib.hid (HR3.out.below hb2)
      clear hb2 x0 x1 LA3 LR3 HR3 HB3 d0 d1 d2
      go_wp2_with fail
      refine (HCC.out _).mono ?_
      rintro e w5 ⟨rfl, hb2⟩
      have HB5 := Lib.hid (below_next HB4.out hb2)
      have LA5 := Lib.hid (LA4.out.below hb2)
      have LR5 := Lib.hid (LR4.out.below hb2)
      have HR5 := Lib.hid (HR4.out.below hb2)
      clear hb2 LA4 LR4 HR4 HB4
      have x0 := LA5.out.cell (j := 0) rfl; have x1 := LA5.out.cell (j := 1) rfl
      have HO := HOR
      clear HOR
      cases r
      · have e1 : o = (zT, 160) := HO.out
        have y0 := LR5.out.cell (j := 0) rfl; have y1 := LR5.out.cell (j := 1) rfl
        have z0 := LR5.out.free 0; have z1 := LR5.out.free 1
        have hm0 : m = 0 := by rw [HM.out, e1]; rfl
        subst e1
        subst hm0
        clear HO HM HQ1
        go_wp2_with fail
        exact renewC_ret rfl rfl rfl (lies_res LR5.out _ _) own_none (below_res HB5.out _ _)
      · have e1 : o = (⟨ls.set j ⟨ow, tk, max un ut⟩, last⟩, 0) := HO.out
        have hm0 : m = n := by rw [HM.out, e1, HN.out]; exact List.length_set
        obtain ⟨mx, hmx⟩ : ∃ mx, mx = max un ut := ⟨_, rfl⟩
        rw [← hmx] at e1
        have HMX : Hid (max un ut = mx) := Lib.hid hmx.symm
        clear hmx
        subst e1
        subst hm0
        clear HO HM HQ1 HH HF
        obtain ⟨qq', off', hA, d0, d1, d2⟩ := lease_row HR5.out HX.out
        cases hA
        simp only at d0 d1 d2
        go_upto_region 6 with fail
        clear d0 d1 d2
        have hbx := below_al (o := .cells (leC ⟨ow, tk, un⟩) 47) (Below.refl w5.heap.size w5)
        have HB6 := Lib.hid (below_next HB5.out hbx)
        have LA6 := Lib.hid (LA5.out.below hbx)
        have LR6 := Lib.hid (LR5.out.below hbx)
        have LX6 := Lib.hid (Lies.new w5 (leC ⟨ow, tk, un⟩) 47)
        have HLT := Lib.hid (lt_of_block LR5.out)
        obtain ⟨b9, hb9⟩ : ∃ b, b = w5.heap.size := ⟨_, rfl⟩
        obtain ⟨W6, hW6⟩ : ∃ W, W = w5.alloc (.cells #[.int .i64 ow, .int .i64 tk, .int .i64 un] 47) := ⟨_, rfl⟩
        simp only [leC] at LX6 HB6 LA6 LR6
        rw [← hW6] at HB6 LA6 LR6 LX6 ⊢
        rw [← hb9] at LX6 HLT ⊢
        have HBW : Hid (w.heap.size ≤ b9) := Lib.hid (by rw [hb9]; exact HB5.out.size)
        clear hW6 hb9 hbx LA5 LR5 HR5 HB5 x0 x1
        refine still_tail 7 (by kernel_rfl) (by kernel_rfl) ?_
        intro w7 hw7
        have HB7 := Lib.hid (by rw [← hw7]; exact below_drewOf HB6.out : Below w.heap.size w w7)
        have LA7 := Lib.hid (by rw [← hw7]; exact LA6.out : Lies w.heap.size #[.slice (some ⟨qq, off, none⟩) m c, .int .i64 last] 24 w7)
        have LR7 := Lib.hid (by rw [← hw7]; exact LR6.out : Lies (w.heap.size + 1) #[.slice none 0 0, .int .i64 0] 24 w7)
        have LX7 := Lib.hid (by rw [← hw7]; exact LX6.out : Lies b9 #[.int .i64 ow, .int .i64 tk, .int .i64 un] 47 w7)
        clear hw7 LA6 LR6 HB6 LX6
        have a0 := LX7.out.cell (j := 0) rfl; have a1 := LX7.out.cell (j := 1) rfl; have a2 := LX7.out.cell (j := 2) rfl
        have g2 := LX7.out.free 2
        simp only [List.take_succ_cons, List.take_zero]
        have hmm := HMX.out
        repeat still_step
        still_call (HAD.out _)
        repeat still_step
        refine wpStill_nil ?_
        go_upto_region 7 with fail
        have HNA : Hid (w.heap.size ≠ b9 ∧ w.heap.size + 1 ≠ b9) := Lib.hid (by have := HLT.out; omega)
        have HB8 := Lib.hid (HB7.out.setCell (p := ⟨b9, 2, none⟩) HBW.out (.int .i64 mx))
        have LR8 := Lib.hid (LR7.out.other HNA.out.2 2 (.int .i64 mx))
        have LA8 := Lib.hid (LA7.out.other HNA.out.1 2 (.int .i64 mx))
        have LX8 : Hid (Lies b9 #[.int .i64 ow, .int .i64 tk, .int .i64 mx] 47 (w7.setCell ⟨b9, 2, none⟩ (.int .i64 mx))) := Lib.hid (by have := LX7.out.set 2 (.int .i64 mx); simpa using this)
        have HR8 : Hid (Row (w7.setCell ⟨b9, 2, none⟩ (.int .i64 mx)) (some ⟨qq, off, none⟩) (lec ls)) := Lib.hid (HRW.out.below HB8.out)
        obtain ⟨W8, hW8⟩ : ∃ W, W = w7.setCell ⟨b9, 2, none⟩ (.int .i64 mx) := ⟨_, rfl⟩
        rw [← hW8] at HB8 LR8 LA8 LX8 HR8 ⊢
        clear hW8 a0 a1 a2 g2 LA7 LR7 HB7 LX7 hmm
        have x0 := LA8.out.cell (j := 0) rfl; have x1 := LA8.out.cell (j := 1) rfl
        have a0 := LX8.out.cell (j := 0) rfl; have a1 := LX8.out.cell (j := 1) rfl; have a2 := LX8.out.cell (j := 2) rfl
        go_wp2_with fail
        refine (HW.out j ⟨ow, tk, mx⟩ HJ.out _ HR8.out).mono ?_
        rintro e w9 ⟨A3, c3, rfl, ho3, hb3⟩
        have HB9 := Lib.hid (below_next HB8.out hb3)
        have LR9 := Lib.hid (LR8.out.below hb3)
        have hlt := lt_of_block LR8.out
        have HO3 := Lib.hid (own_setS (own_setS ho3 ⟨w.heap.size + 1, 0, none⟩ (fun e => by have := (ho3.lt _ e).1; simp only at this; omega) (.slice A3 m c3)) ⟨w.heap.size + 1, 1, none⟩ (fun e => by have := (ho3.lt _ e).1; simp only at this; omega) (.int .i64 last))
        have HSZ := Lib.hid HB8.out.size
        clear hb3 ho3 x0 x1 hlt a0 a1 a2
        have y0 := LR9.out.cell (j := 0) rfl; have y1 := LR9.out.cell (j := 1) rfl
        have z0 := LR9.out.free 0; have z1 := LR9.out.free 1
        go_wp2_with fail
        exact renewC_ret rfl rfl rfl (lies_res LR9.out _ _) (own_baseS HO3.out HSZ.out) (below_res HB9.out _ _)
    · have e1 : o = (zT, 160) := HO.out.trans (by rw [if_neg (by simp), if_pos (.inl rfl)])
      have y0 := LR3.out.cell (j := 0) rfl; have y1 := LR3.out.cell (j := 1) rfl
      have z0 := LR3.out.free 0; have z1 := LR3.out.free 1
      have hm0 : m = 0 := by rw [HM.out, e1]; rfl
      subst e1
      subst hm0
      clear HO HM HQ1
      go_wp2_with fail
      exact renewC_ret rfl rfl rfl (lies_res LR3.out _ _) own_none (below_res HB3.out _ _)
theorem grantC_ret {w wF : World} {R n : Nat} {t : Tb} {k z : Int} {A : Option Addr} {c : Nat} {act : Act} (ht : act.tmps.getD 10 undef = .pointer (some ⟨R, 0, none⟩)) (hk : act.tmps.getD 11 undef = .int .i64 k) (hz : act.tmps.getD 12 undef = .int .i64 z) (hd : act.defers = [])
    (hL : Lies R #[.slice A n c, .int .i64 t.last] 24 wF) (h1 : wF.ownsRow w.heap.size 47 3 (.slice A n c) n (lec t.ls)) (hB : Below w.heap.size w wF) :
    bodyPost Try.prog Try.f18 (GivesTKE n t k z w) .ret act wF := by
  have c0 := hL.cell (j := 0) rfl
  have c1 := hL.cell (j := 1) rfl
  refine bodyPost_ret (v := .tuple #[.agg #[.slice A n c, .int .i64 t.last], .int .i64 k, .int .i64 z]) ?_ hd ⟨A, c, rfl, h1, hB⟩
  have ht2 : act.tmps[10]?.getD undef = .pointer (some ⟨R, 0, none⟩) := by simpa using ht
  have hk2 : act.tmps[11]?.getD undef = .int .i64 k := by simpa using hk
  have hz2 : act.tmps[12]?.getD undef = .int .i64 z := by simpa using hz
  simp [results, Try.results18, go_sem, ht2, hk2, hz2, c0, c1]
/-- A table lies there. -/
def AnyT (b : Nat) (w : World) : Prop := ∃ u0 u1, Lies b #[u0, u1] 24 w
section
variable {W a c' : World} {B b0 n c : Nat} {A : Option Addr} {last : Int}
theorem keepC (hb : Below a.heap.size a c') (h : a.cell? ⟨b0, 0, none⟩ = some (.slice A n c) ∧ a.cell? ⟨b0, 1, none⟩ = some (.int .i64 last) ∧ Below W.heap.size W a ∧ AnyT (b0 + 1) a) : c'.cell? ⟨b0, 0, none⟩ = some (.slice A n c) ∧ c'.cell? ⟨b0, 1, none⟩ = some (.int .i64 last) ∧ Below W.heap.size W c' ∧ AnyT (b0 + 1) c' :=
  ⟨Gen.cell_below h.1 hb, Gen.cell_below h.2.1 hb, below_next h.2.2.1 hb, by obtain ⟨u0, u1, hl⟩ := h.2.2.2; exact ⟨u0, u1, hl.below hb⟩⟩
theorem keepCs {k : Nat} {v0 v1 : Value} (h1 : k = b0 + 1) (h2 : W.heap.size ≤ b0) (h : a.cell? ⟨b0, 0, none⟩ = some (.slice A n c) ∧ a.cell? ⟨b0, 1, none⟩ = some (.int .i64 last) ∧ Below W.heap.size W a ∧ AnyT (b0 + 1) a) : ((a.setCell ⟨k, 0, none⟩ v0).setCell ⟨k, 1, none⟩ v1).cell? ⟨b0, 0, none⟩ = some (.slice A n c) ∧ ((a.setCell ⟨k, 0, none⟩ v0).setCell ⟨k, 1, none⟩ v1).cell? ⟨b0, 1, none⟩ = some (.int .i64 last) ∧ Below W.heap.size W ((a.setCell ⟨k, 0, none⟩ v0).setCell ⟨k, 1, none⟩ v1) ∧ AnyT (b0 + 1) ((a.setCell ⟨k, 0, none⟩ v0).setCell ⟨k, 1, none⟩ v1) := by
  subst h1
  refine ⟨?_, ?_, (h.2.2.1.setCell (p := ⟨b0 + 1, 0, none⟩) (show W.heap.size ≤ b0 + 1 by omega) _).setCell (p := ⟨b0 + 1, 1, none⟩) (show W.heap.size ≤ b0 + 1 by omega) _, ?_⟩
  · rw [World.cell?_setCell_far _ _ _ _ (by show b0 + 1 ≠ b0; omega), World.cell?_setCell_far _ _ _ _ (by show b0 + 1 ≠ b0; omega)]; exact h.1
  · rw [World.cell?_setCell_far _ _ _ _ (by show b0 + 1 ≠ b0; omega), World.cell?_setCell_far _ _ _ _ (by show b0 + 1 ≠ b0; omega)]; exact h.2.1
  · obtain ⟨u0, u1, hl⟩ := h.2.2.2
    exact ⟨v0, v1, by have := (hl.set 0 v0).set 1 v1; simpa using this⟩
end
/-- with, where a table lies for the answer. -/
def GivesTA (b n : Nat) (last : Int) (ms : List Le) (w0 w : World) (e : Ending) (w' : World) : Prop :=
  ∃ A c, e = .returned (.agg #[.slice A n c, .int .i64 last]) ∧ w'.ownsRow w0.heap.size 47 3 (.slice A n c) n (lec ms) ∧ Below w.heap.size w w' ∧ Below w0.heap.size w0 w' ∧ ∃ u0 u1, Lies b #[u0, u1] 24 w'
set_option maxRecDepth 100000 in
set_option maxHeartbeats 2000000 in
theorem ckGrant (ls : List Le) (n : Nat) (last g wk now long : Int) (A : Option Addr) (c : Nat) (o : Tb × Int × Int) (m : Nat) (hn : n = ls.length) (ho : o = grantO ⟨ls, last⟩ g wk (cl now) (addT now long)) (hm : m = o.1.ls.length) (w : World) (h : Row w A (lec ls)) (hl : n ≤ 100000) (hc : n ≤ c) :
    Calls Try.prog 18 #[.agg #[.slice A n c, .int .i64 last], .int .i64 g, .int .i64 wk, .int .i64 now, .int .i64 long] w (GivesTKE m o.1 o.2.1 o.2.2 w) := by
  obtain ⟨q, hq⟩ : ∃ q, q = hasT ⟨ls, last⟩ g := ⟨_, rfl⟩
  obtain ⟨p, hp⟩ : ∃ p, p = decide (1 ≤ wk ∧ wk ≤ 99) := ⟨_, rfl⟩
  have HH := Lib.hid (fun w' (h' : Row w' A (lec ls)) => ckHas ls n last g A c q hn hq w' h' hl hc)
  have HWK := Lib.hid (fun w' => ckWorker wk p hp w')
  have HW := Lib.hid (fun (la : Int) (j : Nat) (x : Le) (hj : j < n) w' (h' : Row w' A (lec ls)) => ckWith ls n la j x A c hn w' h' hl hj)
  have HEX := Lib.hid (fun x w' => ckExamine x w')
  have HC := Lib.hid (fun o k u r hr w' => ckForce o k u now r hr w')
  have HAD := Lib.hid (fun w' => ckAddS now long w')
  obtain ⟨ut, hut⟩ : ∃ ut, ut = addT now long := ⟨_, rfl⟩
  rw [← hut] at HAD ho
  have hb0 := below_al (o := .cells #[.slice none 0 0, .int .i64 0] 24) (below_al (o := .cells #[.slice A n c, .int .i64 last] 24) (Below.refl w.heap.size w))
  have HB := Lib.hid hb0
  have HRW := Lib.hid h
  have HR := Lib.hid (h.below hb0)
  have LA := Lib.hid ((Lies.new w #[.slice A n c, .int .i64 last] 24).al (o := .cells #[.slice none 0 0, .int .i64 0] 24))
  have LR := Lib.hid (Gen.lies_new1 w (.cells #[.slice A n c, .int .i64 last] 24) #[.slice none 0 0, .int .i64 0] 24)
  have HO : Hid (o = if q = false ∨ p = false then (zT, 0, 1) else if inF (at_ ⟨ls, last⟩ g) (cl now) then (zT, 0, 160) else if last = 1073741824 then (zT, 0, 3) else (⟨setT ⟨ls, last⟩ g ⟨wk, last + 1, ut⟩, last + 1⟩, last + 1, 0)) := Lib.hid (by
    rw [ho, hq, hp]
    unfold grantO
    simp only [decide_eq_false_iff_not])
  have HN := Lib.hid hn
  have HM := Lib.hid hm
  have HQ1 : Hid (q = true → Ok ⟨ls, last⟩ ∧ 0 ≤ g ∧ g < (n : Int)) := Lib.hid (fun e => by rw [hq] at e; rw [hn]; exact (has_iff _ _).1 e)
  clear h hb0 ho hq hp hn hm hut hl hc
  go_enter Try.func18, Try.ntmps18
  go_upto_region 1 with fail
  obtain ⟨W, hW⟩ : ∃ W, W = (w.alloc (.cells #[.slice A n c, .int .i64 last] 24)).alloc (.cells #[.slice none 0 0, .int .i64 0] 24) := ⟨_, rfl⟩
  rw [← hW] at LA LR HR HB ⊢
  clear hW
  have x0 := LA.out.cell (j := 0) rfl; have x1 := LA.out.cell (j := 1) rfl
  go_wp2_with fail
  refine (HH.out _ HR.out).mono ?_
  rintro e w1 ⟨rfl, hb1⟩
  have HB1 := Lib.hid (below_next HB.out hb1)
  have LA1 := Lib.hid (LA.out.below hb1)
  have LR1 := Lib.hid (LR.out.below hb1)
  have HR1 := Lib.hid (HR.out.below hb1)
  clear hb1 x0 x1 LA LR HR HB
  have x0 := LA1.out.cell (j := 0) rfl; have x1 := LA1.out.cell (j := 1) rfl
  cases q
  · have e1 : o = (zT, 0, 1) := HO.out.trans (if_pos (.inl rfl))
    have y0 := LR1.out.cell (j := 0) rfl; have y1 := LR1.out.cell (j := 1) rfl
    have z0 := LR1.out.free 0; have z1 := LR1.out.free 1
    have hm0 : m = 0 := by rw [HM.out, e1]; rfl
    subst e1
    subst hm0
    clear HO HM HQ1
    go_wp2_with fail
    exact grantC_ret rfl rfl rfl rfl (lies_res LR1.out _ _) own_none (below_res HB1.out _ _)
  · obtain ⟨hok, hg⟩ := HQ1.out rfl
    obtain ⟨j, rfl⟩ : ∃ j : Nat, g = (j : Int) := ⟨g.toNat, by omega⟩
    obtain ⟨x, hx⟩ : ∃ x, ls[j]? = some x := ⟨_, List.getElem?_eq_getElem (by have := HN.out; omega)⟩
    have HAT := Lib.hid (at_nat ls last hx)
    have HOW : Hid (0 ≤ x.own) := Lib.hid ((okL_iff _ _).1 (hok.each j x hx)).1.1
    have HLA : Hid (0 ≤ last ∧ last ≤ 1073741824) := Lib.hid hok.last
    have HX := Lib.hid hx
    have HJ : Hid (j < n) := Lib.hid (by omega)
    have hji : (j : Int) < (n : Int) := hg.2
    clear hg hx hok
    obtain ⟨ow, tk, un⟩ := x
    go_wp2_with fail
    refine (HWK.out _).mono ?_
    rintro e w2 ⟨rfl, rfl⟩
    cases p
    · have e1 : o = (zT, 0, 1) := HO.out.trans (if_pos (.inr rfl))
      have y0 := LR1.out.cell (j := 0) rfl; have y1 := LR1.out.cell (j := 1) rfl
      have z0 := LR1.out.free 0; have z1 := LR1.out.free 1
      have hm0 : m = 0 := by rw [HM.out, e1]; rfl
      subst e1
      subst hm0
      clear HO HM HQ1
      go_wp2_with fail
      exact grantC_ret rfl rfl rfl rfl (lies_res LR1.out _ _) own_none (below_res HB1.out _ _)
    · obtain ⟨r, hr⟩ : ∃ r, r = forceL ow un (cl now) := ⟨_, rfl⟩
      have HCC := Lib.hid (fun w' => HC.out ow tk un r hr w')
      have HOR : Hid (o = if r = true then (zT, 0, 160) else if last = 1073741824 then (zT, 0, 3) else (⟨ls.set j ⟨wk, last + 1, ut⟩, last + 1⟩, last + 1, 0)) := Lib.hid (by
        have e : inF ⟨ow, tk, un⟩ (cl now) = r := by rw [hr]; exact (force_in (x := ⟨ow, tk, un⟩) HOW.out (cl now)).symm
        rw [HO.out, if_neg (by simp), HAT.out, e]
        rfl)
      have HEE := Lib.hid (fun w' => HEX.out ⟨ow, tk, un⟩ w')
      clear HO HC hr HEX
      obtain ⟨qq, off, hA, d0, d1, d2⟩ := lease_row HR1.out HX.out
      subst hA
      simp only at d0 d1 d2
      go_wp2_with fail
      refine (HEE.out _).mono ?_
      rintro e w4 ⟨rfl, hb2⟩
      have HB4 := Lib.hid (below_next HB1.out hb2)
      have LA4 := Lib.hid (LA1.out.below hb2)
      have LR4 := Lib.hid (LR1.out.below hb2)
      have HR4 := Lib.hid (HR1.out.below hb2)
      clear hb2 x0 x1 LA1 LR1 HR1 HB1 d0 d1 d2
      go_wp2_with fail
      refine (HCC.out _).mono ?_
      rintro e w5 ⟨rfl, hb2⟩
      have HB5 := Lib.hid (below_next HB4.out hb2)
      have LA5 := Lib.hid (LA4.out.below hb2)
      have LR5 := Lib.hid (LR4.out.below hb2)
      have HR5 := Lib.hid (HR4.out.below hb2)
      clear hb2 LA4 LR4 HR4 HB4
      have x0 := LA5.out.cell (j := 0) rfl; have x1 := LA5.out.cell (j := 1) rfl
      have HO := HOR
      clear HOR
      rcases Bool.eq_false_or_eq_true r with er | er
      · subst er
        have e1 : o = (zT, 0, 160) := HO.out
        have y0 := LR5.out.cell (j := 0) rfl; have y1 := LR5.out.cell (j := 1) rfl
        have z0 := LR5.out.free 0; have z1 := LR5.out.free 1
        have hm0 : m = 0 := by rw [HM.out, e1]; rfl
        subst e1
        subst hm0
        clear HO HM HQ1
        go_wp2_with fail
        exact grantC_ret rfl rfl rfl rfl (lies_res LR5.out _ _) own_none (below_res HB5.out _ _)
      · subst er
        by_cases c3 : last = 1073741824
        · have g3 : (last == 1073741824) = true := eq_b c3
          have e1 : o = (zT, 0, 3) := HO.out.trans (by rw [if_neg (by simp), if_pos c3])
          clear c3
          have y0 := LR5.out.cell (j := 0) rfl; have y1 := LR5.out.cell (j := 1) rfl
          have z0 := LR5.out.free 0; have z1 := LR5.out.free 1
          have hm0 : m = 0 := by rw [HM.out, e1]; rfl
          subst e1
          subst hm0
          clear HO HM HQ1
          go_wp2_with fail
          exact grantC_ret rfl rfl rfl rfl (lies_res LR5.out _ _) own_none (below_res HB5.out _ _)
        · have g3 : (last == 1073741824) = false := ne_b c3
          have e1 : o = (⟨ls.set j ⟨wk, last + 1, ut⟩, last + 1⟩, last + 1, 0) := HO.out.trans (by rw [if_neg (by simp), if_neg c3])
          have hm0 : m = n := by rw [HM.out, e1, HN.out]; exact List.length_set
          have hw : IntKind.i64.wrap (last + 1) = last + 1 := by have := HLA.out; exact wrapS (by omega) (by omega)
          subst e1
          subst hm0
          clear HO HM HQ1 c3
          have f1 := LA5.out.free 1
          go_upto_region 8 with fail
          obtain ⟨la, hla⟩ : ∃ la, la = last + 1 := ⟨_, rfl⟩
          have LA6 : Hid (Lies w.heap.size #[.slice (some ⟨qq, off, none⟩) m c, .int .i64 (last + 1)] 24 (w5.setCell ⟨w.heap.size, 1, none⟩ (.int .i64 (last + 1)))) := Lib.hid (by have := LA5.out.set 1 (.int .i64 (last + 1)); simpa using this)
          have LR6 := Lib.hid (LR5.out.other (c := w.heap.size) (by omega) 1 (.int .i64 (last + 1)))
          have HB6 := Lib.hid (HB5.out.setCell (p := ⟨w.heap.size, 1, none⟩) (Nat.le_refl _) (.int .i64 (last + 1)))
          have HR6 : Hid (Row (w5.setCell ⟨w.heap.size, 1, none⟩ (.int .i64 (last + 1))) (some ⟨qq, off, none⟩) (lec ls)) := Lib.hid (HRW.out.below HB6.out)
          obtain ⟨W6, hW6⟩ : ∃ W, W = w5.setCell ⟨w.heap.size, 1, none⟩ (.int .i64 (last + 1)) := ⟨_, rfl⟩
          rw [← hW6] at HB6 LR6 LA6 HR6 ⊢
          rw [← hla] at LA6 ⊢
          have HL1 := Lib.hid hla
          clear hW6 x0 x1 f1 hw g3 hla LA5 LR5 HB5 HR5
          have S0 : W6.drew.cell? ⟨w.heap.size, 0, none⟩ = some (.slice (some ⟨qq, off, none⟩) m c) ∧ W6.drew.cell? ⟨w.heap.size, 1, none⟩ = some (.int .i64 la) ∧ Below w.heap.size w W6.drew ∧ AnyT (w.heap.size + 1) W6.drew := ⟨LA6.out.cell (j := 0) rfl, LA6.out.cell (j := 1) rfl, below_drewOf HB6.out, _, _, LR6.out.drew⟩
          have HTS : Hid (∀ w' : World, (w'.cell? ⟨w.heap.size, 0, none⟩ = some (.slice (some ⟨qq, off, none⟩) m c) ∧ w'.cell? ⟨w.heap.size, 1, none⟩ = some (.int .i64 la) ∧ Below w.heap.size w w' ∧ AnyT (w.heap.size + 1) w') → Calls Try.prog 32 #[.agg #[.slice (some ⟨qq, off, none⟩) m c, .int .i64 la], .int .i64 (j : Int), .agg #[.int .i64 wk, .int .i64 la, .int .i64 ut]] w' (GivesTA (w.heap.size + 1) m la (ls.set j ⟨wk, la, ut⟩) w w')) := Lib.hid fun w' hS =>
            (HW.out la j ⟨wk, la, ut⟩ HJ.out w' (HRW.out.below hS.2.2.1)).mono fun e w'' ⟨A5, c5, he, ho5, hb5⟩ => ⟨A5, c5, he, own_baseS ho5 hS.2.2.1.size, hb5, below_next hS.2.2.1 hb5, by obtain ⟨u0, u1, hl⟩ := hS.2.2.2; exact ⟨u0, u1, hl.below hb5⟩⟩
          clear HH HWK HCC HEE HW
          go_region_held3 (fun w' => w'.cell? ⟨w.heap.size, 0, none⟩ = some (.slice (some ⟨qq, off, none⟩) m c) ∧ w'.cell? ⟨w.heap.size, 1, none⟩ = some (.int .i64 la) ∧ Below w.heap.size w w' ∧ AnyT (w.heap.size + 1) w')
            (first | with_reducible assumption | (with_reducible refine keepCs rfl (Nat.le_refl _) ?_; with_reducible assumption) | ((with_reducible refine keepC hb5 ?_); with_reducible assumption))
            (first
            | (go_at_call 33
               refine (HAD.out _).mono ?_
               rintro e w5 ⟨rfl, rfl⟩
               dsimp only)
            | (go_at_call 32
               refine (HTS.out _ (by with_reducible assumption)).mono ?_
               rintro e w7 ⟨A5, c5, rfl, ho5, hb5, hb7, u0, u1, lr7⟩
               have HB7 := Lib.hid hb7
               have LR7 := Lib.hid lr7
               have HO5 := Lib.hid ho5
               have HBR := Lib.hid (own_blkS ho5 LR7.out tl_ne)
               have y0 := lr7.cell (j := 0) rfl; have y1 := lr7.cell (j := 1) rfl
               have z0 := lr7.free 0; have z1 := lr7.free 1
               clear ho5 hb7 lr7
               dsimp only))
          all_goals (
            go_wp2_with fail
            have hl1 := HL1.out
            subst hl1
            exact grantC_ret rfl rfl rfl rfl (lies_res LR7.out _ _) (own_setS (own_setS HO5.out ⟨w.heap.size + 1, 0, none⟩ HBR.out _) ⟨w.heap.size + 1, 1, none⟩ HBR.out _) (below_res HB7.out _ _))
end Ls
end Go.Proofs.Ytgoapkbpcfbipaa
