/- The walk of the law LeaseMakes. -/
import Derived.Test.YtgoapkbpcfbipaaLawsLeaseB
namespace Go.Proofs.Ytgoapkbpcfbipaa
open Go.ChangeShapes Go.WideShapes Go.ChangeAt Go.RowKit
set_option linter.unusedVariables false
set_option maxRecDepth 8000
namespace Ls
open Gen (TellsB TellsI SaysB row_one flat_len flat_get)
open Tick (cl addT)
open Rg (iv)
theorem rfIntsN (l : List Int) (m : Nat) (hm : m = l.length) (A : Option Addr) (c : Nat) (B : Option Addr) (d : Nat) (w : World) (hl : m ≤ 100000) (hA : Row w A (iv l)) (hB : Row w B (iv l)) :
    Calls Try.prog 15 #[.slice A m c, .slice B m d] w (TellsB true w) := by
  subst hm
  exact Rg.rfIntsG l A c B d w (by omega) hA hB
theorem own_rowI {w : World} {B n c : Nat} {A : Option Addr} {l : List Int} (h : w.ownsRow B 3 1 (.slice A n c) n (iv l)) : Row w A (iv l) := by
  obtain ⟨A', c', e, h1, h2, h3, h4, _⟩ := own_form h (by omega)
  cases e
  exact h4
theorem own_upB {w w' : World} {B size n : Nat} {e : TypeId} {v : Value} {xs : List Value} (h : w.ownsRow B e size v n xs) (hb : ∀ k, k < w.heap.size → w'.heap[k]? = w.heap[k]?) : w'.ownsRow B e size v n xs :=
  Gen.ownsRow_block h fun k _ hk => hb k hk
/-- The law's blocks. -/
structure MkAt (w0 : World) (b0 b2 : Nat) (t o : Tb) (n m : Nat) (A A2 : Option Addr) (c c2 : Nat) (w : World) : Prop where
  t0 : TbAt b0 t n A c w
  t2 : TbAt b2 o m A2 c2 w
  below : Below w0.heap.size w0 w
theorem MkAt.next {w0 : World} {b0 b2 : Nat} {t o : Tb} {n m : Nat} {A A2 : Option Addr} {c c2 : Nat} {w w' : World} (h : MkAt w0 b0 b2 t o n m A A2 c c2 w) (hb : Below w.heap.size w w') : MkAt w0 b0 b2 t o n m A A2 c c2 w' :=
  ⟨h.t0.next hb, h.t2.next hb, below_next h.below hb⟩
theorem keepMk {w0 : World} {b0 b2 : Nat} {t o : Tb} {n m : Nat} {A A2 : Option Addr} {c c2 : Nat} {w w' : World} (hb : Below w.heap.size w w')
    (h : w.cell? ⟨b0, 0, none⟩ = some (.slice A n c) ∧ w.cell? ⟨b0, 1, none⟩ = some (.int .i64 t.last) ∧ w.cell? ⟨b2, 0, none⟩ = some (.slice A2 m c2) ∧ w.cell? ⟨b2, 1, none⟩ = some (.int .i64 o.last) ∧ MkAt w0 b0 b2 t o n m A A2 c c2 w) :
    w'.cell? ⟨b0, 0, none⟩ = some (.slice A n c) ∧ w'.cell? ⟨b0, 1, none⟩ = some (.int .i64 t.last) ∧ w'.cell? ⟨b2, 0, none⟩ = some (.slice A2 m c2) ∧ w'.cell? ⟨b2, 1, none⟩ = some (.int .i64 o.last) ∧ MkAt w0 b0 b2 t o n m A A2 c c2 w' :=
  ⟨Gen.cell_below h.1 hb, Gen.cell_below h.2.1 hb, Gen.cell_below h.2.2.1 hb, Gen.cell_below h.2.2.2.1 hb, h.2.2.2.2.next hb⟩
theorem MkAt.cells {w0 : World} {b0 b2 : Nat} {t o : Tb} {n m : Nat} {A A2 : Option Addr} {c c2 : Nat} {w : World} (h : MkAt w0 b0 b2 t o n m A A2 c c2 w) :
    w.cell? ⟨b0, 0, none⟩ = some (.slice A n c) ∧ w.cell? ⟨b0, 1, none⟩ = some (.int .i64 t.last) ∧ w.cell? ⟨b2, 0, none⟩ = some (.slice A2 m c2) ∧ w.cell? ⟨b2, 1, none⟩ = some (.int .i64 o.last) ∧ MkAt w0 b0 b2 t o n m A A2 c c2 w :=
  ⟨h.t0.at_.cell (j := 0) rfl, h.t0.at_.cell (j := 1) rfl, h.t2.at_.cell (j := 0) rfl, h.t2.at_.cell (j := 1) rfl, h⟩
theorem rowOfMk {w0 : World} {b0 b2 : Nat} {t o : Tb} {n m : Nat} {A A2 : Option Addr} {c c2 : Nat} {w : World} (h : w.cell? ⟨b0, 0, none⟩ = some (.slice A n c) ∧ w.cell? ⟨b0, 1, none⟩ = some (.int .i64 t.last) ∧ w.cell? ⟨b2, 0, none⟩ = some (.slice A2 m c2) ∧ w.cell? ⟨b2, 1, none⟩ = some (.int .i64 o.last) ∧ MkAt w0 b0 b2 t o n m A A2 c c2 w) : Row w A (lec t.ls) := h.2.2.2.2.t0.row
theorem belowOfMk {w0 : World} {b0 b2 : Nat} {t o : Tb} {n m : Nat} {A A2 : Option Addr} {c c2 : Nat} {w : World} (h : w.cell? ⟨b0, 0, none⟩ = some (.slice A n c) ∧ w.cell? ⟨b0, 1, none⟩ = some (.int .i64 t.last) ∧ w.cell? ⟨b2, 0, none⟩ = some (.slice A2 m c2) ∧ w.cell? ⟨b2, 1, none⟩ = some (.int .i64 o.last) ∧ MkAt w0 b0 b2 t o n m A A2 c c2 w) : Below w0.heap.size w0 w := h.2.2.2.2.below
theorem row2OfMk {w0 : World} {b0 b2 : Nat} {t o : Tb} {n m : Nat} {A A2 : Option Addr} {c c2 : Nat} {w : World} (h : w.cell? ⟨b0, 0, none⟩ = some (.slice A n c) ∧ w.cell? ⟨b0, 1, none⟩ = some (.int .i64 t.last) ∧ w.cell? ⟨b2, 0, none⟩ = some (.slice A2 m c2) ∧ w.cell? ⟨b2, 1, none⟩ = some (.int .i64 o.last) ∧ MkAt w0 b0 b2 t o n m A A2 c c2 w) : Row w A2 (lec o.ls) := h.2.2.2.2.t2.row
theorem mkOfMk {w0 : World} {b0 b2 : Nat} {t o : Tb} {n m : Nat} {A A2 : Option Addr} {c c2 : Nat} {w : World} (h : w.cell? ⟨b0, 0, none⟩ = some (.slice A n c) ∧ w.cell? ⟨b0, 1, none⟩ = some (.int .i64 t.last) ∧ w.cell? ⟨b2, 0, none⟩ = some (.slice A2 m c2) ∧ w.cell? ⟨b2, 1, none⟩ = some (.int .i64 o.last) ∧ MkAt w0 b0 b2 t o n m A A2 c c2 w) : MkAt w0 b0 b2 t o n m A A2 c c2 w := h.2.2.2.2
theorem keepMkd {w0 : World} {b0 b2 : Nat} {t o : Tb} {n m : Nat} {A A2 : Option Addr} {c c2 : Nat} {w : World} {ob : Obj}
    (h : w.drew.cell? ⟨b0, 0, none⟩ = some (.slice A n c) ∧ w.drew.cell? ⟨b0, 1, none⟩ = some (.int .i64 t.last) ∧ w.drew.cell? ⟨b2, 0, none⟩ = some (.slice A2 m c2) ∧ w.drew.cell? ⟨b2, 1, none⟩ = some (.int .i64 o.last) ∧ MkAt w0 b0 b2 t o n m A A2 c c2 w.drew) :
    (w.alloc ob).drew.cell? ⟨b0, 0, none⟩ = some (.slice A n c) ∧ (w.alloc ob).drew.cell? ⟨b0, 1, none⟩ = some (.int .i64 t.last) ∧ (w.alloc ob).drew.cell? ⟨b2, 0, none⟩ = some (.slice A2 m c2) ∧ (w.alloc ob).drew.cell? ⟨b2, 1, none⟩ = some (.int .i64 o.last) ∧ MkAt w0 b0 b2 t o n m A A2 c c2 (w.alloc ob).drew :=
  keepMk (w := w.drew) (w' := (w.alloc ob).drew) (below_al (b := w.drew) (o := ob) (Below.refl _ _)) h
theorem row_made {w : World} {b : Nat} {M : Array Value} {l : List Value} (h : Lies b M 47 w) (e : M.toList = l) : Row w (some ⟨b, 0, none⟩) l := by
  refine .inr ⟨b, 0, rfl, fun j u hu => ?_⟩
  rw [Nat.zero_add]
  refine h.cell ?_
  rw [← hu, ← e, Array.getElem?_toList]
set_option maxRecDepth 100000 in
set_option maxHeartbeats 2000000 in
theorem walkMakes (g : Int) (ls : List Le) (last now : Int) (A : Option Addr) (c : Nat) (w : World) (h : Row w A (lec ls)) (hc : ls.length ≤ c) :
    Calls Try.prog 3 #[.int .i64 g, .agg #[.slice A ls.length c, .int .i64 last], .int .i64 now] w (TellsB true w) := by
  obtain ⟨n, hn⟩ : ∃ n, n = ls.length := ⟨_, rfl⟩
  rw [← hn] at hc ⊢
  have T0 := Lib.hid (TbAt.new (t := ⟨ls, last⟩) h hn hc)
  have HB := Lib.hid (below_al (o := .cells #[.slice A n c, .int .i64 last] 24) (Below.refl w.heap.size w))
  obtain ⟨r, hr⟩ : ∃ r, r = decide (n ≤ 100) := ⟨_, rfl⟩
  have HS := Lib.hid (fun w' => lawSmall A n c last r hr w')
  have HAL := Lib.hid (fun w' => lawAlive w')
  obtain ⟨o, ho⟩ : ∃ o, o = newO g := ⟨_, rfl⟩
  obtain ⟨m, hm⟩ : ∃ m, m = o.1.ls.length := ⟨_, rfl⟩
  obtain ⟨f, hf⟩ : ∃ f, f = rightT ⟨ls, last⟩ := ⟨_, rfl⟩
  obtain ⟨p, hp⟩ : ∃ p, p = ownersO ⟨ls, last⟩ (cl now) := ⟨_, rfl⟩
  obtain ⟨q, hq⟩ : ∃ q, q = p.length := ⟨_, rfl⟩
  have hql : q ≤ n := by
    rw [hq, hp, hn]
    unfold ownersO
    split
    · rw [List.length_map]; exact Nat.le_refl _
    · exact Nat.zero_le _
  have HQL := Lib.hid hql
  have HG := Lib.hid (fun w' => ckNew g o ho m hm w')
  have HF := Lib.hid (fun (h1 : n ≤ 100) w' (h' : Row w' A (lec ls)) => ckRight ls n last A c f hn hf w' h' (by omega) hc)
  have HE := Lib.hid (fun (h1 : n ≤ 100) w' (h' : Row w' A (lec ls)) => rfRight ls n last A c f hn hf w' h' (by omega))
  have HO := Lib.hid (fun (h1 : n ≤ 100) w' (h' : Row w' A (lec ls)) => ckOwners ls n last now A c p q hn hp hq w' h' (by omega) hc)
  have HP := Lib.hid (fun (h1 : n ≤ 100) w' (h' : Row w' A (lec ls)) => rfOwners ls n last now A c p q hn hp hq w' h' (by omega))
  have HI := Lib.hid (fun (h1 : q ≤ 100000) A c B d w' hA hB => rfIntsN p q hq A c B d w' h1 hA hB)
  have HRR := Lib.hid hr
  have hway : (g < 1 ∧ o = (zT, 1)) ∨ (¬ g < 1 ∧ 32 < g ∧ o = (zT, 1)) ∨ (¬ g < 1 ∧ ¬ 32 < g ∧ m ≤ 32 ∧ g = (m : Int) ∧ o = (⟨List.replicate m ⟨0, 0, 0⟩, 0⟩, 0)) := by
    by_cases h1 : g < 1
    · left; exact ⟨h1, ho.trans (if_pos (.inl h1))⟩
    · right
      by_cases h2 : 32 < g
      · left; exact ⟨h1, h2, ho.trans (if_pos (.inr h2))⟩
      · right
        have e : o = (⟨List.replicate g.toNat ⟨0, 0, 0⟩, 0⟩, 0) := ho.trans (if_neg (by omega))
        have em : m = g.toNat := by rw [hm, e]; exact List.length_replicate
        exact ⟨h1, h2, by omega, by omega, by rw [em]; exact e⟩
  have HM0 := Lib.hid hm
  clear h hn hc ho hm hr hp hq hf hql
  go_enter Try.func3, Try.ntmps3
  go_upto_region 1 with fail
  obtain ⟨b0, hb0⟩ : ∃ b, b = w.heap.size := ⟨_, rfl⟩
  obtain ⟨W, hW⟩ : ∃ W, W = w.alloc (.cells #[.slice A n c, .int .i64 last] 24) := ⟨_, rfl⟩
  rw [← hW] at T0 HB ⊢
  rw [← hb0] at T0 ⊢
  clear hW hb0
  have x0 := T0.out.at_.cell (j := 0) rfl; have x1 := T0.out.at_.cell (j := 1) rfl
  go_wp2_with fail
  refine (HS.out _).mono ?_
  rintro e w1 ⟨rfl, hb1⟩
  have HB1 := Lib.hid (below_next HB.out hb1)
  have T1 := Lib.hid (T0.out.next hb1)
  clear hb1 x0 x1 HB T0
  cases r
  · clear hway
    go_wp2_with fail
    go_ret
    exact ⟨rfl, HB1.out⟩
  · have HN1 : Hid (n ≤ 100) := Lib.hid (of_decide_eq_true HRR.out.symm)
    have HQ1 : Hid (q ≤ 100000) := Lib.hid (by have := HQL.out; have := HN1.out; omega)
    obtain ⟨⟨ms, la⟩, z⟩ := o
    have HW := Lib.hid hway
    clear hway HRR HQL HS
    go_wp2_with fail
    refine (HG.out _).mono ?_
    rintro e w2 ⟨A2, c2, rfl, ho2, hb2⟩
    have hbk := below_next hb2 (below_al (o := .cells #[.slice A2 m c2, .int .i64 la] 24) (Below.refl w2.heap.size w2))
    have HB2 := Lib.hid (below_next HB1.out hbk)
    have T2 := Lib.hid (T1.out.next hbk)
    have U2 := Lib.hid (TbAt.own (t := ⟨ms, la⟩) ho2)
    clear hb2 T1 HB1 hbk HG
    go_upto_region 4 with fail
    obtain ⟨b2, hb2⟩ : ∃ b, b = w2.heap.size := ⟨_, rfl⟩
    obtain ⟨W2, hW2⟩ : ∃ W, W = w2.alloc (.cells #[.slice A2 m c2, .int .i64 la] 24) := ⟨_, rfl⟩
    rw [← hW2] at T2 HB2 U2 ⊢
    rw [← hb2] at U2 ⊢
    clear hW2 hb2 ho2
    have K2 : Hid (MkAt w b0 b2 ⟨ls, last⟩ ⟨ms, la⟩ n m A A2 c c2 W2) := Lib.hid ⟨T2.out, U2.out, HB2.out⟩
    clear T2 U2 HB2
    rcases HW.out with ⟨a1, e⟩ | ⟨a1, a2, e⟩ | ⟨a1, a2, hm32, eg, e⟩
    · have e1 : ms = [] := congrArg (fun x => x.1.ls) e
      have e2 : la = 0 := congrArg (fun x => x.1.last) e
      have e3 : z = 1 := congrArg (fun x => x.2) e
      have e4 : m = 0 := by rw [HM0.out]; show ms.length = 0; rw [e1]; rfl
      clear e HW HM0
      subst e1 e2 e3 e4
      have g1 : decide (g < 1) = true := decide_eq_true a1
      have y0 := K2.out.t2.at_.cell (j := 0) rfl; have y1 := K2.out.t2.at_.cell (j := 1) rfl
      have KX := K2
      go_upto_region 9 with fail
      clear y0 y1 g1 a1
      have K4 := Lib.hid (KX.out.next (below_drewOf (Below.refl _ _)))
      go_wp2_with fail
      have S0 := K4.out.cells
      go_region_held3 (fun w' => w'.cell? ⟨b0, 0, none⟩ = some (.slice A n c) ∧ w'.cell? ⟨b0, 1, none⟩ = some (.int .i64 last) ∧ w'.cell? ⟨b2, 0, none⟩ = some (.slice A2 0 c2) ∧ w'.cell? ⟨b2, 1, none⟩ = some (.int .i64 0) ∧ MkAt w b0 b2 ⟨ls, last⟩ ⟨[], 0⟩ n 0 A A2 c c2 w')
        (first | with_reducible assumption | ((with_reducible refine keepMk (t := ⟨ls, last⟩) (o := ⟨[], 0⟩) hb5 ?_); with_reducible assumption))
        (first
        | (go_at_call 12
           refine (HAL.out _).mono ?_
           rintro e w5 ⟨rfl, hb5⟩
           dsimp only)
        | (go_at_call 13
           refine (HF.out HN1.out _ (rowOfMk (t := ⟨ls, last⟩) (o := ⟨[], 0⟩) (by with_reducible assumption))).mono ?_
           rintro e w5 ⟨rfl, hb5⟩
           dsimp only)
        | (go_at_call 14
           refine (HE.out HN1.out _ (rowOfMk (t := ⟨ls, last⟩) (o := ⟨[], 0⟩) (by with_reducible assumption))).mono ?_
           rintro e w5 ⟨rfl, hb5⟩
           dsimp only)
        | (go_at_call 16
           refine (HO.out HN1.out _ (rowOfMk (t := ⟨ls, last⟩) (o := ⟨[], 0⟩) (by with_reducible assumption))).mono ?_
           rintro e w5 ⟨A5, c5, rfl, ho5, hb5⟩
           (try have HR6 := Lib.hid (own_upB HR6.out hb5.block))
           have HR5 := Lib.hid ho5
           clear ho5
           dsimp only)
        | (go_at_call 17
           refine (HP.out HN1.out _ (rowOfMk (t := ⟨ls, last⟩) (o := ⟨[], 0⟩) (by with_reducible assumption))).mono ?_
           rintro e w6 ⟨A6, c6, rfl, ho6, hb5⟩
           (try have HR5 := Lib.hid (own_upB HR5.out hb5.block))
           have HR6 := Lib.hid ho6
           clear ho6
           dsimp only)
        | (go_at_call 15
           refine (HI.out HQ1.out _ _ _ _ _ (own_rowI HR5.out) (own_rowI HR6.out)).mono ?_
           rintro e w5 ⟨rfl, hb5⟩
           have HB9 := Lib.hid (below_next (belowOfMk (t := ⟨ls, last⟩) (o := ⟨[], 0⟩) (by with_reducible assumption)) hb5)
           dsimp only))
      all_goals (
        go_wp2_with fail
        go_ret
        exact ⟨by cases f <;> rfl, HB9.out⟩)
    · have e1 : ms = [] := congrArg (fun x => x.1.ls) e
      have e2 : la = 0 := congrArg (fun x => x.1.last) e
      have e3 : z = 1 := congrArg (fun x => x.2) e
      have e4 : m = 0 := by rw [HM0.out]; show ms.length = 0; rw [e1]; rfl
      clear e HW HM0
      subst e1 e2 e3 e4
      have g1 : decide (g < 1) = false := decide_eq_false (by omega)
      have g2 : decide (32 < g) = true := decide_eq_true a2
      have y0 := K2.out.t2.at_.cell (j := 0) rfl; have y1 := K2.out.t2.at_.cell (j := 1) rfl
      have KX := K2
      go_upto_region 9 with fail
      clear y0 y1 g1 g2 a1 a2
      have K4 := Lib.hid (KX.out.next (below_drewOf (Below.refl _ _)))
      go_wp2_with fail
      have S0 := K4.out.cells
      go_region_held3 (fun w' => w'.cell? ⟨b0, 0, none⟩ = some (.slice A n c) ∧ w'.cell? ⟨b0, 1, none⟩ = some (.int .i64 last) ∧ w'.cell? ⟨b2, 0, none⟩ = some (.slice A2 0 c2) ∧ w'.cell? ⟨b2, 1, none⟩ = some (.int .i64 0) ∧ MkAt w b0 b2 ⟨ls, last⟩ ⟨[], 0⟩ n 0 A A2 c c2 w')
        (first | with_reducible assumption | ((with_reducible refine keepMk (t := ⟨ls, last⟩) (o := ⟨[], 0⟩) hb5 ?_); with_reducible assumption))
        (first
        | (go_at_call 12
           refine (HAL.out _).mono ?_
           rintro e w5 ⟨rfl, hb5⟩
           dsimp only)
        | (go_at_call 13
           refine (HF.out HN1.out _ (rowOfMk (t := ⟨ls, last⟩) (o := ⟨[], 0⟩) (by with_reducible assumption))).mono ?_
           rintro e w5 ⟨rfl, hb5⟩
           dsimp only)
        | (go_at_call 14
           refine (HE.out HN1.out _ (rowOfMk (t := ⟨ls, last⟩) (o := ⟨[], 0⟩) (by with_reducible assumption))).mono ?_
           rintro e w5 ⟨rfl, hb5⟩
           dsimp only)
        | (go_at_call 16
           refine (HO.out HN1.out _ (rowOfMk (t := ⟨ls, last⟩) (o := ⟨[], 0⟩) (by with_reducible assumption))).mono ?_
           rintro e w5 ⟨A5, c5, rfl, ho5, hb5⟩
           (try have HR6 := Lib.hid (own_upB HR6.out hb5.block))
           have HR5 := Lib.hid ho5
           clear ho5
           dsimp only)
        | (go_at_call 17
           refine (HP.out HN1.out _ (rowOfMk (t := ⟨ls, last⟩) (o := ⟨[], 0⟩) (by with_reducible assumption))).mono ?_
           rintro e w6 ⟨A6, c6, rfl, ho6, hb5⟩
           (try have HR5 := Lib.hid (own_upB HR5.out hb5.block))
           have HR6 := Lib.hid ho6
           clear ho6
           dsimp only)
        | (go_at_call 15
           refine (HI.out HQ1.out _ _ _ _ _ (own_rowI HR5.out) (own_rowI HR6.out)).mono ?_
           rintro e w5 ⟨rfl, hb5⟩
           have HB9 := Lib.hid (below_next (belowOfMk (t := ⟨ls, last⟩) (o := ⟨[], 0⟩) (by with_reducible assumption)) hb5)
           dsimp only))
      all_goals (
        go_wp2_with fail
        go_ret
        exact ⟨by cases f <;> rfl, HB9.out⟩)
    · have e1 : ms = List.replicate m ⟨0, 0, 0⟩ := congrArg (fun x => x.1.ls) e
      have e2 : la = 0 := congrArg (fun x => x.1.last) e
      have e3 : z = 0 := congrArg (fun x => x.2) e
      have HMS := Lib.hid e1
      have HM1 : Hid (m = ms.length) := Lib.hid HM0.out
      have HM32 := Lib.hid hm32
      clear e HW HM0 e1
      subst e2 e3 eg
      have g1 : decide ((m : Int) < 1) = false := decide_eq_false (by omega)
      have g2 : decide (32 < (m : Int)) = false := decide_eq_false (by omega)
      obtain ⟨i0, hi, hz0, hz1, hz2⟩ := info_partsS LInfo
      obtain ⟨M, hM⟩ : ∃ M, M = madeCells (Value.agg #[.int .i64 0, .int .i64 0, .int .i64 0]).cells (((m : Nat) : Int).toNat * i0.size) := ⟨_, rfl⟩
      have hmk : ∀ W : World, (Instr.makeSlice 22 (.int .i64 (m : Int)) (.int .i64 (m : Int))).run Try.prog W = .ok (.slice (some ⟨W.heap.size, 0, none⟩) m m) (W.alloc (.cells M 47)) := fun W => by
        have h := run_make (P := Try.prog) W 22 47 i0 _ Try.underlying22 hi hz0 .i64 .i64 (m : Int) (m : Int) (by omega) (by omega) (by rw [hz2]; omega) (by omega)
        rw [← hM] at h
        simpa using h
      have HMC := Lib.hid (show M.toList = lec ms from by rw [hM, hz1, Int.toNat_natCast, HMS.out]; exact made_lec m)
      have HLK := Lib.hid (fun A c A' c' w' hA hA' => rfLikeT ms m 0 HM1.out (by have := HM32.out; omega) A A' c c' w' hA hA')
      clear hM hi hz0 hz1 hz2 HMS HM1
      have y0 := K2.out.t2.at_.cell (j := 0) rfl; have y1 := K2.out.t2.at_.cell (j := 1) rfl
      go_upto_region 7 with fail
      clear y0 y1 g1 g2 a1 a2
      have K3 := Lib.hid (K2.out.next (below_drewOf (Below.refl _ _)))
      have S0 := K3.out.cells
      go_region_held3 (fun w' => w'.cell? ⟨b0, 0, none⟩ = some (.slice A n c) ∧ w'.cell? ⟨b0, 1, none⟩ = some (.int .i64 last) ∧ w'.cell? ⟨b2, 0, none⟩ = some (.slice A2 m c2) ∧ w'.cell? ⟨b2, 1, none⟩ = some (.int .i64 0) ∧ MkAt w b0 b2 ⟨ls, last⟩ ⟨ms, 0⟩ n m A A2 c c2 w')
        (first | with_reducible assumption | ((with_reducible refine keepMk (t := ⟨ls, last⟩) (o := ⟨ms, 0⟩) hb5 ?_); with_reducible assumption) | ((with_reducible refine keepMkd (t := ⟨ls, last⟩) (o := ⟨ms, 0⟩) ?_); with_reducible assumption) | ((with_reducible refine keepMk (t := ⟨ls, last⟩) (o := ⟨ms, 0⟩) (below_al (Below.refl _ _)) ?_); with_reducible assumption))
        ((go_at_call 11
          refine (HLK.out _ _ _ _ _ (row2OfMk (t := ⟨ls, last⟩) (o := ⟨ms, 0⟩) (by with_reducible assumption)) (row_made (M := M) (by first | exact Lies.new _ _ _ | exact (Lies.new _ _ _).drew) HMC.out)).mono ?_
          rintro e w5 ⟨rfl, hb5⟩
          have KX := Lib.hid ((mkOfMk (t := ⟨ls, last⟩) (o := ⟨ms, 0⟩) (by with_reducible assumption)).next hb5)
          dsimp only))
      all_goals (
        go_upto_region 9 with fail
        have K4 := Lib.hid (KX.out.next (below_drewOf (Below.refl _ _)))
        go_wp2_with fail
        have S0 := K4.out.cells
        go_region_held3 (fun w' => w'.cell? ⟨b0, 0, none⟩ = some (.slice A n c) ∧ w'.cell? ⟨b0, 1, none⟩ = some (.int .i64 last) ∧ w'.cell? ⟨b2, 0, none⟩ = some (.slice A2 m c2) ∧ w'.cell? ⟨b2, 1, none⟩ = some (.int .i64 0) ∧ MkAt w b0 b2 ⟨ls, last⟩ ⟨ms, 0⟩ n m A A2 c c2 w')
          (first | with_reducible assumption | ((with_reducible refine keepMk (t := ⟨ls, last⟩) (o := ⟨ms, 0⟩) hb5 ?_); with_reducible assumption))
          (first
          | (go_at_call 12
             refine (HAL.out _).mono ?_
             rintro e w5 ⟨rfl, hb5⟩
             dsimp only)
          | (go_at_call 13
             refine (HF.out HN1.out _ (rowOfMk (t := ⟨ls, last⟩) (o := ⟨ms, 0⟩) (by with_reducible assumption))).mono ?_
             rintro e w5 ⟨rfl, hb5⟩
             dsimp only)
          | (go_at_call 14
             refine (HE.out HN1.out _ (rowOfMk (t := ⟨ls, last⟩) (o := ⟨ms, 0⟩) (by with_reducible assumption))).mono ?_
             rintro e w5 ⟨rfl, hb5⟩
             dsimp only)
          | (go_at_call 16
             refine (HO.out HN1.out _ (rowOfMk (t := ⟨ls, last⟩) (o := ⟨ms, 0⟩) (by with_reducible assumption))).mono ?_
             rintro e w5 ⟨A5, c5, rfl, ho5, hb5⟩
             (try have HR6 := Lib.hid (own_upB HR6.out hb5.block))
             have HR5 := Lib.hid ho5
             clear ho5
             dsimp only)
          | (go_at_call 17
             refine (HP.out HN1.out _ (rowOfMk (t := ⟨ls, last⟩) (o := ⟨ms, 0⟩) (by with_reducible assumption))).mono ?_
             rintro e w6 ⟨A6, c6, rfl, ho6, hb5⟩
             (try have HR5 := Lib.hid (own_upB HR5.out hb5.block))
             have HR6 := Lib.hid ho6
             clear ho6
             dsimp only)
          | (go_at_call 15
             refine (HI.out HQ1.out _ _ _ _ _ (own_rowI HR5.out) (own_rowI HR6.out)).mono ?_
             rintro e w5 ⟨rfl, hb5⟩
             have HB9 := Lib.hid (below_next (belowOfMk (t := ⟨ls, last⟩) (o := ⟨ms, 0⟩) (by with_reducible assumption)) hb5)
             dsimp only))
        all_goals (
          go_wp2_with fail
          go_ret
          exact ⟨by cases f <;> rfl, HB9.out⟩))
end Ls
theorem lawLeaseMakes : Lift.Owes 3 [3, 24, 2] := by
  intro H enc W base args ds ps hval hA _ _
  obtain ⟨v0, v1, v2, d0, d1, d2, p0, p1, p2, rfl, rfl, rfl, h0, h1, h2⟩ := trodAll_three hA
  obtain ⟨a, rfl, rfl, rfl, w1⟩ := open_int Try.underlying3 (hval 0 _ v0 rfl rfl) h0
  obtain ⟨ls, last, A, c, rfl, hc, hr⟩ := Ls.openTable (hval 1 _ v1 rfl rfl) h1
  obtain ⟨m, rfl, rfl, rfl, w3⟩ := open_int Try.underlying2 (hval 2 _ v2 rfl rfl) h2
  exact Ls.walkMakes a ls last m A c W hr hc
end Go.Proofs.Ytgoapkbpcfbipaa
