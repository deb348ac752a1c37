/- The code's Offer: the contracts of the code's calls, as the laws use them. -/
import Derived.Test.YtgbklmncfajcgaaAlignCi
import Derived.BigRegion
namespace Go.Proofs.Ytgbklmncfajcgaa
open Go.ChangeShapes Go.WideShapes Go.ChangeAt Go.RowKit
set_option linter.unusedVariables false
set_option maxRecDepth 8000
namespace Aln
open Gen (TellsB TellsI row_one flat_len flat_get Mine)
open Itm
theorem offerC_ret {M : Nat → Prop} {w wF : World} {R ng nl : Nat} {o : An} {G : Option Addr} {cG : Nat} {H : Option Addr} {cH : Nat} {L : Option Addr} {cL : Nat} {act : Act} (ht : act.tmps.getD 6 undef = .pointer (some ⟨R, 0, none⟩)) (h7 : act.tmps.getD 7 undef = .bool o.pass) (h8 : act.tmps.getD 8 undef = .int .i64 o.done) (h9 : act.tmps.getD 9 undef = .slice L nl cL) (h10 : act.tmps.getD 10 undef = .int .i64 o.e) (hd : act.defers = [])
    (hL : Lies R (alC o.a.n G ng cG H ng cH) 25 wF) (hA : AlM M wF o.a ng ng G cG H cH) (hT : LtM M wF o.late nl L cL) (hB : Below w.heap.size w wF) :
    bodyPost Try.prog Try.f17 (GivesOfM M o w) .ret act wF := by
  have c0 := hL.cell (j := 0) rfl
  have c1 := hL.cell (j := 1) rfl
  have c2 := hL.cell (j := 2) rfl
  refine bodyPost_ret (v := .tuple #[alV o.a.n G ng cG H ng cH, .bool o.pass, .int .i64 o.done, .slice L nl cL, .int .i64 o.e]) ?_ hd ⟨ng, nl, G, cG, H, cH, L, cL, rfl, hA, hT, hB⟩
  have t6 : act.tmps[6]?.getD undef = .pointer (some ⟨R, 0, none⟩) := by simpa using ht
  have t7 : act.tmps[7]?.getD undef = .bool o.pass := by simpa using h7
  have t8 : act.tmps[8]?.getD undef = .int .i64 o.done := by simpa using h8
  have t9 : act.tmps[9]?.getD undef = .slice L nl cL := by simpa using h9
  have t10 : act.tmps[10]?.getD undef = .int .i64 o.e := by simpa using h10
  simp [results, Try.results17, go_sem, t6, t7, t8, t9, t10, c0, c1, c2]
theorem none_alM (M : Nat → Prop) (w : World) : AlM M w zA 0 0 none 0 none 0 :=
  ⟨[], ⟨rfl, rfl, .inl rfl, ⟨.inl rfl, fun x hx => by cases hx⟩, rfl, Nat.le_refl _, Nat.le_refl _, fun x hx => by cases hx⟩, ⟨by omega, by omega, fun x hx => by cases hx⟩, ⟨.inl rfl, .inl rfl, fun x hx => by cases hx⟩⟩
theorem none_ltM (M : Nat → Prop) (w : World) : LtM M w [] 0 none 0 := ⟨⟨rfl, .inl rfl, Nat.le_refl _⟩, .inl rfl⟩
/-- Offer's blocks. -/
structure OcAt (w0 : World) (b1 b2 R : Nat) (C : Array Value) (i : It) (w : World) : Prop where
  arg : Lies b1 C 25 w
  it : Lies b2 (itC i) 42 w
  res : Lies R (alC 0 none 0 0 none 0 0) 25 w
  low : w0.heap.size ≤ R
  below : Below w0.heap.size w0 w
theorem OcAt.next {w0 : World} {b1 b2 R : Nat} {C : Array Value} {i : It} {w w' : World} (h : OcAt w0 b1 b2 R C i w) (hb : Below w.heap.size w w') : OcAt w0 b1 b2 R C i w' :=
  ⟨h.arg.below hb, h.it.below hb, h.res.below hb, h.low, below_next h.below hb⟩
theorem OcAt.none_ {w0 : World} {b1 b2 R : Nat} {C : Array Value} {i : It} {w : World} (h : OcAt w0 b1 b2 R C i w) : Lies R (alC zA.n none 0 0 none 0 0) 25 (set3A w R (.int .i64 0) (.slice none 0 0) (.slice none 0 0)) ∧ Below w0.heap.size w0 (set3A w R (.int .i64 0) (.slice none 0 0) (.slice none 0 0)) :=
  ⟨lies_set3A h.res _ _ _, below_set3A h.below h.low _ _ _⟩
/-- The end, where it is answered OK. -/
theorem OcAt.done_ {M : Nat → Prop} {w0 w1 : World} {b1 b2 R b ng : Nat} {C : Array Value} {i : It} {w : World} (h : OcAt w0 b1 b2 R C i w) (hM : ∀ k, M k → k < w0.heap.size) (hR : R < w1.heap.size) (h01 : w0.heap.size ≤ w1.heap.size) {o : An} {hs : List Hd} {G : Option Addr} {cG : Nat} {H : Option Addr} {cH : Nat} {L : Option Addr} {cL : Nat} (hh : hs.map (fun x => x.2.2) = o.a.held)
    (ha : AfAt w1 b o.a.n o.a.got hs ng G cG H cH o.pass o.done (.slice L o.late.length cL) w) (hl : w.ownsRow w1.heap.size 58 12 (.slice L o.late.length cL) o.late.length (ltc o.late)) (h8 : ng ≤ 8) (h17 : ∀ l ∈ o.a.held, l.length ≤ 17) :
    Lies R (alC o.a.n G ng cG H ng cH) 25 (set3A w R (.int .i64 o.a.n) (.slice G ng cG) (.slice H ng cH)) ∧ AlM M (set3A w R (.int .i64 o.a.n) (.slice G ng cG) (.slice H ng cH)) o.a ng ng G cG H cH ∧
    LtM M (set3A w R (.int .i64 o.a.n) (.slice G ng cG) (.slice H ng cH)) o.late o.late.length L cL ∧ Below w0.heap.size w0 (set3A w R (.int .i64 o.a.n) (.slice G ng cG) (.slice H ng cH)) := by
  have ho : OwnA (set3A w R (.int .i64 o.a.n) (.slice G ng cG) (.slice H ng cH)) w1.heap.size o.a.got hs ng G cG H cH := ((ha.own.set ⟨R, 0, none⟩ hR _).set ⟨R, 1, none⟩ hR _).set ⟨R, 2, none⟩ hR _
  have ht := own_set3A hl (b := R) (fun e => by have := (hl.lt _ e).1; omega) (.int .i64 o.a.n) (.slice G ng cG) (.slice H ng cH)
  have ht1 := own_rowT ht
  exact ⟨lies_set3A h.res _ _ _, own_alM hM (ho.base h01) hh h8 h17, ⟨⟨rfl, ht1.1, ht1.2.1⟩, .own ht (fun k hk => by have := hM k hk; omega)⟩, below_set3A h.below h.low _ _ _⟩
set_option maxRecDepth 100000 in
set_option maxHeartbeats 4000000 in
theorem ckOfferM {M : Nat → Prop} {w : World} {a : Al} {ng nh : Nat} {G : Option Addr} {cG : Nat} {H : Option Addr} {cH : Nat} (h : AlM M w a ng nh G cG H cH) (hM : ∀ k, M k → k < w.heap.size) (input : Int) (i : It) : Calls Try.prog 17 #[alV a.n G ng cG H nh cH, .int .i64 input, itV i] w (GivesOfM M (offerA a input i 190) w) := by
  obtain ⟨hs, h1, h2, h3⟩ := h
  obtain ⟨o, ho⟩ : ∃ o, o = offerA a input i 190 := ⟨_, rfl⟩
  have hob := offer_bounds a input i 190
  rw [← ho] at hob ⊢
  obtain ⟨q, hq⟩ : ∃ q, q = rightA a := ⟨_, rfl⟩
  obtain ⟨s, hs'⟩ : ∃ s, s = right i := ⟨_, rfl⟩
  obtain ⟨p, hp⟩ : ∃ p, p = (decide (0 ≤ input) && decide (input < (ng : Int))) := ⟨_, rfl⟩
  have HRA := Lib.hid (fun w' (hb : Below w.heap.size w w') => ckRightH a hs h1.map ng nh h1.lng h1.lnh q hq G cG H cH w' (h1.hg.below hb) (h1.hh.below hb))
  have HRI := Lib.hid (fun w' => itRight i w')
  rw [← hs'] at HRI
  have HHA := Lib.hid (fun w' => ckHas a.n input G ng cG H nh cH p hp w')
  have L1 : Hid (OcAt w w.heap.size (w.heap.size + 1) (w.heap.size + 1 + 1) (alC a.n G ng cG H nh cH) i (((w.alloc (.cells (alC a.n G ng cG H nh cH) 25)).alloc (.cells (itC i) 42)).alloc (.cells (alC 0 none 0 0 none 0 0) 25))) := Lib.hid
    ⟨((Lies.new w _ _).al).al, (Gen.lies_new1 w _ _ _).al, Gen.lies_new2 w _ _ _ _, by omega, below_al (below_al (below_al (Below.refl _ _)))⟩
  have HBAD : Hid (q = false ∨ s = false ∨ p = false → o = ⟨zA, false, 0, [], 1⟩) := Lib.hid fun e => by
    rw [ho]
    unfold offerA
    rw [if_pos]
    rcases e with e | e | e
    · exact .inl (hq.symm.trans e)
    · exact .inr (.inr (.inr (hs'.symm.trans e)))
    · rw [hp] at e
      have := h1.lng
      rcases Int.lt_or_le input 0 with h5 | h5
      · exact .inr (.inl h5)
      · rw [decide_eq_true h5, Bool.true_and] at e
        have := of_decide_eq_false e
        exact .inr (.inr (.inl (by omega)))
  have HQ := Lib.hid hq; have HS := Lib.hid hs'; have HP := Lib.hid hp; have HO := Lib.hid ho; have H1 := Lib.hid h1; have HOB := Lib.hid hob; have HM := Lib.hid hM
  clear h1 h2 h3 ho hob hq hs' hp hM
  go_enter Try.func17, Try.ntmps17
  go_upto_region 1 with fail
  obtain ⟨b1, hb1⟩ : ∃ b, b = w.heap.size := ⟨_, rfl⟩
  obtain ⟨b2, hb2⟩ : ∃ b, b = w.heap.size + 1 := ⟨_, rfl⟩
  obtain ⟨R, hR⟩ : ∃ b, b = w.heap.size + 1 + 1 := ⟨_, rfl⟩
  obtain ⟨W, hW⟩ : ∃ W, W = ((w.alloc (.cells (alC a.n G ng cG H nh cH) 25)).alloc (.cells (itC i) 42)).alloc (.cells (alC 0 none 0 0 none 0 0) 25) := ⟨_, rfl⟩
  rw [← hW] at L1 ⊢
  rw [← hR] at L1 ⊢
  rw [← hb2] at L1 ⊢
  rw [← hb1] at L1 ⊢
  clear hW hR hb1 hb2
  have x0 := L1.out.arg.cell (j := 0) rfl; have x1 := L1.out.arg.cell (j := 1) rfl; have x2 := L1.out.arg.cell (j := 2) rfl
  go_wp2_with fail
  refine (HRA.out _ L1.out.below).mono ?_
  rintro e w1 ⟨rfl, hb1⟩
  have L2 := Lib.hid (L1.out.next hb1)
  clear hb1 x0 x1 x2 L1
  cases q
  · clear HQ
    have e := HBAD.out (.inl rfl)
    subst e
    have r0 := L2.out.res.cell (j := 0) rfl; have r1 := L2.out.res.cell (j := 1) rfl; have r2 := L2.out.res.cell (j := 2) rfl; have f0 := L2.out.res.free 0; have f1 := L2.out.res.free 1; have f2 := L2.out.res.free 2
    go_wp2_with fail
    refine offerC_ret (o := ⟨zA, false, 0, [], 1⟩) (R := R) (ng := 0) (nl := 0) ?_ ?_ ?_ ?_ ?_ ?_ L2.out.none_.1 (none_alM M _) (none_ltM M _) L2.out.none_.2 <;> rfl
  · have x0 := L2.out.arg.cell (j := 0) rfl; have x1 := L2.out.arg.cell (j := 1) rfl; have x2 := L2.out.arg.cell (j := 2) rfl
    have y00 := L2.out.it.cell (j := 0) rfl; have y01 := L2.out.it.cell (j := 1) rfl; have y02 := L2.out.it.cell (j := 2) rfl; have y03 := L2.out.it.cell (j := 3) rfl; have y04 := L2.out.it.cell (j := 4) rfl; have y05 := L2.out.it.cell (j := 5) rfl; have y06 := L2.out.it.cell (j := 6) rfl; have y07 := L2.out.it.cell (j := 7) rfl; have y08 := L2.out.it.cell (j := 8) rfl; have y09 := L2.out.it.cell (j := 9) rfl; have y10 := L2.out.it.cell (j := 10) rfl
    go_wp2_with fail
    refine (HRI.out _).mono ?_
    rintro e w2 ⟨rfl, hb1⟩
    have L3 := Lib.hid (L2.out.next hb1)
    clear hb1 x0 x1 x2 y00 y01 y02 y03 y04 y05 y06 y07 y08 y09 y10 L2
    cases s
    · clear HS
      have e := HBAD.out (.inr (.inl rfl))
      subst e
      have r0 := L3.out.res.cell (j := 0) rfl; have r1 := L3.out.res.cell (j := 1) rfl; have r2 := L3.out.res.cell (j := 2) rfl; have f0 := L3.out.res.free 0; have f1 := L3.out.res.free 1; have f2 := L3.out.res.free 2
      go_wp2_with fail
      refine offerC_ret (o := ⟨zA, false, 0, [], 1⟩) (R := R) (ng := 0) (nl := 0) ?_ ?_ ?_ ?_ ?_ ?_ L3.out.none_.1 (none_alM M _) (none_ltM M _) L3.out.none_.2 <;> rfl
    · have x0 := L3.out.arg.cell (j := 0) rfl; have x1 := L3.out.arg.cell (j := 1) rfl; have x2 := L3.out.arg.cell (j := 2) rfl
      go_wp2_with fail
      refine (HHA.out _).mono ?_
      rintro e w3 ⟨rfl, hb1⟩
      have L4 := Lib.hid (L3.out.next hb1)
      clear hb1 x0 x1 x2 L3
      cases p
      · clear HP
        have e := HBAD.out (.inr (.inr rfl))
        subst e
        have r0 := L4.out.res.cell (j := 0) rfl; have r1 := L4.out.res.cell (j := 1) rfl; have r2 := L4.out.res.cell (j := 2) rfl; have f0 := L4.out.res.free 0; have f1 := L4.out.res.free 1; have f2 := L4.out.res.free 2
        go_wp2_with fail
        refine offerC_ret (o := ⟨zA, false, 0, [], 1⟩) (R := R) (ng := 0) (nl := 0) ?_ ?_ ?_ ?_ ?_ ?_ L4.out.none_.1 (none_alM M _) (none_ltM M _) L4.out.none_.2 <;> rfl
      · have hb := HP.out.symm
        rw [Bool.and_eq_true, decide_eq_true_eq, decide_eq_true_eq] at hb
        obtain ⟨j, rfl⟩ : ∃ j : Nat, input = (j : Int) := ⟨input.toNat, by omega⟩
        have hok := (ok_iff a).1 HQ.out.symm
        have hj : j < ng := by omega
        have hnh : nh = ng := by rw [H1.out.lnh, H1.out.lng]; exact hok.hl
        have h18 : 1 ≤ ng ∧ ng ≤ 8 := by rw [H1.out.lng]; exact hok.len
        have h16 : ∀ x ∈ hs, x.2.2.length ≤ 16 := fun x hx => ok_held hok x.2.2 (by rw [← H1.out.map]; exact List.mem_map_of_mem hx)
        have HHW : Hid (How a j i 190 o) := Lib.hid (by rw [HO.out]; exact how HQ.out.symm (by rw [← H1.out.lng]; exact hj) i 190)
        have HBG := Lib.hid (fun w' (hb : Below w.heap.size w w') => ckBegin a hs H1.out.map ng nh H1.out.lng H1.out.lnh hnh h18.1 h18.2 h16 G cG H cH w' (H1.out.hg.below hb) (H1.out.hh.below hb))
        have HTK := Lib.hid (fun (w4 w' : World) (b : Nat) (us : List Hd) (G' : Option Addr) (cG' : Nat) (H' : Option Addr) (cH' : Nat) (g1 : us.map (fun x => x.2.2) = a.held) (g2 : AgAt w4 b a.n a.got us ng G' cG' H' cH' false 0 (.slice none 0 0) w') => ckTake g2 g1 H1.out.lng h18.2 (fun x hx => by have := ok_held hok x.2.2 (by rw [← g1]; exact List.mem_map_of_mem hx); omega) hj i HS.out.symm HHW.out)
        have H8 := Lib.hid h18.2
        clear hb hok hj hnh h18 h16 HRA HRI HHA
        have x0 := L4.out.arg.cell (j := 0) rfl; have x1 := L4.out.arg.cell (j := 1) rfl; have x2 := L4.out.arg.cell (j := 2) rfl
        go_wp2_with fail
        refine (HBG.out _ L4.out.below).mono ?_
        rintro e w5 ⟨b, us, G', cG', H', cH', rfl, g1, g2⟩
        have L5 := Lib.hid (L4.out.next g2.below)
        have G1 := Lib.hid g1; have G2 := Lib.hid g2
        clear g1 g2 x0 x1 x2
        have y00 := L5.out.it.cell (j := 0) rfl; have y01 := L5.out.it.cell (j := 1) rfl; have y02 := L5.out.it.cell (j := 2) rfl; have y03 := L5.out.it.cell (j := 3) rfl; have y04 := L5.out.it.cell (j := 4) rfl; have y05 := L5.out.it.cell (j := 5) rfl; have y06 := L5.out.it.cell (j := 6) rfl; have y07 := L5.out.it.cell (j := 7) rfl; have y08 := L5.out.it.cell (j := 8) rfl; have y09 := L5.out.it.cell (j := 9) rfl; have y10 := L5.out.it.cell (j := 10) rfl
        go_wp2_with fail
        refine (HTK.out w3 w5 b us G' cG' H' cH' G1.out G2.out).mono ?_
        rintro e w6 ⟨rfl, hb6, hA6⟩
        have L6 := Lib.hid (L4.out.next hb6)
        have HA6 := Lib.hid hA6
        have HR3 := Lib.hid (lt_of_block L4.out.res)
        clear hb6 hA6 y00 y01 y02 y03 y04 y05 y06 y07 y08 y09 y10 L5 G1 G2
        obtain ⟨z, hz⟩ : ∃ z, z = o.e := ⟨_, rfl⟩
        rw [← hz]
        by_cases h0 : z = 0
        · have g0 : (z != 0) = false := nb0 h0
          obtain ⟨hs6, G6, cG6, H6, cH6, L7, cL7, k1, k2, k3⟩ := HA6.out (hz.symm.trans h0)
          have HZ : Hid (o.e = 0) := Lib.hid (hz.symm.trans h0)
          have HD := Lib.hid (L6.out.done_ (M := M) HM.out HR3.out L4.out.below.size k1 k2 k3 H8.out HOB.out.2.2.1)
          have S6 := Lib.hid k2.st
          subst h0
          clear k1 k2 k3 hz HA6
          obtain ⟨nl, hnl⟩ : ∃ m, m = o.late.length := ⟨_, rfl⟩
          rw [← hnl] at HD S6
          clear hnl
          have r0 := L6.out.res.cell (j := 0) rfl; have r1 := L6.out.res.cell (j := 1) rfl; have r2 := L6.out.res.cell (j := 2) rfl; have f0 := L6.out.res.free 0; have f1 := L6.out.res.free 1; have f2 := L6.out.res.free 2
          have x0 := S6.out.cell (j := 0) rfl; have x1 := S6.out.cell (j := 1) rfl; have x2 := S6.out.cell (j := 2) rfl; have x3 := S6.out.cell (j := 3) rfl; have x4 := S6.out.cell (j := 4) rfl; have x5 := S6.out.cell (j := 5) rfl
          go_upto_region 7 with fail
          go_region
          obtain ⟨d1, d2, d3, d4⟩ := HD.out
          clear HD
          go_wp2_with fail
          refine offerC_ret (o := o) (R := R) (ng := ng) (nl := nl) ?_ ?_ ?_ ?_ ?_ ?_ (d1.below (below_drewOf (Below.refl _ _))) (d2.below (below_drewOf (Below.refl _ _))) (d3.below (below_drewOf (Below.refl _ _))) (below_drewOf d4)
          · rfl
          · rfl
          · rfl
          · rfl
          · exact (by rw [HZ.out]; rfl)
          · rfl
        · have g0 : (z != 0) = true := nb h0
          have e : o = ⟨zA, false, 0, [], z⟩ := by
            rw [hz]
            cases HHW.out with
            | bad _ h => rw [h]
            | full _ _ _ _ h => rw [h]
            | hold _ _ _ _ _ h => exact absurd (by rw [hz, h]) h0
            | pass _ _ _ h => exact absurd (by rw [hz, h]) h0
            | stage _ _ _ _ h => rw [h]
            | got _ _ _ _ _ h => exact absurd (by rw [hz, h]) h0
            | all _ _ _ _ _ h => exact absurd (by rw [hz, h]) h0
          clear h0 hz HA6 HHW HTK HBG HO HOB HBAD
          subst e
          have r0 := L6.out.res.cell (j := 0) rfl; have r1 := L6.out.res.cell (j := 1) rfl; have r2 := L6.out.res.cell (j := 2) rfl; have f0 := L6.out.res.free 0; have f1 := L6.out.res.free 1; have f2 := L6.out.res.free 2
          go_wp2_with fail
          refine offerC_ret (o := ⟨zA, false, 0, [], z⟩) (R := R) (ng := 0) (nl := 0) ?_ ?_ ?_ ?_ ?_ ?_ L6.out.none_.1 (none_alM M _) (none_ltM M _) L6.out.none_.2 <;> rfl
theorem ckNew (n : Int) (w : World) : Calls Try.prog 10 #[.int .i64 n] w (GivesNw (newO n).1 (newO n).2 w) := (ckNewM (fun _ => False) n w (fun k h => h.elim)).mono fun e w' h => h.at_
theorem ckOffer {w : World} {a : Al} {ng nh : Nat} {G : Option Addr} {cG : Nat} {H : Option Addr} {cH : Nat} (h : AlAt w a ng nh G cG H cH) (input : Int) (i : It) : Calls Try.prog 17 #[alV a.n G ng cG H nh cH, .int .i64 input, itV i] w (GivesOf (offerA a input i 190) w) :=
  (ckOfferM (h.mk_ (fun _ => False) (fun k h => h.elim)) (fun k h => h.elim) input i).mono fun e w' h => h.at_
end Aln
end Go.Proofs.Ytgbklmncfajcgaa
