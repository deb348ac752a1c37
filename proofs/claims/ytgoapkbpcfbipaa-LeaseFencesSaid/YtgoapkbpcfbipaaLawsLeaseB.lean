/- The walk of the law LeaseKeeps. -/
import Derived.Test.YtgoapkbpcfbipaaLawsLeaseA
namespace Go.Proofs.Ytgoapkbpcfbipaa
open Go.ChangeShapes Go.WideShapes Go.ChangeAt Go.RowKit
set_option linter.unusedVariables false
set_option maxRecDepth 8000
namespace Ls
open Gen (TellsB TellsI SaysB row_one flat_len flat_get)
open Tick (cl addT)
/-- All the tables. -/
structure KpAt (w0 : World) (b0 b2 b3 b4 b5 : Nat) (t o p : Tb) (n m q : Nat) (A A2 A3 A4 A5 : Option Addr) (c c2 c3 c4 c5 : Nat) (w : World) : Prop where
  t0 : TbAt b0 t n A c w
  t2 : TbAt b2 o m A2 c2 w
  t3 : TbAt b3 o m A3 c3 w
  t4 : TbAt b4 p q A4 c4 w
  t5 : TbAt b5 p q A5 c5 w
  below : Below w0.heap.size w0 w
theorem KpAt.next {w0 : World} {b0 b2 b3 b4 b5 : Nat} {t o p : Tb} {n m q : Nat} {A A2 A3 A4 A5 : Option Addr} {c c2 c3 c4 c5 : Nat} {w w' : World} (h : KpAt w0 b0 b2 b3 b4 b5 t o p n m q A A2 A3 A4 A5 c c2 c3 c4 c5 w) (hb : Below w.heap.size w w') :
    KpAt w0 b0 b2 b3 b4 b5 t o p n m q A A2 A3 A4 A5 c c2 c3 c4 c5 w' := ⟨h.t0.next hb, h.t2.next hb, h.t3.next hb, h.t4.next hb, h.t5.next hb, below_next h.below hb⟩
set_option maxRecDepth 100000 in
set_option maxHeartbeats 2000000 in
theorem walkKeeps (ls : List Le) (last g k now long : Int) (A : Option Addr) (c : Nat) (w : World) (h : Row w A (lec ls)) (hc : ls.length ≤ c) :
    Calls Try.prog 5 #[.agg #[.slice A ls.length c, .int .i64 last], .int .i64 g, .int .i64 k, .int .i64 now, .int .i64 long] w (TellsB true w) := by
  obtain ⟨n, hn⟩ : ∃ n, n = ls.length := ⟨_, rfl⟩
  rw [← hn] at hc ⊢
  have T0 := Lib.hid (TbAt.new (t := ⟨ls, last⟩) h hn hc)
  have HB := Lib.hid (below_al (o := .cells #[.slice A n c, .int .i64 last] 24) (Below.refl w.heap.size w))
  obtain ⟨r, hr⟩ : ∃ r, r = decide (n ≤ 100) := ⟨_, rfl⟩
  have HS := Lib.hid (fun w' => lawSmall A n c last r hr w')
  have HAL := Lib.hid (fun w' => lawAlive w')
  obtain ⟨o, ho⟩ : ∃ o, o = renewO ⟨ls, last⟩ g k (cl now) (addT now long) := ⟨_, rfl⟩
  obtain ⟨m, hm⟩ : ∃ m, m = o.1.ls.length := ⟨_, rfl⟩
  obtain ⟨p, hp⟩ : ∃ p, p = giveO ⟨ls, last⟩ g k := ⟨_, rfl⟩
  obtain ⟨q, hq⟩ : ∃ q, q = p.1.ls.length := ⟨_, rfl⟩
  obtain ⟨f, hf⟩ : ∃ f, f = fencedO ⟨ls, last⟩ g k := ⟨_, rfl⟩
  have HML : Hid (m ≤ n) := Lib.hid (by rw [hm, ho, hn]; exact renew_len _ _ _ _ _)
  have HQL : Hid (q ≤ n) := Lib.hid (by rw [hq, hp, hn]; exact give_len _ _ _)
  have HG2 := Lib.hid (fun (h1 : n ≤ 100) w' (h' : Row w' A (lec ls)) => ckRenew ls n last g k now long A c o m hn ho hm w' h' (by omega) hc)
  have HG3 := Lib.hid (fun (h1 : n ≤ 100) w' (h' : Row w' A (lec ls)) => rfRenew ls n last g k now long A c o m hn ho hm w' h' (by omega))
  have HG4 := Lib.hid (fun (h1 : n ≤ 100) w' (h' : Row w' A (lec ls)) => ckGive ls n last g k A c p q hn hp hq w' h' (by omega) hc)
  have HG5 := Lib.hid (fun (h1 : n ≤ 100) w' (h' : Row w' A (lec ls)) => rfGive ls n last g k A c p q hn hp hq w' h' (by omega))
  have HF := Lib.hid (fun (h1 : n ≤ 100) w' (h' : Row w' A (lec ls)) => ckFenced ls n last g k A c f hn hf w' h' (by omega) hc)
  have HE := Lib.hid (fun (h1 : n ≤ 100) w' (h' : Row w' A (lec ls)) => rfFenced ls n last g k A c f hn hf w' h' (by omega))
  have HLK := Lib.hid (fun (h1 : m ≤ 100000) A c A' c' w' hA hA' => rfLikeT o.1.ls m o.1.last hm h1 A A' c c' w' hA hA')
  have HLK2 := Lib.hid (fun (h1 : q ≤ 100000) A c A' c' w' hA hA' => rfLikeT p.1.ls q p.1.last hq h1 A A' c c' w' hA hA')
  have HRR := Lib.hid hr
  clear h hn hc ho hm hr hp hq hf
  obtain ⟨⟨ms, la⟩, z⟩ := o
  obtain ⟨⟨ks, lb⟩, y⟩ := p
  simp only at HLK HLK2
  go_enter Try.func5, Try.ntmps5
  go_upto_region 1 with fail
  obtain ⟨b0, hb0⟩ : ∃ b, b = w.heap.size := ⟨_, rfl⟩
  obtain ⟨W, hW⟩ : ∃ W, W = w.alloc (.cells #[.slice A n c, .int .i64 last] 24) := ⟨_, rfl⟩
  rw [← hW] at T0 HB ⊢
  rw [← hb0] at T0 ⊢
  clear hW hb0
  have x0 := T0.out.at_.cell (j := 0) rfl; have x1 := T0.out.at_.cell (j := 1) rfl
  go_wp2_with fail
  refine (HS.out _).mono ?_
  rintro e w1 ⟨rfl, hb1⟩
  have HB1 := Lib.hid (below_next HB.out hb1)
  have T1 := Lib.hid (T0.out.next hb1)
  clear hb1 x0 x1 HB T0
  cases r
  · go_wp2_with fail
    go_ret
    exact ⟨rfl, HB1.out⟩
  · have HN1 : Hid (n ≤ 100) := Lib.hid (of_decide_eq_true HRR.out.symm)
    have x0 := T1.out.at_.cell (j := 0) rfl; have x1 := T1.out.at_.cell (j := 1) rfl
    go_wp2_with fail
    refine (HG2.out HN1.out _ T1.out.row).mono ?_
    rintro e w2 ⟨A2, c2, rfl, ho2, hb2⟩
    have hbk := below_next hb2 (below_al (o := .cells #[.slice A2 m c2, .int .i64 la] 24) (Below.refl w2.heap.size w2))
    have HB2 := Lib.hid (below_next HB1.out hbk)
    have T2 := Lib.hid (T1.out.next hbk)
    have U2 := Lib.hid (TbAt.own (t := ⟨ms, la⟩) ho2)
    clear hb2 x0 x1 T1 HB1 hbk
    go_upto_region 4 with fail
    obtain ⟨b2, hb2⟩ : ∃ b, b = w2.heap.size := ⟨_, rfl⟩
    obtain ⟨W2, hW2⟩ : ∃ W, W = w2.alloc (.cells #[.slice A2 m c2, .int .i64 la] 24) := ⟨_, rfl⟩
    rw [← hW2] at T2 HB2 U2  ⊢
    rw [← hb2] at U2 ⊢
    clear hW2 hb2 ho2
    have x0 := T2.out.at_.cell (j := 0) rfl; have x1 := T2.out.at_.cell (j := 1) rfl
    go_wp2_with fail
    refine (HG3.out HN1.out _ T2.out.row).mono ?_
    rintro e w3 ⟨A3, c3, rfl, ho3, hb3⟩
    have hbk := below_next hb3 (below_al (o := .cells #[.slice A3 m c3, .int .i64 la] 24) (Below.refl w3.heap.size w3))
    have HB3 := Lib.hid (below_next HB2.out hbk)
    have T3 := Lib.hid (T2.out.next hbk)
    have U3 := Lib.hid (TbAt.own (t := ⟨ms, la⟩) ho3)
    have U2 := Lib.hid (U2.out.next hbk)
    clear hb3 x0 x1 T2 HB2 hbk
    go_upto_region 5 with fail
    obtain ⟨b3, hb3⟩ : ∃ b, b = w3.heap.size := ⟨_, rfl⟩
    obtain ⟨W3, hW3⟩ : ∃ W, W = w3.alloc (.cells #[.slice A3 m c3, .int .i64 la] 24) := ⟨_, rfl⟩
    rw [← hW3] at T3 HB3 U3 U2 ⊢
    rw [← hb3] at U3 ⊢
    clear hW3 hb3 ho3
    have x0 := T3.out.at_.cell (j := 0) rfl; have x1 := T3.out.at_.cell (j := 1) rfl
    go_wp2_with fail
    refine (HG4.out HN1.out _ T3.out.row).mono ?_
    rintro e w4 ⟨A4, c4, rfl, ho4, hb4⟩
    have hbk := below_next hb4 (below_al (o := .cells #[.slice A4 q c4, .int .i64 lb] 24) (Below.refl w4.heap.size w4))
    have HB4 := Lib.hid (below_next HB3.out hbk)
    have T4 := Lib.hid (T3.out.next hbk)
    have U4 := Lib.hid (TbAt.own (t := ⟨ks, lb⟩) ho4)
    have U2 := Lib.hid (U2.out.next hbk)
    have U3 := Lib.hid (U3.out.next hbk)
    clear hb4 x0 x1 T3 HB3 hbk
    go_upto_region 6 with fail
    obtain ⟨b4, hb4⟩ : ∃ b, b = w4.heap.size := ⟨_, rfl⟩
    obtain ⟨W4, hW4⟩ : ∃ W, W = w4.alloc (.cells #[.slice A4 q c4, .int .i64 lb] 24) := ⟨_, rfl⟩
    rw [← hW4] at T4 HB4 U4 U2 U3 ⊢
    rw [← hb4] at U4 ⊢
    clear hW4 hb4 ho4
    have x0 := T4.out.at_.cell (j := 0) rfl; have x1 := T4.out.at_.cell (j := 1) rfl
    go_wp2_with fail
    refine (HG5.out HN1.out _ T4.out.row).mono ?_
    rintro e w5 ⟨A5, c5, rfl, ho5, hb5⟩
    have hbk := below_next hb5 (below_al (o := .cells #[.slice A5 q c5, .int .i64 lb] 24) (Below.refl w5.heap.size w5))
    have HB5 := Lib.hid (below_next HB4.out hbk)
    have T5 := Lib.hid (T4.out.next hbk)
    have U5 := Lib.hid (TbAt.own (t := ⟨ks, lb⟩) ho5)
    have U2 := Lib.hid (U2.out.next hbk)
    have U3 := Lib.hid (U3.out.next hbk)
    have U4 := Lib.hid (U4.out.next hbk)
    clear hb5 x0 x1 T4 HB4 hbk
    go_upto_region 7 with fail
    obtain ⟨b5, hb5⟩ : ∃ b, b = w5.heap.size := ⟨_, rfl⟩
    obtain ⟨W5, hW5⟩ : ∃ W, W = w5.alloc (.cells #[.slice A5 q c5, .int .i64 lb] 24) := ⟨_, rfl⟩
    rw [← hW5] at T5 HB5 U5 U2 U3 U4 ⊢
    rw [← hb5] at U5 ⊢
    clear hW5 hb5 ho5
    have K0 : Hid (KpAt w b0 b2 b3 b4 b5 ⟨ls, last⟩ ⟨ms, la⟩ ⟨ks, lb⟩ n m q A A2 A3 A4 A5 c c2 c3 c4 c5 W5.drew) := Lib.hid (KpAt.next ⟨T5.out, U2.out, U3.out, U4.out, U5.out, HB5.out⟩ (below_drewOf (Below.refl _ _)))
    have HM1 : Hid (m ≤ 100000) := Lib.hid (by have := HML.out; have := HN1.out; omega)
    have HM2 : Hid (q ≤ 100000) := Lib.hid (by have := HQL.out; have := HN1.out; omega)
    have HLIKE : Hid (∀ w5, KpAt w b0 b2 b3 b4 b5 ⟨ls, last⟩ ⟨ms, la⟩ ⟨ks, lb⟩ n m q A A2 A3 A4 A5 c c2 c3 c4 c5 w5 → ∀ a b : Value, (a = .agg #[.slice A2 m c2, .int .i64 la] ∧ b = .agg #[.slice A3 m c3, .int .i64 la]) ∨ (a = .agg #[.slice A4 q c4, .int .i64 lb] ∧ b = .agg #[.slice A5 q c5, .int .i64 lb]) → Calls Try.prog 11 #[a, b] w5 (TellsB true w5)) := Lib.hid (by
      rintro w5 h5 a b (⟨rfl, rfl⟩ | ⟨rfl, rfl⟩)
      · exact HLK.out HM1.out _ _ _ _ _ h5.t2.row h5.t3.row
      · exact HLK2.out HM2.out _ _ _ _ _ h5.t4.row h5.t5.row)
    clear HLK HLK2
    clear T5 U2 U3 U4 U5 HB5 HG2 HG3 HG4 HG5 HS
    refine wide_all (KpAt w b0 b2 b3 b4 b5 ⟨ls, last⟩ ⟨ms, la⟩ ⟨ks, lb⟩ n m q A A2 A3 A4 A5 c c2 c3 c4 c5) (by kernel_rfl) (by kernel_rfl) K0.out ?_
    (try simp only [List.append_eq, List.cons_append, List.nil_append])
    repeat (first
      | go_big_quiet_skip
      | (go_big_quiet_want
         apply wide_op
         · (intro w5 h5; have x0 := h5.t0.at_.cell (j := 0) rfl; have x1 := h5.t0.at_.cell (j := 1) rfl; have y0 := h5.t2.at_.cell (j := 0) rfl; have y1 := h5.t2.at_.cell (j := 1) rfl; have z0 := h5.t3.at_.cell (j := 0) rfl; have z1 := h5.t3.at_.cell (j := 1) rfl; have u0 := h5.t4.at_.cell (j := 0) rfl; have u1 := h5.t4.at_.cell (j := 1) rfl; have v0 := h5.t5.at_.cell (j := 0) rfl; have v1 := h5.t5.at_.cell (j := 1) rfl; go_simp; first | done | with_reducible rfl | (go_at_call 12; refine (HAL.out _).mono ?_; rintro e w6 ⟨rfl, hb6⟩; exact ⟨rfl, h5.next hb6⟩) | (go_at_call 11; refine (HLIKE.out _ h5 _ _ (by first | (with_reducible exact .inl ⟨rfl, rfl⟩) | (with_reducible exact .inr ⟨rfl, rfl⟩))).mono ?_; rintro e w6 ⟨rfl, hb6⟩; exact ⟨rfl, h5.next hb6⟩) | (go_at_call 24; refine (HF.out HN1.out _ h5.t0.row).mono ?_; rintro e w6 ⟨rfl, hb6⟩; exact ⟨rfl, h5.next hb6⟩) | (go_at_call 25; refine (HE.out HN1.out _ h5.t0.row).mono ?_; rintro e w6 ⟨rfl, hb6⟩; exact ⟨rfl, h5.next hb6⟩))
         (try simp only [Act.put, List.setIfInBounds_toArray, List.set_cons_zero, List.set_cons_succ])
         go_big_quiet_on))
    refine wpQuiet_nil ?_
    intro w6 h6
    have H6 := Lib.hid h6
    clear h6
    cases f
    · go_wp2_with fail
      go_ret
      exact ⟨rfl, H6.out.below⟩
    · go_wp2_with fail
      go_ret
      exact ⟨rfl, H6.out.below⟩
end Ls
theorem lawLeaseKeeps : Lift.Owes 5 [24, 3, 3, 2, 2] := by
  intro H enc W base args ds ps hval hA _ _
  obtain ⟨v0, v1, v2, v3, v4, d0, d1, d2, d3, d4, p0, p1, p2, p3, p4, rfl, rfl, rfl, h0, h1, h2, h3, h4⟩ := Ls.trodAll_fiveS hA
  obtain ⟨ls, last, A, c, rfl, hc, hr⟩ := Ls.openTable (hval 0 _ v0 rfl rfl) h0
  obtain ⟨a, rfl, rfl, rfl, w1⟩ := open_int Try.underlying3 (hval 1 _ v1 rfl rfl) h1
  obtain ⟨b, rfl, rfl, rfl, w2⟩ := open_int Try.underlying3 (hval 2 _ v2 rfl rfl) h2
  obtain ⟨m, rfl, rfl, rfl, w3⟩ := open_int Try.underlying2 (hval 3 _ v3 rfl rfl) h3
  obtain ⟨k, rfl, rfl, rfl, w4⟩ := open_int Try.underlying2 (hval 4 _ v4 rfl rfl) h4
  exact Ls.walkKeeps ls last a b m k A c W hr hc
end Go.Proofs.Ytgoapkbpcfbipaa
