/- The walk of the law LeaseGrants. -/
import Derived.Test.YtgoapkbpcfbipaaLeaseP
namespace Go.Proofs.Ytgoapkbpcfbipaa
open Go.ChangeShapes Go.WideShapes Go.ChangeAt Go.RowKit
set_option linter.unusedVariables false
set_option maxRecDepth 8000
namespace Ls
open Gen (TellsB TellsI SaysB row_one flat_len flat_get)
open Tick (cl addT)
theorem own_rowS {w : World} {B n c : Nat} {A : Option Addr} {ls : List Le} (h : w.ownsRow B 47 3 (.slice A n c) n (lec ls)) : Row w A (lec ls) ∧ n ≤ c ∧ n = ls.length := by
  obtain ⟨A', c', e, h1, h2, h3, h4, _⟩ := own_form h (by omega)
  cases e
  rw [lec_len] at h3
  exact ⟨h4, h1, by omega⟩
theorem set_len (t : Tb) (g : Int) (x : Le) : (setT t g x).length = t.ls.length := List.length_set
theorem grant_len (t : Tb) (g wk now ut : Int) : (grantO t g wk now ut).1.ls.length ≤ t.ls.length := by
  unfold grantO
  repeat' split
  all_goals first | exact Nat.zero_le _ | exact Nat.le_of_eq (set_len _ _ _)
theorem renew_len (t : Tb) (g k now ut : Int) : (renewO t g k now ut).1.ls.length ≤ t.ls.length := by
  unfold renewO
  repeat' split
  all_goals first | exact Nat.zero_le _ | exact Nat.le_of_eq (set_len _ _ _)
theorem give_len (t : Tb) (g k : Int) : (giveO t g k).1.ls.length ≤ t.ls.length := by
  unfold giveO
  repeat' split
  all_goals first | exact Nat.zero_le _ | exact Nat.le_of_eq (set_len _ _ _)
/-- A table where one lies. -/
structure TbAt (b : Nat) (t : Tb) (n : Nat) (A : Option Addr) (c : Nat) (w : World) : Prop where
  at_ : Lies b #[.slice A n c, .int .i64 t.last] 24 w
  row : Row w A (lec t.ls)
  len : n = t.ls.length
  cap : n ≤ c
theorem TbAt.next {b : Nat} {t : Tb} {n : Nat} {A : Option Addr} {c : Nat} {w w' : World} (h : TbAt b t n A c w) (hb : Below w.heap.size w w') : TbAt b t n A c w' := ⟨h.at_.below hb, h.row.below hb, h.len, h.cap⟩
theorem TbAt.new {t : Tb} {n : Nat} {A : Option Addr} {c : Nat} {w : World} (h : Row w A (lec t.ls)) (hn : n = t.ls.length) (hc : n ≤ c) : TbAt w.heap.size t n A c (w.alloc (.cells #[.slice A n c, .int .i64 t.last] 24)) :=
  ⟨Lies.new w _ _, h.below (below_al (Below.refl _ _)), hn, hc⟩
theorem TbAt.own {t : Tb} {B n : Nat} {A : Option Addr} {c : Nat} {w : World} (h : w.ownsRow B 47 3 (.slice A n c) n (lec t.ls)) : TbAt w.heap.size t n A c (w.alloc (.cells #[.slice A n c, .int .i64 t.last] 24)) := by
  obtain ⟨h1, h2, h3⟩ := own_rowS h
  exact TbAt.new h1 h3 h2
set_option maxRecDepth 100000 in
set_option maxHeartbeats 1000000 in
theorem walkGrants (ls : List Le) (last g wk now long : Int) (A : Option Addr) (c : Nat) (w : World) (h : Row w A (lec ls)) (hc : ls.length ≤ c) :
    Calls Try.prog 4 #[.agg #[.slice A ls.length c, .int .i64 last], .int .i64 g, .int .i64 wk, .int .i64 now, .int .i64 long] w (TellsB true w) := by
  obtain ⟨n, hn⟩ : ∃ n, n = ls.length := ⟨_, rfl⟩
  rw [← hn] at hc ⊢
  have T0 := Lib.hid (TbAt.new (t := ⟨ls, last⟩) h hn hc)
  have HB := Lib.hid (below_al (o := .cells #[.slice A n c, .int .i64 last] 24) (Below.refl w.heap.size w))
  obtain ⟨r, hr⟩ : ∃ r, r = decide (n ≤ 100) := ⟨_, rfl⟩
  have HS := Lib.hid (fun w' => lawSmall A n c last r hr w')
  have HAL := Lib.hid (fun w' => lawAlive w')
  obtain ⟨o, ho⟩ : ∃ o, o = grantO ⟨ls, last⟩ g wk (cl now) (addT now long) := ⟨_, rfl⟩
  obtain ⟨m, hm⟩ : ∃ m, m = o.1.ls.length := ⟨_, rfl⟩
  have HML : Hid (m ≤ n) := Lib.hid (by rw [hm, ho, hn]; exact grant_len _ _ _ _ _)
  have HG := Lib.hid (fun (h1 : n ≤ 100) w' (h' : Row w' A (lec ls)) => ckGrant ls n last g wk now long A c o m hn ho hm w' h' (by omega) hc)
  have HF := Lib.hid (fun (h1 : n ≤ 100) w' (h' : Row w' A (lec ls)) => rfGrant ls n last g wk now long A c o m hn ho hm w' h' (by omega))
  have HLK := Lib.hid (fun (h1 : m ≤ 100000) A c A' c' w' hA hA' => rfLikeT o.1.ls m o.1.last hm h1 A A' c c' w' hA hA')
  have HRR := Lib.hid hr
  clear h hn hc ho hm hr
  obtain ⟨⟨ms, la⟩, tk, z⟩ := o
  simp only at HLK
  go_enter Try.func4, Try.ntmps4
  go_upto_region 1 with fail
  obtain ⟨b0, hb0⟩ : ∃ b, b = w.heap.size := ⟨_, rfl⟩
  obtain ⟨W, hW⟩ : ∃ W, W = w.alloc (.cells #[.slice A n c, .int .i64 last] 24) := ⟨_, rfl⟩
  rw [← hW] at T0 HB ⊢
  rw [← hb0] at T0 ⊢
  clear hW hb0
  have x0 := T0.out.at_.cell (j := 0) rfl; have x1 := T0.out.at_.cell (j := 1) rfl
  go_wp2_with fail
  refine (HS.out _).mono ?_
  rintro e w1 ⟨rfl, hb1⟩
  have HB1 := Lib.hid (below_next HB.out hb1)
  have T1 := Lib.hid (T0.out.next hb1)
  clear hb1 x0 x1
  cases r
  · go_wp2_with fail
    go_ret
    exact ⟨rfl, HB1.out⟩
  · have HN1 : Hid (n ≤ 100) := Lib.hid (of_decide_eq_true HRR.out.symm)
    have x0 := T1.out.at_.cell (j := 0) rfl; have x1 := T1.out.at_.cell (j := 1) rfl
    go_wp2_with fail
    refine (HG.out HN1.out _ T1.out.row).mono ?_
    rintro e w2 ⟨A2, c2, rfl, ho2, hb2⟩
    have HB2 := Lib.hid (below_al (o := .cells #[.slice A2 m c2, .int .i64 la] 24) (below_next HB1.out hb2))
    have T2 := Lib.hid ((T1.out.next hb2).next (below_al (o := .cells #[.slice A2 m c2, .int .i64 la] 24) (Below.refl w2.heap.size w2)))
    have U2 := Lib.hid (TbAt.own (t := ⟨ms, la⟩) ho2)
    clear hb2 x0 x1 T1 HB1
    go_upto_region 4 with fail
    obtain ⟨b2, hb2⟩ : ∃ b, b = w2.heap.size := ⟨_, rfl⟩
    obtain ⟨W2, hW2⟩ : ∃ W, W = w2.alloc (.cells #[.slice A2 m c2, .int .i64 la] 24) := ⟨_, rfl⟩
    rw [← hW2] at T2 HB2 U2 ⊢
    rw [← hb2] at U2 ⊢
    clear hW2 hb2 ho2
    have x0 := T2.out.at_.cell (j := 0) rfl; have x1 := T2.out.at_.cell (j := 1) rfl
    go_wp2_with fail
    refine (HF.out HN1.out _ T2.out.row).mono ?_
    rintro e w3 ⟨A3, c3, rfl, ho3, hb3⟩
    have HB3 := Lib.hid (below_al (o := .cells #[.slice A3 m c3, .int .i64 la] 24) (below_next HB2.out hb3))
    have U3 := Lib.hid ((U2.out.next hb3).next (below_al (o := .cells #[.slice A3 m c3, .int .i64 la] 24) (Below.refl w3.heap.size w3)))
    have V3 := Lib.hid (TbAt.own (t := ⟨ms, la⟩) ho3)
    clear hb3 x0 x1 T2 HB2 U2
    go_upto_region 5 with fail
    obtain ⟨b3, hb3⟩ : ∃ b, b = w3.heap.size := ⟨_, rfl⟩
    obtain ⟨W3, hW3⟩ : ∃ W, W = w3.alloc (.cells #[.slice A3 m c3, .int .i64 la] 24) := ⟨_, rfl⟩
    rw [← hW3] at U3 HB3 V3 ⊢
    rw [← hb3] at V3 ⊢
    clear hW3 hb3 ho3
    go_wp2_with fail
    refine (HAL.out _).mono ?_
    rintro e w4 ⟨rfl, hb4⟩
    have HB4 := Lib.hid (below_next HB3.out hb4)
    have U4 := Lib.hid (U3.out.next hb4)
    have V4 := Lib.hid (V3.out.next hb4)
    clear hb4 HB3 U3 V3
    have x0 := U4.out.at_.cell (j := 0) rfl; have x1 := U4.out.at_.cell (j := 1) rfl
    have y0 := V4.out.at_.cell (j := 0) rfl; have y1 := V4.out.at_.cell (j := 1) rfl
    go_wp2_with fail
    refine (HLK.out (by have := HML.out; have := HN1.out; omega) _ _ _ _ _ U4.out.row V4.out.row).mono ?_
    rintro e w5 ⟨rfl, hb5⟩
    have HB5 := Lib.hid (below_next HB4.out hb5)
    clear hb5
    go_wp2_with fail
    go_ret
    exact ⟨rfl, HB5.out⟩
theorem trodAll_fiveS {H : Type} {enc : TypeId × Value → H} {P : Program} {w : World} {base : Nat} {spare : Nat → Bool} {held : Bool} {t0 t1 t2 t3 t4 : TypeId} {args : Array Value} {ds : List (DataW H)} {ps : List MemPlace} (h : DataW.TrodAll enc P w base spare held [t0, t1, t2, t3, t4] args.toList ds ps) :
    ∃ v0 v1 v2 v3 v4 d0 d1 d2 d3 d4 p0 p1 p2 p3 p4, args = #[v0, v1, v2, v3, v4] ∧ ds = [d0, d1, d2, d3, d4] ∧ ps = p0 ++ (p1 ++ p2 ++ p3 ++ p4) ∧ DataW.Trod enc P w base spare held t0 v0 d0 p0 ∧ DataW.Trod enc P w base spare held t1 v1 d1 p1 ∧
      DataW.Trod enc P w base spare held t2 v2 d2 p2 ∧ DataW.Trod enc P w base spare held t3 v3 d3 p3 ∧ DataW.Trod enc P w base spare held t4 v4 d4 p4 := by
  obtain ⟨v, vs, d, ds', p, q, hargs, rfl, rfl, hd, hrest⟩ := trodAll_cons h
  obtain ⟨v1, v2, v3, v4, d1, d2, d3, d4, p1, p2, p3, p4, e, rfl, rfl, h1, h2, h3, h4⟩ := trodAll_four (args := vs.toArray) (by simpa using hrest)
  have e' : vs = [v1, v2, v3, v4] := by simpa using congrArg Array.toList e
  subst e'
  refine ⟨v, v1, v2, v3, v4, d, d1, d2, d3, d4, p, p1, p2, p3, p4, by rw [← Array.toList_inj]; exact hargs, rfl, rfl, hd, h1, h2, h3, h4⟩
end Ls
theorem lawLeaseGrants : Lift.Owes 4 [24, 3, 3, 2, 2] := by
  intro H enc W base args ds ps hval hA _ _
  obtain ⟨v0, v1, v2, v3, v4, d0, d1, d2, d3, d4, p0, p1, p2, p3, p4, rfl, rfl, rfl, h0, h1, h2, h3, h4⟩ := Ls.trodAll_fiveS hA
  obtain ⟨ls, last, A, c, rfl, hc, hr⟩ := Ls.openTable (hval 0 _ v0 rfl rfl) h0
  obtain ⟨a, rfl, rfl, rfl, w1⟩ := open_int Try.underlying3 (hval 1 _ v1 rfl rfl) h1
  obtain ⟨b, rfl, rfl, rfl, w2⟩ := open_int Try.underlying3 (hval 2 _ v2 rfl rfl) h2
  obtain ⟨m, rfl, rfl, rfl, w3⟩ := open_int Try.underlying2 (hval 3 _ v3 rfl rfl) h3
  obtain ⟨k, rfl, rfl, rfl, w4⟩ := open_int Try.underlying2 (hval 4 _ v4 rfl rfl) h4
  exact Ls.walkGrants ls last a b m k A c W hr hc
end Go.Proofs.Ytgoapkbpcfbipaa
