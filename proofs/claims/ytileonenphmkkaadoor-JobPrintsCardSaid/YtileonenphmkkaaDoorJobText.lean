/- Text of the reference. -/
import Derived.Test.YtileonenphmkkaaDoorJobPrint
import Derived.Test.YtileonenphmkkaaDoorJobRefF
namespace Go.Proofs.YtileonenphmkkaaDoor
open Go.RowKit
set_option linter.unusedVariables false
set_option maxRecDepth 8000
namespace Jo
open Gen
open Go.Lib (decDigits)
theorem rNum (n : Nat) (h : n ≤ 9223372036854775807) (w : World) (ht : Tb w) : Calls Tryd.prog 21 #[.int .i64 (n : Int)] w (GivesS (decDigits n) w) := by
  have H := Lib.hid (fmt10 n h w ht)
  clear h ht
  go_enter Tryd.func21, Tryd.ntmps21
  go_wp2_with fail
  refine H.out.mono ?_
  rintro e w1 ⟨rfl, hb⟩
  have HB := Lib.hid hb
  clear hb
  go_wp2_with fail
  go_ret
  exact ⟨rfl, HB.out⟩
theorem text_sums (g a b k f l d i : Nat) : tx1 wGroups g ++ (tx2 wWindow a b ++ (txF k ++ (tx2 wLoop l f ++ (tx1 wDelay d ++ (tx1 wIdle i ++ []))))) = [103, 114, 111, 117, 112, 115, 32] ++ decDigits g ++ [10, 119, 105, 110, 100, 111, 119, 32] ++ decDigits a ++ [32] ++ decDigits b ++ [10, 102, 111, 108, 100, 32] ++ name k ++ [10, 108, 111, 111, 112, 32] ++ decDigits l ++ [32] ++ decDigits f ++ [10, 100, 101, 108, 97, 121, 32] ++ decDigits d ++ [10, 105, 100, 108, 101, 32] ++ decDigits i ++ [10] := by
  simp [tx1, tx2, txF, wGroups, wWindow, wLoop, wDelay, wIdle, wFold]
set_option maxHeartbeats 1500000 in
theorem rText_nats (g a b k f l d i : Nat) (hk : k ≤ 5) (hg : g ≤ 9223372036854775807) (ha : a ≤ 9223372036854775807) (hb : b ≤ 9223372036854775807) (hf : f ≤ 9223372036854775807) (hl : l ≤ 9223372036854775807) (hd : d ≤ 9223372036854775807) (hi : i ≤ 9223372036854775807) (w : World) (hw : Tb w) :
    Calls Tryd.prog 11 #[jbV ⟨g, a, b, k, f, l, d, i⟩] w (GivesS (tx1 wGroups g ++ (tx2 wWindow a b ++ (txF k ++ (tx2 wLoop l f ++ (tx1 wDelay d ++ (tx1 wIdle i ++ [])))))) w) := by
  have HNm := Lib.hid (fun w => rName k (by omega) w)
  rw [text_sums]
  have HDg := Lib.hid (fun w ht => rNum g hg w ht)
  have zg := dec_len hg
  obtain ⟨dg, eg⟩ : ∃ x, x = decDigits g := ⟨_, rfl⟩
  rw [← eg] at HDg zg ⊢
  have HDa := Lib.hid (fun w ht => rNum a ha w ht)
  have za := dec_len ha
  obtain ⟨da, ea⟩ : ∃ x, x = decDigits a := ⟨_, rfl⟩
  rw [← ea] at HDa za ⊢
  have HDb := Lib.hid (fun w ht => rNum b hb w ht)
  have zb := dec_len hb
  obtain ⟨db, eb⟩ : ∃ x, x = decDigits b := ⟨_, rfl⟩
  rw [← eb] at HDb zb ⊢
  have HDf := Lib.hid (fun w ht => rNum f hf w ht)
  have zf := dec_len hf
  obtain ⟨df, ef⟩ : ∃ x, x = decDigits f := ⟨_, rfl⟩
  rw [← ef] at HDf zf ⊢
  have HDl := Lib.hid (fun w ht => rNum l hl w ht)
  have zl := dec_len hl
  obtain ⟨dl, el⟩ : ∃ x, x = decDigits l := ⟨_, rfl⟩
  rw [← el] at HDl zl ⊢
  have HDd := Lib.hid (fun w ht => rNum d hd w ht)
  have zd := dec_len hd
  obtain ⟨dd, ed⟩ : ∃ x, x = decDigits d := ⟨_, rfl⟩
  rw [← ed] at HDd zd ⊢
  have HDi := Lib.hid (fun w ht => rNum i hi w ht)
  have zi := dec_len hi
  obtain ⟨di, ei⟩ : ∃ x, x = decDigits i := ⟨_, rfl⟩
  rw [← ei] at HDi zi ⊢
  have zk := name_len8 k
  obtain ⟨nk, ek⟩ : ∃ x, x = name k := ⟨_, rfl⟩
  rw [← ek] at HNm zk ⊢
  have hs1 := addS [103, 114, 111, 117, 112, 115, 32] dg (by (try simp only [List.length_cons, List.length_nil]); omega)
  obtain ⟨s1, u1⟩ : ∃ s, s = [103, 114, 111, 117, 112, 115, 32] ++ dg := ⟨_, rfl⟩
  have p1 : s1.length ≤ 100 := by rw [u1, List.length_append]; (try simp only [List.length_cons, List.length_nil]); omega
  rw [← u1] at hs1 ⊢
  have hs2 := addS s1 [10, 119, 105, 110, 100, 111, 119, 32] (by (try simp only [List.length_cons, List.length_nil]); omega)
  obtain ⟨s2, u2⟩ : ∃ s, s = s1 ++ [10, 119, 105, 110, 100, 111, 119, 32] := ⟨_, rfl⟩
  have p2 : s2.length ≤ 200 := by rw [u2, List.length_append]; (try simp only [List.length_cons, List.length_nil]); omega
  rw [← u2] at hs2 ⊢
  have hs3 := addS s2 da (by (try simp only [List.length_cons, List.length_nil]); omega)
  obtain ⟨s3, u3⟩ : ∃ s, s = s2 ++ da := ⟨_, rfl⟩
  have p3 : s3.length ≤ 300 := by rw [u3, List.length_append]; (try simp only [List.length_cons, List.length_nil]); omega
  rw [← u3] at hs3 ⊢
  have hs4 := addS s3 [32] (by (try simp only [List.length_cons, List.length_nil]); omega)
  obtain ⟨s4, u4⟩ : ∃ s, s = s3 ++ [32] := ⟨_, rfl⟩
  have p4 : s4.length ≤ 400 := by rw [u4, List.length_append]; (try simp only [List.length_cons, List.length_nil]); omega
  rw [← u4] at hs4 ⊢
  have hs5 := addS s4 db (by (try simp only [List.length_cons, List.length_nil]); omega)
  obtain ⟨s5, u5⟩ : ∃ s, s = s4 ++ db := ⟨_, rfl⟩
  have p5 : s5.length ≤ 500 := by rw [u5, List.length_append]; (try simp only [List.length_cons, List.length_nil]); omega
  rw [← u5] at hs5 ⊢
  have hs6 := addS s5 [10, 102, 111, 108, 100, 32] (by (try simp only [List.length_cons, List.length_nil]); omega)
  obtain ⟨s6, u6⟩ : ∃ s, s = s5 ++ [10, 102, 111, 108, 100, 32] := ⟨_, rfl⟩
  have p6 : s6.length ≤ 600 := by rw [u6, List.length_append]; (try simp only [List.length_cons, List.length_nil]); omega
  rw [← u6] at hs6 ⊢
  have hs7 := addS s6 nk (by (try simp only [List.length_cons, List.length_nil]); omega)
  obtain ⟨s7, u7⟩ : ∃ s, s = s6 ++ nk := ⟨_, rfl⟩
  have p7 : s7.length ≤ 700 := by rw [u7, List.length_append]; (try simp only [List.length_cons, List.length_nil]); omega
  rw [← u7] at hs7 ⊢
  have hs8 := addS s7 [10, 108, 111, 111, 112, 32] (by (try simp only [List.length_cons, List.length_nil]); omega)
  obtain ⟨s8, u8⟩ : ∃ s, s = s7 ++ [10, 108, 111, 111, 112, 32] := ⟨_, rfl⟩
  have p8 : s8.length ≤ 800 := by rw [u8, List.length_append]; (try simp only [List.length_cons, List.length_nil]); omega
  rw [← u8] at hs8 ⊢
  have hs9 := addS s8 dl (by (try simp only [List.length_cons, List.length_nil]); omega)
  obtain ⟨s9, u9⟩ : ∃ s, s = s8 ++ dl := ⟨_, rfl⟩
  have p9 : s9.length ≤ 900 := by rw [u9, List.length_append]; (try simp only [List.length_cons, List.length_nil]); omega
  rw [← u9] at hs9 ⊢
  have hs10 := addS s9 [32] (by (try simp only [List.length_cons, List.length_nil]); omega)
  obtain ⟨s10, u10⟩ : ∃ s, s = s9 ++ [32] := ⟨_, rfl⟩
  have p10 : s10.length ≤ 1000 := by rw [u10, List.length_append]; (try simp only [List.length_cons, List.length_nil]); omega
  rw [← u10] at hs10 ⊢
  have hs11 := addS s10 df (by (try simp only [List.length_cons, List.length_nil]); omega)
  obtain ⟨s11, u11⟩ : ∃ s, s = s10 ++ df := ⟨_, rfl⟩
  have p11 : s11.length ≤ 1100 := by rw [u11, List.length_append]; (try simp only [List.length_cons, List.length_nil]); omega
  rw [← u11] at hs11 ⊢
  have hs12 := addS s11 [10, 100, 101, 108, 97, 121, 32] (by (try simp only [List.length_cons, List.length_nil]); omega)
  obtain ⟨s12, u12⟩ : ∃ s, s = s11 ++ [10, 100, 101, 108, 97, 121, 32] := ⟨_, rfl⟩
  have p12 : s12.length ≤ 1200 := by rw [u12, List.length_append]; (try simp only [List.length_cons, List.length_nil]); omega
  rw [← u12] at hs12 ⊢
  have hs13 := addS s12 dd (by (try simp only [List.length_cons, List.length_nil]); omega)
  obtain ⟨s13, u13⟩ : ∃ s, s = s12 ++ dd := ⟨_, rfl⟩
  have p13 : s13.length ≤ 1300 := by rw [u13, List.length_append]; (try simp only [List.length_cons, List.length_nil]); omega
  rw [← u13] at hs13 ⊢
  have hs14 := addS s13 [10, 105, 100, 108, 101, 32] (by (try simp only [List.length_cons, List.length_nil]); omega)
  obtain ⟨s14, u14⟩ : ∃ s, s = s13 ++ [10, 105, 100, 108, 101, 32] := ⟨_, rfl⟩
  have p14 : s14.length ≤ 1400 := by rw [u14, List.length_append]; (try simp only [List.length_cons, List.length_nil]); omega
  rw [← u14] at hs14 ⊢
  have hs15 := addS s14 di (by (try simp only [List.length_cons, List.length_nil]); omega)
  obtain ⟨s15, u15⟩ : ∃ s, s = s14 ++ di := ⟨_, rfl⟩
  have p15 : s15.length ≤ 1500 := by rw [u15, List.length_append]; (try simp only [List.length_cons, List.length_nil]); omega
  rw [← u15] at hs15 ⊢
  have hs16 := addS s15 [10] (by (try simp only [List.length_cons, List.length_nil]); omega)
  obtain ⟨s16, u16⟩ : ∃ s, s = s15 ++ [10] := ⟨_, rfl⟩
  have p16 : s16.length ≤ 1600 := by rw [u16, List.length_append]; (try simp only [List.length_cons, List.length_nil]); omega
  rw [← u16] at hs16 ⊢
  have X0 := Lib.hid (Lies.new w (jbC ⟨g, a, b, k, f, l, d, i⟩) 23)
  have T0 := Lib.hid hw
  clear hk hg ha hb hf hl hd hi hw eg ea eb ef el ed ei ek zg za zb zf zl zd zi zk u1 p1 u2 p2 u3 p3 u4 p4 u5 p5 u6 p6 u7 p7 u8 p8 u9 p9 u10 p10 u11 p11 u12 p12 u13 p13 u14 p14 u15 p15 u16 p16
  have B1 := below_al (o := .cells (jbC ⟨g, a, b, k, f, l, d, i⟩) 23) (Below.refl w.heap.size w)
  have S0 : Tb (w.alloc (.cells (jbC ⟨g, a, b, k, f, l, d, i⟩) 23)).drew ∧ (w.alloc (.cells (jbC ⟨g, a, b, k, f, l, d, i⟩) 23)).drew.cell? ⟨w.heap.size, 0, none⟩ = some (.int .i64 (g : Int)) ∧ (w.alloc (.cells (jbC ⟨g, a, b, k, f, l, d, i⟩) 23)).drew.cell? ⟨w.heap.size, 1, none⟩ = some (.int .i64 (a : Int)) ∧ (w.alloc (.cells (jbC ⟨g, a, b, k, f, l, d, i⟩) 23)).drew.cell? ⟨w.heap.size, 2, none⟩ = some (.int .i64 (b : Int)) ∧ (w.alloc (.cells (jbC ⟨g, a, b, k, f, l, d, i⟩) 23)).drew.cell? ⟨w.heap.size, 3, none⟩ = some (.int .i64 (k : Int)) ∧ (w.alloc (.cells (jbC ⟨g, a, b, k, f, l, d, i⟩) 23)).drew.cell? ⟨w.heap.size, 4, none⟩ = some (.int .i64 (f : Int)) ∧ (w.alloc (.cells (jbC ⟨g, a, b, k, f, l, d, i⟩) 23)).drew.cell? ⟨w.heap.size, 5, none⟩ = some (.int .i64 (l : Int)) ∧ (w.alloc (.cells (jbC ⟨g, a, b, k, f, l, d, i⟩) 23)).drew.cell? ⟨w.heap.size, 6, none⟩ = some (.int .i64 (d : Int)) ∧ (w.alloc (.cells (jbC ⟨g, a, b, k, f, l, d, i⟩) 23)).drew.cell? ⟨w.heap.size, 7, none⟩ = some (.int .i64 (i : Int)) ∧ Below w.heap.size w (w.alloc (.cells (jbC ⟨g, a, b, k, f, l, d, i⟩) 23)).drew := keep9 (x := (w.alloc (.cells (jbC ⟨g, a, b, k, f, l, d, i⟩) 23))) ⟨T0.out.next B1, X0.out.cell (j := 0) rfl, X0.out.cell (j := 1) rfl, X0.out.cell (j := 2) rfl, X0.out.cell (j := 3) rfl, X0.out.cell (j := 4) rfl, X0.out.cell (j := 5) rfl, X0.out.cell (j := 6) rfl, X0.out.cell (j := 7) rfl, B1⟩ (below_drewOf (Below.refl _ _))
  clear B1
  go_enter Tryd.func11, Tryd.ntmps11
  go_wp2_with fail
  go_region_held3 (fun w' => Tb w' ∧ w'.cell? ⟨w.heap.size, 0, none⟩ = some (.int .i64 (g : Int)) ∧ w'.cell? ⟨w.heap.size, 1, none⟩ = some (.int .i64 (a : Int)) ∧ w'.cell? ⟨w.heap.size, 2, none⟩ = some (.int .i64 (b : Int)) ∧ w'.cell? ⟨w.heap.size, 3, none⟩ = some (.int .i64 (k : Int)) ∧ w'.cell? ⟨w.heap.size, 4, none⟩ = some (.int .i64 (f : Int)) ∧ w'.cell? ⟨w.heap.size, 5, none⟩ = some (.int .i64 (l : Int)) ∧ w'.cell? ⟨w.heap.size, 6, none⟩ = some (.int .i64 (d : Int)) ∧ w'.cell? ⟨w.heap.size, 7, none⟩ = some (.int .i64 (i : Int)) ∧ Below w.heap.size w w') (first | with_reducible assumption | ((with_reducible refine keep9 ?_ hb5); with_reducible assumption) | ((with_reducible refine keep9d ?_); with_reducible assumption) | ((with_reducible refine keep9 ?_ (below_al (Below.refl _ _))); with_reducible assumption))
    (first
      | (go_at_call 21; first | ((with_reducible refine (HDg.out _ (And.left (by assumption))).mono ?_); rintro e w5 ⟨rfl, hb5⟩) | ((with_reducible refine (HDa.out _ (And.left (by assumption))).mono ?_); rintro e w5 ⟨rfl, hb5⟩) | ((with_reducible refine (HDb.out _ (And.left (by assumption))).mono ?_); rintro e w5 ⟨rfl, hb5⟩) | ((with_reducible refine (HDl.out _ (And.left (by assumption))).mono ?_); rintro e w5 ⟨rfl, hb5⟩) | ((with_reducible refine (HDf.out _ (And.left (by assumption))).mono ?_); rintro e w5 ⟨rfl, hb5⟩) | ((with_reducible refine (HDd.out _ (And.left (by assumption))).mono ?_); rintro e w5 ⟨rfl, hb5⟩) | ((with_reducible refine (HDi.out _ (And.left (by assumption))).mono ?_); rintro e w5 ⟨rfl, hb5⟩))
      | (go_at_call 22; refine (HNm.out _).mono ?_; rintro e w5 ⟨rfl, rfl⟩))
  all_goals (
    go_wp2_with fail
    go_ret
    exact ⟨rfl, keep9B (by assumption)⟩)
theorem rText (j : Jb) (hr : right j = true) (hl : j.limit ≤ 9223372036854775807) (w : World) (hw : Tb w) : Calls Tryd.prog 11 #[jbV j] w (GivesS (text j) w) := by
  obtain ⟨g, a, b, k, l, f, d, i, N⟩ := right_nats hr
  have ht := text_nats N
  rw [ht]
  clear ht
  obtain ⟨n1, n2, n3, n4, n5, n6, n7, n8⟩ := N
  obtain ⟨jg, ja, jb, jk, jf, jl, jd, ji⟩ := j
  simp only at n1 n2 n3 n4 n5 n6 n7 n8 hl
  obtain ⟨rfl, n1⟩ := n1
  obtain ⟨rfl, n2⟩ := n2
  obtain ⟨rfl, n3⟩ := n3
  obtain ⟨rfl, n4⟩ := n4
  obtain rfl := n5
  obtain ⟨rfl, n6⟩ := n6
  obtain ⟨rfl, n7⟩ := n7
  obtain ⟨rfl, n8⟩ := n8
  exact rText_nats g a b k f l d i (by omega) (by omega) (by omega) (by omega) (by omega) (by omega) (by omega) (by omega) w hw
end Jo
end Go.Proofs.YtileonenphmkkaaDoor
