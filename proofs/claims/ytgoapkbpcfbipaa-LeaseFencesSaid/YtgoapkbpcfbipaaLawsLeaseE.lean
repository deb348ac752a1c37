/- The walk of the law LeaseTurns. -/
import Derived.Test.YtgoapkbpcfbipaaLeaseTurn
namespace Go.Proofs.Ytgoapkbpcfbipaa
open Go.ChangeShapes Go.WideShapes Go.ChangeAt Go.RowKit
set_option linter.unusedVariables false
set_option maxRecDepth 8000
namespace Ls
open Gen (TellsB TellsI SaysB row_one flat_len flat_get)
open Tick (cl addT)
open Rg (iv)
theorem keepTn {w0 : World} {b1 : Nat} {l : List Le} {la : Int} {n : Nat} {A : Option Addr} {c : Nat} {w w' : World} (hb : Below w.heap.size w w')
    (h : w.cell? ⟨b1, 0, none⟩ = some (.slice A n c) ∧ w.cell? ⟨b1, 1, none⟩ = some (.int .i64 la) ∧ TbAt b1 ⟨l, la⟩ n A c w ∧ Below w0.heap.size w0 w) :
    w'.cell? ⟨b1, 0, none⟩ = some (.slice A n c) ∧ w'.cell? ⟨b1, 1, none⟩ = some (.int .i64 la) ∧ TbAt b1 ⟨l, la⟩ n A c w' ∧ Below w0.heap.size w0 w' :=
  ⟨Gen.cell_below h.1 hb, Gen.cell_below h.2.1 hb, h.2.2.1.next hb, below_next h.2.2.2 hb⟩
theorem tbOfTn {w0 : World} {b1 : Nat} {l : List Le} {la : Int} {n : Nat} {A : Option Addr} {c : Nat} {w : World}
    (h : w.cell? ⟨b1, 0, none⟩ = some (.slice A n c) ∧ w.cell? ⟨b1, 1, none⟩ = some (.int .i64 la) ∧ TbAt b1 ⟨l, la⟩ n A c w ∧ Below w0.heap.size w0 w) : TbAt b1 ⟨l, la⟩ n A c w ∧ Below w0.heap.size w0 w := h.2.2
theorem tn_mod (x : Int) {N : Nat} (h : 1 ≤ N) : ∃ (q : Int) (j : Nat), x.tmod N = q ∧ (q + N).tmod N = (j : Int) ∧ j < N ∧ -(N : Int) < q ∧ q < N := by
  have h0 : (0 : Int) < N := by omega
  have h1 : -(N : Int) < x.tmod N := by have := Int.lt_tmod_of_pos x h0; omega
  have h2 : x.tmod N < N := Int.tmod_lt_of_pos x h0
  refine ⟨x.tmod N, ((x.tmod N + N).tmod N).toNat, rfl, ?_, ?_, h1, h2⟩
  · have := Int.tmod_nonneg (N : Int) (show (0 : Int) ≤ x.tmod N + N by omega); omega
  · have := Int.tmod_nonneg (N : Int) (show (0 : Int) ≤ x.tmod N + N by omega)
    have := Int.tmod_lt_of_pos (x.tmod N + N) h0
    omega
set_option maxRecDepth 100000 in
set_option maxHeartbeats 2000000 in
theorem walkTurns (n g a b now long : Int) (w : World) :
    Calls Try.prog 7 #[.int .i64 n, .int .i64 g, .int .i64 a, .int .i64 b, .int .i64 now, .int .i64 long] w (TellsB true w) := by
  obtain ⟨N, hN⟩ : ∃ N : Nat, min (max n 1) 32 = (N : Int) := ⟨(min (max n 1) 32).toNat, by omega⟩
  obtain ⟨q, j, hq, hj, hjN, hq1, hq2⟩ := tn_mod g (N := N) (by omega)
  obtain ⟨a1, ha⟩ : ∃ a1, min (max a 1) 99 = a1 := ⟨_, rfl⟩
  obtain ⟨b1, hb⟩ : ∃ b1, min (max b 1) 99 = b1 := ⟨_, rfl⟩
  obtain ⟨T, hT⟩ : ∃ T, min (max now 0) 1073741824 = T := ⟨_, rfl⟩
  obtain ⟨L, hL⟩ : ∃ L, min (max long 1) 1073741824 = L := ⟨_, rfl⟩
  have tn : Tn N j a1 b1 T L := ⟨by omega, by omega, hjN, by omega, by omega, by omega, by omega⟩
  have HTN := Lib.hid tn
  have hN1 := tn.n1; have hN2 := tn.n2
  have ht := tn.t; have hl := tn.l
  have hN0 : ((N : Int) == 0) = false := ne_b (by omega)
  have hwq : IntKind.i64.wrap (q + N) = q + N := wrapS (by omega) (by omega)
  have hwa : IntKind.i64.wrap (T + L) = T + L := wrapS (by omega) (by omega)
  have hwb : IntKind.i64.wrap (T + L - 1) = T + L - 1 := wrapS (by omega) (by omega)
  have HWA := Lib.hid hwa
  have HWB := Lib.hid hwb
  have HN := Lib.hid (fun w' => ckNew (N : Int) (tu0 N, 0) tn.new.symm N tn.len0.symm w')
  obtain ⟨l0, hl0⟩ : ∃ l0, l0 = (tu0 N).ls := ⟨_, rfl⟩
  obtain ⟨l1, hl1⟩ : ∃ l1, l1 = (tu1 N j a1 (T + L)).ls := ⟨_, rfl⟩
  obtain ⟨l2, hl2⟩ : ∃ l2, l2 = (tu2 N j a1 (T + L) b1 (addT (T + L) L)).ls := ⟨_, rfl⟩
  obtain ⟨l3, hl3⟩ : ∃ l3, l3 = (tu3 N j a1 (T + L)).ls := ⟨_, rfl⟩
  obtain ⟨l4, hl4⟩ : ∃ l4, l4 = (tu4 N j a1 (T + L) b1 (addT T L)).ls := ⟨_, rfl⟩
  have e0 : tu0 N = ⟨l0, 0⟩ := by rw [hl0]; rfl
  have e1 : tu1 N j a1 (T + L) = ⟨l1, 1⟩ := by rw [hl1]; rfl
  have e2 : tu2 N j a1 (T + L) b1 (addT (T + L) L) = ⟨l2, 2⟩ := by rw [hl2]; rfl
  have e3 : tu3 N j a1 (T + L) = ⟨l3, 1⟩ := by rw [hl3]; rfl
  have e4 : tu4 N j a1 (T + L) b1 (addT T L) = ⟨l4, 2⟩ := by rw [hl4]; rfl
  rw [e0] at HN
  have HG1 := Lib.hid (fun A c (hc : N ≤ c) w' (h' : Row w' A (lec l0)) => ckGrant l0 N 0 j a1 T L A c (⟨l1, 1⟩, 1, 0) N (by rw [hl0, tn.len0]) (by rw [← e0, ← e1]; exact tn.grant1.symm) (by rw [hl1]; exact tn.len1.symm) w' h' (by omega) hc)
  obtain ⟨p1, hp1⟩ : ∃ p, p = ownersO (tu1 N j a1 (T + L)) (cl (T + L - 1)) := ⟨_, rfl⟩
  obtain ⟨p2, hp2⟩ : ∃ p, p = ownersO (tu1 N j a1 (T + L)) (cl (T + L)) := ⟨_, rfl⟩
  have HP1 : Hid (p1[j]? = some a1) := Lib.hid (by rw [hp1]; exact tn.before)
  have HP2 : Hid (p2[j]? = some 0) := Lib.hid (by rw [hp2]; exact tn.behind)
  have HO1 := Lib.hid (fun A c (hc : N ≤ c) w' (h' : Row w' A (lec l1)) => ckOwners l1 N 1 (T + L - 1) A c p1 N (by rw [hl1]; exact tn.len1.symm) (by rw [hp1, e1]) (by rw [hp1]; exact (tn.own_len _).symm) w' h' (by omega) hc)
  have HO2 := Lib.hid (fun A c (hc : N ≤ c) w' (h' : Row w' A (lec l1)) => ckOwners l1 N 1 (T + L) A c p2 N (by rw [hl1]; exact tn.len1.symm) (by rw [hp2, e1]) (by rw [hp2]; exact (tn.own_len _).symm) w' h' (by omega) hc)
  have HF1 := Lib.hid (fun A c (hc : N ≤ c) w' (h' : Row w' A (lec l1)) => ckFenced l1 N 1 j 1 A c false (by rw [hl1]; exact tn.len1.symm) (by rw [← e1]; exact tn.fenced1.symm) w' h' (by omega) hc)
  have HG2 := Lib.hid (fun A c (hc : N ≤ c) w' (h' : Row w' A (lec l1)) => ckGrant l1 N 1 j b1 (T + L - 1) L A c (⟨[], 0⟩, 0, 160) 0 (by rw [hl1]; exact tn.len1.symm) (by rw [← e1]; exact tn.grant2.symm) rfl w' h' (by omega) hc)
  have HG3 := Lib.hid (fun A c (hc : N ≤ c) w' (h' : Row w' A (lec l1)) => ckGrant l1 N 1 j b1 (T + L) L A c (⟨l2, 2⟩, 2, 0) N (by rw [hl1]; exact tn.len1.symm) (by rw [← e1, ← e2]; exact tn.grant3.symm) (by rw [hl2]; exact (tn.len2 _).symm) w' h' (by omega) hc)
  have HGV := Lib.hid (fun A c (hc : N ≤ c) w' (h' : Row w' A (lec l1)) => ckGive l1 N 1 j 1 A c (⟨l3, 1⟩, 0) N (by rw [hl1]; exact tn.len1.symm) (by rw [← e1, ← e3]; exact tn.give.symm) (by rw [hl3]; exact tn.len3.symm) w' h' (by omega) hc)
  have HG4 := Lib.hid (fun A c (hc : N ≤ c) w' (h' : Row w' A (lec l3)) => ckGrant l3 N 1 j b1 T L A c (⟨l4, 2⟩, 2, 0) N (by rw [hl3]; exact tn.len3.symm) (by rw [← e3, ← e4]; exact tn.grant4.symm) (by rw [hl4]; exact (tn.len4 _).symm) w' h' (by omega) hc)
  have HF2 := Lib.hid (fun A c (hc : N ≤ c) w' (h' : Row w' A (lec l2)) => ckFenced l2 N 2 j 1 A c true (by rw [hl2]; exact (tn.len2 _).symm) (by rw [← e2]; exact (tn.fenced2 _).symm) w' h' (by omega) hc)
  have HF3 := Lib.hid (fun A c (hc : N ≤ c) w' (h' : Row w' A (lec l3)) => ckFenced l3 N 1 j 1 A c true (by rw [hl3]; exact tn.len3.symm) (by rw [← e3]; exact tn.fenced3.symm) w' h' (by omega) hc)
  have HAL := Lib.hid (fun w' => lawAlive w')
  clear e0 e1 e2 e3 e4 hl0 hl1 hl2 hl3 hl4 hp1 hp2 tn hq1 hq2 ht hl
  go_enter Try.func7, Try.ntmps7
  go_wp2_with fail
  refine (HN.out _).mono ?_
  rintro e w1 ⟨A0, c0, rfl, ho0, hb1⟩
  have hb2 := below_next hb1 (below_al (o := .cells #[.slice A0 N c0, .int .i64 0] 24) (Below.refl w1.heap.size w1))
  have HB1 := Lib.hid hb2
  have HSZ := Lib.hid hb1.size
  have T1 := Lib.hid (TbAt.own (t := ⟨l0, 0⟩) ho0)
  clear hb1 hb2 ho0 hN
  go_upto_region 2 with fail
  obtain ⟨bt, hbt⟩ : ∃ b, b = w1.heap.size := ⟨_, rfl⟩
  obtain ⟨W1, hW1⟩ : ∃ W, W = w1.alloc (.cells #[.slice A0 N c0, .int .i64 0] 24) := ⟨_, rfl⟩
  rw [← hW1] at HB1 T1 ⊢
  rw [← hbt] at T1 HSZ ⊢
  clear hW1 hbt
  have hnz : ((N : Int) == 0) = false := hN0
  have x0 := T1.out.at_.cell (j := 0) rfl; have x1 := T1.out.at_.cell (j := 1) rfl
  have f0 := T1.out.at_.free 0; have f1 := T1.out.at_.free 1
  go_wp2_with fail
  refine (HG1.out _ _ T1.out.cap _ T1.out.row).mono ?_
  rintro e w2 ⟨A1, c1, rfl, ho1, hb2⟩
  have HB2 := Lib.hid (below_next HB1.out hb2)
  have L2 := Lib.hid (T1.out.at_.below hb2)
  have HT2 := Lib.hid (own_rowS ho1)
  clear hb2 x0 x1 f0 f1
  have x0 := L2.out.cell (j := 0) rfl; have x1 := L2.out.cell (j := 1) rfl
  have f0 := L2.out.free 0; have f1 := L2.out.free 1
  clear hq hj hwq ha hb hT hL
  go_upto_region 9 with fail
  have HO1B := Lib.hid (own_blkS ho1 L2.out tl_ne)
  have T3 : Hid (TbAt bt ⟨l1, 1⟩ N A1 c1 ((w2.setCell ⟨bt, 0, none⟩ (.slice A1 N c1)).setCell ⟨bt, 1, none⟩ (.int .i64 1))) := Lib.hid ⟨by have h := (L2.out.set 0 (.slice A1 N c1)).set 1 (.int .i64 1); simpa using h, (own_rowS (own_setS (own_setS ho1 ⟨bt, 0, none⟩ HO1B.out (.slice A1 N c1)) ⟨bt, 1, none⟩ HO1B.out (.int .i64 1))).1, HT2.out.2.2, HT2.out.2.1⟩
  have HB3 := Lib.hid ((HB2.out.setCell (p := ⟨bt, 0, none⟩) HSZ.out (.slice A1 N c1)).setCell (p := ⟨bt, 1, none⟩) HSZ.out (.int .i64 1))
  obtain ⟨W3, hW3⟩ : ∃ W, W = (w2.setCell ⟨bt, 0, none⟩ (.slice A1 N c1)).setCell ⟨bt, 1, none⟩ (.int .i64 1) := ⟨_, rfl⟩
  rw [← hW3] at T3 HB3 ⊢
  clear hW3 x0 x1 f0 f1 ho1 L2 HB2 T1 HB1
  have S0 : W3.drew.cell? ⟨bt, 0, none⟩ = some (.slice A1 N c1) ∧ W3.drew.cell? ⟨bt, 1, none⟩ = some (.int .i64 1) ∧ TbAt bt ⟨l1, 1⟩ N A1 c1 W3.drew ∧ Below w.heap.size w W3.drew := ⟨T3.out.at_.cell (j := 0) rfl, T3.out.at_.cell (j := 1) rfl, T3.out.next (below_drewOf (Below.refl _ _)), below_drewOf HB3.out⟩
  go_region_held3 (fun w' => w'.cell? ⟨bt, 0, none⟩ = some (.slice A1 N c1) ∧ w'.cell? ⟨bt, 1, none⟩ = some (.int .i64 1) ∧ TbAt bt ⟨l1, 1⟩ N A1 c1 w' ∧ Below w.heap.size w w')
    (first | with_reducible assumption | ((with_reducible refine keepTn hb5 ?_); with_reducible assumption))
    (first
    | (go_at_call 16
       with_reducible refine (HO1.out _ _ HT2.out.2.1 _ (tbOfTn (l := l1) (la := 1) (by with_reducible assumption)).1.row).mono ?_
       rintro e w5 ⟨A5, c5, rfl, ho5, hb5⟩
       (try have HR6 := Lib.hid (own_upB HR6.out hb5.block))
       have HR5 := Lib.hid ho5
       have K5 := Lib.hid (tbOfTn (keepTn (w0 := w) (l := l1) (la := 1) hb5 (by with_reducible assumption)))
       clear ho5
       dsimp only)
    | (go_at_call 16
       with_reducible refine (HO2.out _ _ HT2.out.2.1 _ (tbOfTn (l := l1) (la := 1) (by with_reducible assumption)).1.row).mono ?_
       rintro e w6 ⟨A6, c6, rfl, ho6, hb5⟩
       (try have HR5 := Lib.hid (own_upB HR5.out hb5.block))
       have HR6 := Lib.hid ho6
       have K5 := Lib.hid (tbOfTn (keepTn (w0 := w) (l := l1) (la := 1) hb5 (by with_reducible assumption)))
       clear ho6
       dsimp only)
    | fail)
  all_goals (
    go_upto_region 10 with fail
    have HBX := Lib.hid K5.out.2
    have KT := Lib.hid K5.out.1
    obtain ⟨q5, off5, hA5, d5⟩ := Rg.row_int (own_rowI HR5.out) HP1.out
    obtain ⟨q6, off6, hA6, d6⟩ := Rg.row_int (own_rowI HR6.out) HP2.out
    subst hA5 hA6
    clear S0 K5
    have x0 := KT.out.at_.cell (j := 0) rfl; have x1 := KT.out.at_.cell (j := 1) rfl
    have hji : (j : Int) < (N : Int) := by omega
    go_wp2_with fail
    refine (HF1.out _ _ KT.out.cap _ KT.out.row).mono ?_
    rintro e w7 ⟨rfl, hb7⟩
    have HBX := Lib.hid (below_next HBX.out hb7)
    have KT := Lib.hid (KT.out.next hb7)
    have D5 := Lib.hid (Gen.cell_below d5 hb7)
    have D6 := Lib.hid (Gen.cell_below d6 hb7)
    clear x0 x1 d5 d6 hb7
    have d5 := D5.out; have d6 := D6.out
    clear D5 D6
    go_upto_region 12 with fail
    clear d5 d6
    have x0 := KT.out.at_.cell (j := 0) rfl; have x1 := KT.out.at_.cell (j := 1) rfl
    go_wp2_with fail
    refine (HG2.out _ _ KT.out.cap _ KT.out.row).mono ?_
    rintro e w8 ⟨A8, c8, rfl, ho8, hb8⟩
    have hbk := below_next hb8 (below_al (o := .cells #[.slice A8 0 c8, .int .i64 0] 24) (Below.refl w8.heap.size w8))
    have HBX := Lib.hid (below_next HBX.out hbk)
    have KT := Lib.hid (KT.out.next hbk)
    clear hb8 x0 x1 hbk
    go_upto_region 13 with fail
    obtain ⟨b8, hb8⟩ : ∃ b, b = w8.heap.size := ⟨_, rfl⟩
    obtain ⟨W8, hW8⟩ : ∃ W, W = w8.alloc (.cells #[.slice A8 0 c8, .int .i64 0] 24) := ⟨_, rfl⟩
    rw [← hW8] at HBX KT ⊢
    rw [← hb8] at ⊢
    clear hW8 hb8 ho8
    have x0 := KT.out.at_.cell (j := 0) rfl; have x1 := KT.out.at_.cell (j := 1) rfl
    go_wp2_with fail
    refine (HG3.out _ _ KT.out.cap _ KT.out.row).mono ?_
    rintro e w9 ⟨A9, c9, rfl, ho9, hb9⟩
    have hbk := below_next hb9 (below_al (o := .cells #[.slice A9 N c9, .int .i64 2] 24) (Below.refl w9.heap.size w9))
    have HBX := Lib.hid (below_next HBX.out hbk)
    have KT := Lib.hid (KT.out.next hbk)
    have KU := Lib.hid (TbAt.own (t := ⟨l2, 2⟩) ho9)
    clear hb9 x0 x1 hbk
    go_upto_region 14 with fail
    obtain ⟨b9, hb9⟩ : ∃ b, b = w9.heap.size := ⟨_, rfl⟩
    obtain ⟨W9, hW9⟩ : ∃ W, W = w9.alloc (.cells #[.slice A9 N c9, .int .i64 2] 24) := ⟨_, rfl⟩
    rw [← hW9] at HBX KT KU ⊢
    rw [← hb9] at KU ⊢
    clear hW9 hb9 ho9
    have x0 := KT.out.at_.cell (j := 0) rfl; have x1 := KT.out.at_.cell (j := 1) rfl
    go_wp2_with fail
    refine (HGV.out _ _ KT.out.cap _ KT.out.row).mono ?_
    rintro e w10 ⟨A10, c10, rfl, ho10, hb10⟩
    have hbk := below_next hb10 (below_al (o := .cells #[.slice A10 N c10, .int .i64 1] 24) (Below.refl w10.heap.size w10))
    have HBX := Lib.hid (below_next HBX.out hbk)
    have KT := Lib.hid (KT.out.next hbk)
    have KU := Lib.hid (KU.out.next hbk)
    have KV := Lib.hid (TbAt.own (t := ⟨l3, 1⟩) ho10)
    clear hb10 x0 x1 hbk
    go_upto_region 15 with fail
    obtain ⟨b10, hb10⟩ : ∃ b, b = w10.heap.size := ⟨_, rfl⟩
    obtain ⟨W10, hW10⟩ : ∃ W, W = w10.alloc (.cells #[.slice A10 N c10, .int .i64 1] 24) := ⟨_, rfl⟩
    rw [← hW10] at HBX KT KU KV ⊢
    rw [← hb10] at KV ⊢
    clear hW10 hb10 ho10
    have x0 := KV.out.at_.cell (j := 0) rfl; have x1 := KV.out.at_.cell (j := 1) rfl
    go_wp2_with fail
    refine (HG4.out _ _ KV.out.cap _ KV.out.row).mono ?_
    rintro e w11 ⟨A11, c11, rfl, ho11, hb11⟩
    have hbk := below_next hb11 (below_al (o := .cells #[.slice A11 N c11, .int .i64 2] 24) (Below.refl w11.heap.size w11))
    have HBX := Lib.hid (below_next HBX.out hbk)
    have KT := Lib.hid (KT.out.next hbk)
    have KU := Lib.hid (KU.out.next hbk)
    have KV := Lib.hid (KV.out.next hbk)
    clear hb11 x0 x1 hbk
    go_upto_region 16 with fail
    obtain ⟨b11, hb11⟩ : ∃ b, b = w11.heap.size := ⟨_, rfl⟩
    obtain ⟨W11, hW11⟩ : ∃ W, W = w11.alloc (.cells #[.slice A11 N c11, .int .i64 2] 24) := ⟨_, rfl⟩
    rw [← hW11] at HBX KT KU KV ⊢
    rw [← hb11] at ⊢
    clear hW11 hb11 ho11
    go_wp2_with fail
    refine (HAL.out _).mono ?_
    rintro e w12 ⟨rfl, hb12⟩
    have HBX := Lib.hid (below_next HBX.out hb12)
    have KU := Lib.hid (KU.out.next hb12)
    have KV := Lib.hid (KV.out.next hb12)
    clear hb12
    have x0 := KU.out.at_.cell (j := 0) rfl; have x1 := KU.out.at_.cell (j := 1) rfl
    go_wp2_with fail
    refine (HF2.out _ _ KU.out.cap _ KU.out.row).mono ?_
    rintro e w13 ⟨rfl, hb13⟩
    have HBX := Lib.hid (below_next HBX.out hb13)
    have KV := Lib.hid (KV.out.next hb13)
    clear hb13 x0 x1
    have x0 := KV.out.at_.cell (j := 0) rfl; have x1 := KV.out.at_.cell (j := 1) rfl
    go_wp2_with fail
    refine (HF3.out _ _ KV.out.cap _ KV.out.row).mono ?_
    rintro e w14 ⟨rfl, hb14⟩
    have HBX := Lib.hid (below_next HBX.out hb14)
    clear hb14
    go_wp2_with fail
    go_ret
    exact ⟨rfl, HBX.out⟩)
theorem trodAll_sixS {H : Type} {enc : TypeId × Value → H} {P : Program} {w : World} {base : Nat} {spare : Nat → Bool} {held : Bool} {t0 t1 t2 t3 t4 t5 : TypeId} {args : Array Value} {ds : List (DataW H)} {ps : List MemPlace} (h : DataW.TrodAll enc P w base spare held [t0, t1, t2, t3, t4, t5] args.toList ds ps) :
    ∃ v0 v1 v2 v3 v4 v5 d0 d1 d2 d3 d4 d5 p0 p1 p2 p3 p4 p5, args = #[v0, v1, v2, v3, v4, v5] ∧ DataW.Trod enc P w base spare held t0 v0 d0 p0 ∧ DataW.Trod enc P w base spare held t1 v1 d1 p1 ∧
      DataW.Trod enc P w base spare held t2 v2 d2 p2 ∧ DataW.Trod enc P w base spare held t3 v3 d3 p3 ∧ DataW.Trod enc P w base spare held t4 v4 d4 p4 ∧ DataW.Trod enc P w base spare held t5 v5 d5 p5 := by
  obtain ⟨v, vs, d, ds', p, q, hargs, rfl, rfl, hd, hrest⟩ := trodAll_cons h
  obtain ⟨v1, v2, v3, v4, v5, d1, d2, d3, d4, d5, p1, p2, p3, p4, p5, e, rfl, rfl, h1, h2, h3, h4, h5⟩ := trodAll_fiveS (args := vs.toArray) (by simpa using hrest)
  have e' : vs = [v1, v2, v3, v4, v5] := by simpa using congrArg Array.toList e
  subst e'
  exact ⟨v, v1, v2, v3, v4, v5, d, d1, d2, d3, d4, d5, p, p1, p2, p3, p4, p5, by rw [← Array.toList_inj]; exact hargs, hd, h1, h2, h3, h4, h5⟩
end Ls
theorem lawLeaseTurns : Lift.Owes 7 [3, 3, 3, 3, 2, 2] := by
  intro H enc W base args ds ps hval hA _ _
  obtain ⟨v0, v1, v2, v3, v4, v5, d0, d1, d2, d3, d4, d5, p0, p1, p2, p3, p4, p5, rfl, h0, h1, h2, h3, h4, h5⟩ := Ls.trodAll_sixS hA
  obtain ⟨x0, rfl, _, _, w0⟩ := open_int Try.underlying3 (hval 0 _ v0 rfl rfl) h0
  obtain ⟨x1, rfl, _, _, w1⟩ := open_int Try.underlying3 (hval 1 _ v1 rfl rfl) h1
  obtain ⟨x2, rfl, _, _, w2⟩ := open_int Try.underlying3 (hval 2 _ v2 rfl rfl) h2
  obtain ⟨x3, rfl, _, _, w3⟩ := open_int Try.underlying3 (hval 3 _ v3 rfl rfl) h3
  obtain ⟨x4, rfl, _, _, w4⟩ := open_int Try.underlying2 (hval 4 _ v4 rfl rfl) h4
  obtain ⟨x5, rfl, _, _, w5⟩ := open_int Try.underlying2 (hval 5 _ v5 rfl rfl) h5
  exact Ls.walkTurns x0 x1 x2 x3 x4 x5 W
end Go.Proofs.Ytgoapkbpcfbipaa
