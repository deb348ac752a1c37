/- The walk of the law RingPlans. -/
import Derived.Test.YtnmhacjokjcpfaaRingMovC
import Derived.Test.YtnmhacjokjcpfaaRingCk
import Derived.Test.YtnmhacjokjcpfaaRingPlan
import Derived.Test.YtnmhacjokjcpfaaHold
import Derived.Test.YtnmhacjokjcpfaaLawsRingB
namespace Go.Proofs.Ytnmhacjokjcpfaa
open Go.ChangeShapes Go.WideShapes Go.ChangeAt Go.RowKit
set_option linter.unusedVariables false
set_option maxRecDepth 8000
namespace Rg
theorem intInfoP : (Try.prog.info? 3).map (fun i => (i.zero, i.size, i.bytes)) = some (some (.int .i64 0), 1, 8) := by kernel_rfl
theorem iv_takeP (l : List Int) (k : Nat) : iv (l.take k) = (iv l).take k := List.map_take ..
theorem iv_onesP (l : List Int) : ∀ u ∈ iv l, u.oneCell' = true := ones
theorem own_setR {w : World} {B n cap g : Nat} {ys : List Int} (h : w.ownsRow B 3 1 (.slice (some ⟨g, 0, none⟩) n cap) n (iv ys)) (i : Nat) (x : Int) :
    (w.setCell ⟨g, i, none⟩ (.int .i64 x)).ownsRow B 3 1 (.slice (some ⟨g, 0, none⟩) n cap) n (iv (ys.set i x)) := by
  have h1 := (h.stored i (.int .i64 x)).1
  rwa [show (iv ys).set i (.int .i64 x) = iv (ys.set i x) from by simp [List.map_set]] at h1
theorem own_cellR {w : World} {B n cap g : Nat} {ys : List Int} (h : w.ownsRow B 3 1 (.slice (some ⟨g, 0, none⟩) n cap) n (iv ys)) {i : Nat} {x : Int} (hi : ys[i]? = some x) :
    w.cell? ⟨g, i, none⟩ = some (.int .i64 x) ∧ w.frozen? ⟨g, i, none⟩ = false := by
  have hl : ys.length = n := by have := h.1; simpa using this
  have := (List.getElem?_eq_some_iff.1 hi).1
  refine ⟨?_, h.frozenAt _⟩
  rw [h.cellAt _ (by omega)]
  simp [hi]
theorem row_set {w : World} {A : Option Addr} {cs : List Value} (h : Row w A cs) {g : Nat} (hg : ∀ a, A = some a → a.block ≠ g) (o : Nat) (v : Value) : Row (w.setCell ⟨g, o, none⟩ v) A cs := by
  rcases h with h | ⟨b, off, rfl, h⟩
  · exact .inl h
  · refine .inr ⟨b, off, rfl, fun j u hu => ?_⟩
    have h1 := h j u hu
    have e := Below.heap_setCell w ⟨g, o, none⟩ v b (hg _ rfl)
    simp only [World.cell?] at h1 ⊢
    rw [e]
    exact h1
theorem seg_len (old now : List Int) (us : List Mv) (h : us = moves old now) : us.length ≤ min old.length now.length := by
  have := moves_len old now
  rw [h]; omega
theorem seg_end {old now : List Int} {p : Nat} {us : List Mv} {k : Nat} (h : Seg old now p (us.drop k)) (hk : us.length ≤ k) : Seg old now p [] := by
  rwa [List.drop_of_length_le hk] at h
theorem seg_cons {old now : List Int} {p : Nat} {us : List Mv} {k : Nat} {u : Mv} (h : Seg old now p (us.drop k)) (hu : us[k]? = some u) :
    ∃ g : Nat, u.g = (g : Int) ∧ p ≤ g ∧ g < min old.length now.length ∧ old[g]? = some u.src ∧ now[g]? = some u.to ∧ u.src ≠ u.to ∧ (∀ i, p ≤ i → i < g → old[i]? = now[i]?) ∧ Seg old now (g + 1) (us.drop (k + 1)) := by
  have hk := (List.getElem?_eq_some_iff.1 hu).1
  have e : us.drop k = u :: us.drop (k + 1) := by
    rw [List.drop_eq_getElem_cons hk]
    have := (List.getElem?_eq_some_iff.1 hu).2
    rw [this]
  rw [e] at h
  exact h
/-- What a round of the plan keeps. -/
structure PlAtR (w w1 : World) (old now : List Int) (us : List Mv) (k p : Nat) (own : List Int) (A1 : Option Addr) (c1 : Nat) (A2 : Option Addr) (v : World) : Prop where
  done : Done old now p own
  seg : Seg old now p (us.drop k)
  own : v.ownsRow w.heap.size 3 1 (.slice A1 (min old.length now.length) c1) (min old.length now.length) (iv own)
  row : Row v A2 (mc us)
  below : Below w.heap.size w v
  apart : ∀ a, A2 = some a → w1.heap.size ≤ a.block
  has : ∀ a, A1 = some a → a.block < w1.heap.size
theorem row_take {w : World} {A : Option Addr} {l : List Int} (h : Row w A (iv l)) (n : Nat) : Row w A (iv (l.take n)) := by
  rcases h with h | ⟨b, off, rfl, h⟩
  · left
    have : l = [] := by simpa using h
    subst this; simp
  · refine .inr ⟨b, off, rfl, fun j u hu => ?_⟩
    rw [iv_takeP, List.getElem?_take] at hu
    split at hu
    · exact h j u hu
    · cases hu
set_option maxRecDepth 100000 in
set_option maxHeartbeats 2000000 in
theorem walkRingPlans (l m : List Int) (A B : Option Addr) (c d : Nat) (w : World) (hA : Row w A (iv l)) (hB : Row w B (iv m)) (hl : l.length ≤ 1048576) (hm : m.length ≤ 1048576) (hlc : l.length ≤ c) (hmd : m.length ≤ d) (hc : c ≤ maxLen) (hd : d ≤ maxLen) :
    Calls Try.prog 5 #[.slice A l.length c, .slice B m.length d] w (TellsR true w) := by
  have HL := Lib.hid (fun w => lawAliveR w)
  have HC := Lib.hid (fun w hA hB => ckMovesN l m A B c d w hA hB (by omega) (by omega) (.inl (by omega)))
  obtain ⟨us, hu⟩ : ∃ us, us = moves l m := ⟨_, rfl⟩
  have hul := seg_len l m us hu
  have HS := Lib.hid (show Seg l m 0 us by rw [hu]; exact seg_moves l m)
  rw [← hu] at HC
  obtain ⟨N, hN0⟩ : ∃ N, N = min l.length m.length := ⟨_, rfl⟩
  have hN : min (l.length : Int) (m.length : Int) = (N : Int) := by rw [hN0]; omega
  have n1 : N ≤ c := by omega
  have n2 : (N : Int) ≤ c := by omega
  have n3 : N ≤ d := by omega
  have n4 : (N : Int) ≤ d := by omega
  have n5 : (0 : Int) ≤ N := by omega
  have n6 : (N : Int).toNat = N := by omega
  have n7 : (m.take N).length = N := by rw [List.length_take]; omega
  have n8 : (l.take N).length = N := by rw [List.length_take]; omega
  have n9 : N ≤ 1048576 := by omega
  have HI := Lib.hid (fun A c B d w => rfIntsG (m.take N) A c B d w (by rw [n7]; omega))
  rw [n7] at HI
  have HD0 := Lib.hid (show Done l m 0 (l.take N) by rw [hN0]; exact Done.start l m)
  have HN0 := Lib.hid hN0
  have RA := Lib.hid hA; have RB := Lib.hid hB
  have RA0 := Lib.hid (row_take hA N); have RB0 := Lib.hid (row_take hB N)
  have N7 := Lib.hid n7; have N8 := Lib.hid n8
  rw [← hN0] at hul
  obtain ⟨i0, hi0, hz0, hz1, hz2⟩ := info_parts intInfoP
  have HI0 := Lib.hid hi0; have HZ0 := Lib.hid hz0; have HZ1 := Lib.hid hz1; have HZ2 := Lib.hid hz2
  clear hu hA hB hN0 n7 n8 hi0 hz0 hz1 hz2
  go_enter Try.func5, Try.ntmps5
  go_wp2_with (at_builtin; refine hold_mk ?_)
  refine hold_out ?_
  refine wpApp rfl _ _ 27 rfl w.heap.size 3 i0 _ 1 8 Try.underlying27 HI0.out HZ0.out HZ1.out HZ2.out rfl (by omega) _ 0 [] rfl (own_new (Nat.le_refl _)) A N c (iv (l.take N)) rfl (RA0.out.below (below_al (Below.refl _ _))) (by simp only [iv, List.length_map, N8.out, Nat.mul_one]) (iv_onesP _)
    (by unfold maxLen; omega) (by omega) (by simp only [World.size_alloc]; omega) ?_
  intro v1 w1 own1 hb1
  rw [List.nil_append, Nat.zero_add] at own1
  obtain ⟨A1, c1, rfl, q1, q2, q3, q4, q5⟩ := own_form own1 (by omega)
  have B1 := Lib.hid (show Below w.heap.size w w1 from (below_al (Below.refl _ _)).trans hb1)
  have OW := Lib.hid own1
  have Q5 := Lib.hid q5
  clear own1 hb1 q1 q2 q3 q4 q5
  go_wp2_with fail
  refine (HC.out _ (RA.out.below B1.out) (RB.out.below B1.out)).mono ?_
  rintro e w2 ⟨A2, c2, rfl, g1, g2, r2, hb2, ap2⟩
  have P0 := Lib.hid (show PlAtR w w1 l m us 0 0 (l.take N) A1 c1 A2 w2 from ⟨HD0.out, by rw [List.drop_zero]; exact HS.out, by rw [← HN0.out]; exact own_upM OW.out (hb2), r2, below_next B1.out hb2, ap2, fun a ha => (Q5.out a ha).2⟩)
  clear g1 g2 r2 hb2 ap2
  go_wp2_with fail
  go_loopw [7, 24] (fun s7 i wr => ∃ (k p : Nat) (own : List Int), i = .int .i64 k ∧ s7 = .int .i64 ((p : Int) - 1) ∧ k ≤ us.length ∧ p ≤ N ∧ PlAtR w w1 l m us k p own A1 c1 A2 wr) (fun _ i _ => us.length - (intOf i).toNat)
  case atStart => exact ⟨0, 0, _, rfl, rfl, Nat.zero_le _, Nat.zero_le _, P0.out⟩
  case round =>
    obtain ⟨k, p, own, rfl, rfl, hk, hp, hpl⟩ := hrel
    have HPL := Lib.hid hpl
    clear hpl
    by_cases hlt : k < us.length
    · obtain ⟨u, hx⟩ : ∃ u, us[k]? = some u := ⟨_, List.getElem?_eq_getElem hlt⟩
      obtain ⟨b, off, rfl, c0, c1', c2'⟩ := row_mv HPL.out.row hx
      obtain ⟨g, e1, e2, e3, e4, e5, e6, e7, e8⟩ := seg_cons HPL.out.seg hx
      rw [← HN0.out] at e3
      have HOG := Lib.hid (HPL.out.done.at_ e2 (by rw [← HN0.out]; exact e3) e4)
      have HOW := Lib.hid HPL.out.own
      obtain ⟨A1', hA1⟩ : ∃ g1, A1 = some ⟨g1, 0, none⟩ := by
        rcases HOW.out.2 with ⟨h1, h2⟩ | ⟨g', cap, cur, hv, _⟩
        · exfalso; injection h1 with _ h3 _; have := HN0.out; omega
        · cases hv; exact ⟨g', rfl⟩
      subst hA1
      obtain ⟨o0, o1⟩ := own_cellR HOW.out HOG.out
      obtain ⟨ug, us1, ut⟩ := u
      simp only at e1 e4 e5 e6 c0 c1' c2'
      subst e1
      have HNX := Lib.hid (HPL.out.done.next e2 (by rw [← HN0.out]; exact e3) e5 e7)
      have HE8 := Lib.hid e8
      have b1 : ¬ (g : Int) ≤ (p : Int) - 1 := by omega
      have b2 : ¬ (N : Int) ≤ (g : Int) := by omega
      have b3 := nb0 (rfl : us1 = us1)
      have b4 := ne_b e6
      have b5 : (0 : Int) ≤ (g : Int) := by omega
      have b6 : (g : Int) < (N : Int) := by omega
      have lt1 := lt_of_cell c0
      have lt2 := lt_of_cell o0
      clear e7 e8 hx e4 e5
      go_wp2_with fail
      go_quiet (fail)
      go_wp2_with fail
      have HBu := Lib.hid (show Below wr.heap.size wr ((wr.alloc (.cells (mC ⟨(g : Int), us1, ut⟩) 33)).drewN nq) from below_drewN (below_al (Below.refl _ _)))
      go_roundw
      case rel =>
        refine ⟨k + 1, g + 1, own.set g ut, by go_num, by rw [show ((g + 1 : Nat) : Int) - 1 = (g : Int) by omega], by omega, by omega, ⟨HNX.out, HE8.out, own_setR (own_upM HOW.out HBu.out) g ut, ?_, ?_, HPL.out.apart, HPL.out.has⟩⟩
        · refine row_set (HPL.out.row.below HBu.out) (fun a ha => ?_) g _
          have h1 := HPL.out.apart a ha
          have h2 := HPL.out.has _ rfl
          simp only at h2
          omega
        · exact (below_next HPL.out.below HBu.out).setCell (p := ⟨A1', g, none⟩) (Q5.out _ rfl).1 _
      case measure => simp [intOf]; omega
    · have hge : us.length ≤ k := by omega
      have HE := Lib.hid (HPL.out.done.end_ (seg_end HPL.out.seg hge))
      go_wp2_with fail
      refine (HL.out _).mono ?_
      rintro e w3 ⟨rfl, hb3⟩
      have B3 := Lib.hid (below_next HPL.out.below hb3)
      have R3 := Lib.hid (show Row w3 A1 (iv (m.take N)) from by
        obtain ⟨A', c', hv, _, _, _, h4, _⟩ := own_form HPL.out.own (by omega)
        cases hv
        rw [HE.out, ← HN0.out] at h4
        exact h4.below hb3)
      clear hb3
      go_wp2_with fail
      refine (HI.out _ _ _ _ _ R3.out (RB0.out.below B3.out)).mono ?_
      rintro e w4 ⟨rfl, hb4⟩
      have B4 := Lib.hid (below_next B3.out hb4)
      clear hb4
      go_wp2_with fail
      go_ret
      exact ⟨rfl, B4.out⟩
theorem lawRingPlansUpto : Lift.OwesUpto 5 [27, 27] := by
  intro H enc W base args ds ps hval hA _ hk
  obtain ⟨v0, v1, d0, d1, p0, p1, rfl, rfl, rfl, h0, h1⟩ := trodAll_two hA
  obtain ⟨A, c, zs, rfl, hl, hm, hr, _, hd⟩ := openInts Try.underlying27 Try.underlying3 (by kernel_rfl) (hval 0 _ v0 rfl rfl) h0
  obtain ⟨D, d, ys, rfl, hl', hm', hr', _, hd'⟩ := openInts Try.underlying27 Try.underlying3 (by kernel_rfl) (hval 1 _ v1 rfl rfl) h1
  have n1 := bulk_ints hd
  have n2 := bulk_ints hd'
  simp only [Rows.uptoBulkAll] at hk
  exact walkRingPlans zs ys A D c d W hr hr' (by omega) (by omega) hl hl' hm hm'
end Rg
theorem lawRingPlansUpto : Lift.OwesUpto 5 [27, 27] := Rg.lawRingPlansUpto
end Go.Proofs.Ytnmhacjokjcpfaa
