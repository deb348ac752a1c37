/- The code's applied: a cell comes to count in a row of the call's own. -/
import Derived.Test.YtpjgdpdgfchhkaaStoreCc
namespace Go.Proofs.Ytpjgdpdgfchhkaa
open Go.ChangeShapes Go.WideShapes Go.ChangeAt Go.RowKit
set_option linter.unusedVariables false
set_option maxRecDepth 8000
namespace So
open Gen (TellsB row_one flat_len flat_get Mine)
theorem clc_set {l : List Cl} {i : Nat} {x : Cl} (hi : i < l.length) : ((clc l).set (i * 2) (.string (kS x.n))).set (i * 2 + 1) (.string (kS x.b)) = clc (l.take i ++ x :: l.drop (i + 1)) := by
  have e : l = l.take i ++ l[i] :: l.drop (i + 1) := by rw [List.getElem_cons_drop, List.take_append_drop]
  have hl : (clc (l.take i)).length = i * 2 := by rw [clc_len, List.length_take]; omega
  have e2 : clc l = clc (l.take i) ++ (.string (kS l[i].n) :: .string (kS l[i].b) :: clc (l.drop (i + 1))) := by
    conv => lhs; rw [e]
    rw [clc_app]; rfl
  rw [e2, List.set_append_right _ _ (by omega), List.set_append_right _ _ (by omega), hl, Nat.sub_self, show i * 2 + 1 - i * 2 = 1 by omega, clc_app]
  rfl
def set2C (w : World) (g i : Nat) (x : Cl) : World := (w.setCell ⟨g, i * 2, none⟩ (.string (kS x.n))).setCell ⟨g, i * 2 + 1, none⟩ (.string (kS x.b))
theorem own_set2C {w : World} {K n c g : Nat} {l : List Cl} (h : w.ownsRow K 43 2 (.slice (some ⟨g, 0, none⟩) n c) n (clc l)) {i : Nat} (x : Cl) (hi : i < l.length) :
    (set2C w g i x).ownsRow K 43 2 (.slice (some ⟨g, 0, none⟩) n c) n (clc (l.take i ++ x :: l.drop (i + 1))) := by
  have h1 := (h.stored (i * 2) (.string (kS x.n))).1
  have h2 := (h1.stored (i * 2 + 1) (.string (kS x.b))).1
  rwa [clc_set hi] at h2
theorem own_cell2C {w : World} {K n c g : Nat} {l : List Cl} (h : w.ownsRow K 43 2 (.slice (some ⟨g, 0, none⟩) n c) n (clc l)) {i : Nat} {x : Cl} (hi : l[i]? = some x) :
    (w.cell? ⟨g, i * 2, none⟩ = some (.string (kS x.n)) ∧ w.cell? ⟨g, i * 2 + 1, none⟩ = some (.string (kS x.b))) ∧ w.frozen? ⟨g, i * 2, none⟩ = false ∧ w.frozen? ⟨g, i * 2 + 1, none⟩ = false := by
  have hl := (List.getElem?_eq_some_iff.1 hi).1
  have hn : l.length * 2 = n * 2 := by rw [← clc_len, h.1]
  have f0 := flat_get clL clL_len (n := 2) (j := 0) hi (by omega)
  have f1 := flat_get clL clL_len (n := 2) (j := 1) hi (by omega)
  refine ⟨⟨?_, ?_⟩, h.frozenAt _, h.frozenAt _⟩
  · rw [h.cellAt _ (by omega)]; exact f0.trans rfl
  · rw [h.cellAt _ (by omega)]; exact f1.trans rfl
theorem mine_set2C (w : World) (g i m c : Nat) (x : Cl) : Mine (fun k => (Value.slice (some ⟨g, 0, none⟩) m c).ownBlock = some k) w (set2C w g i x) :=
  (show Mine (· = g) w (set2C w g i x) from (Mine.set w (M := (· = g)) (a := ⟨g, i * 2, none⟩) _ rfl).trans (Mine.set _ (M := (· = g)) (a := ⟨g, i * 2 + 1, none⟩) _ rfl)).sub fun k hk => by subst hk; rfl
/-- The row of the call's own, behind it. -/
def GivesAp (m : Nat) (ms : List Cl) (K : Nat) (v : Value) (w : World) (e : Ending) (w' : World) : Prop :=
  ∃ A c, e = .returned (.slice A m c) ∧ w'.ownsRow K 43 2 (.slice A m c) m (clc ms) ∧ Mine (fun k => v.ownBlock = some k) w w' ∧ (∀ k, (Value.slice A m c).ownBlock = some k → v.ownBlock = some k ∨ w.heap.size ≤ k)
theorem some_block {w : World} {K n c : Nat} {A : Option Addr} {l : List Cl} (h : w.ownsRow K 43 2 (.slice A n c) n (clc l)) (hn : 0 < n) : ∃ g, A = some ⟨g, 0, none⟩ := by
  obtain ⟨_, ⟨e, e0⟩ | ⟨g, cap, cur, e, _⟩⟩ := h
  · cases e; omega
  · cases e; exact ⟨g, rfl⟩
set_option maxRecDepth 100000 in
set_option maxHeartbeats 2000000 in
theorem ckApplied (l : List Cl) (x : Cl) (n : Nat) (hn : n = l.length) (hu : Up l) (ms : List Cl) (hms : ms = withC l x) (m : Nat) (hm : m = ms.length) (A : Option Addr) (c K : Nat) (w : World) (ho : w.ownsRow K 43 2 (.slice A n c) n (clc l)) (hl : n ≤ 100000) (hK : K ≤ w.heap.size) :
    Calls Try.prog 38 #[.slice A n c, .agg (clC x)] w (GivesAp m ms K (.slice A n c) w) := by
  have hb0 := below_al (o := .cells (clC x) 43) (Below.refl w.heap.size w)
  have HF := Lib.hid (fun nm w' (hr : Row w' A (clc l)) => ckFind l nm n hn hu A c w' hr (by omega))
  have HIN : Hid (∀ (p vb : Nat) (w' : World) (ho' : w'.ownsRow K 43 2 (.slice A n c) n (clc l)) (hx : Lies vb (clC x) 43 w') (hp : p ≤ n) (hK' : K ≤ w'.heap.size) (hg : ∀ g, (Value.slice A n c).ownBlock = some g → vb ≠ g),
      Calls Try.prog 46 #[.slice A n c, .int .i64 p, .slice (some ⟨vb, 0, none⟩) 1 1] w' (GivesIns l p x K (.slice A n c) w')) := Lib.hid (fun p vb w' ho' hx hp hK' hg => by
    subst hn; exact ckInsert l x A c K vb p w' ho' hx hl hp hK' hg)
  have HDL := Lib.hid (fun (p g k : Nat) (w' : World) (ho' : w'.ownsRow K 43 2 (.slice (some ⟨g, 0, none⟩) (k + 1) c) (k + 1) (clc l)) (hk : n = k + 1) (hp : p < k + 1) => ckDelete l g c K p k w' (by rw [← hn, hk]) ho' (by omega) hp)
  have HN := Lib.hid hn
  have HM := Lib.hid hm
  have HMS := Lib.hid hms
  have HB := Lib.hid hb0
  have HO := Lib.hid (own_upO ho hb0)
  have HLT := Lib.hid (fun k (hk : (Value.slice A n c).ownBlock = some k) => (ho.lt k hk).2)
  have L := Lib.hid (Lies.new w (clC x) 43)
  have HKS : Hid (K ≤ w.heap.size) := Lib.hid hK
  have hz0 : ByteArray.toList { data := #[] } = [] := by rw [ByteArray.toList_eq]
  clear hn hm hms ho hK hb0 hu
  obtain ⟨xn, xb⟩ := x
  simp only [clC] at HB L HIN HO ⊢
  go_enter Try.func38, Try.ntmps38
  go_upto_region 1 with fail
  obtain ⟨tb, htb⟩ : ∃ b, b = w.heap.size := ⟨_, rfl⟩
  obtain ⟨W, hW⟩ : ∃ W, W = w.alloc (.cells #[.string (kS xn), .string (kS xb)] 43) := ⟨_, rfl⟩
  have HTB := Lib.hid htb
  rw [← hW] at L HB HO ⊢
  rw [← htb] at L ⊢
  clear hW htb
  have x0 := L.out.cell (j := 0) rfl; have x1 := L.out.cell (j := 1) rfl
  have HF1 := Lib.hid (HF.out xn W (own_rowO HO.out).1)
  go_wp2_with fail
  refine HF1.out.mono ?_
  rintro e w1 ⟨p, is, rfl, hp, hb1⟩
  have HP := Lib.hid hp
  have HO1 := Lib.hid (own_upO HO.out hb1)
  have HB1 := Lib.hid (below_next HB.out hb1)
  have L1 := Lib.hid (L.out.below hb1)
  clear hp hb1 x0 x1 HF HF1 HO HB L
  have x0 := L1.out.cell (j := 0) rfl; have x1 := L1.out.cell (j := 1) rfl
  have hpn : p ≤ n := by have := HP.out.le; have := HN.out; omega
  by_cases hxb : xb = []
  · have g1 : ((kS xb).toList == []) = true := by rw [kS_list, hxb]; rfl
    cases is
    · have e1 : ms = l := by have h := with_not (x := ⟨xn, xb⟩) HP.out; rw [HMS.out, h, if_pos (by simpa using hxb)]
      have hmn : m = n := by rw [HM.out, e1, HN.out]
      subst e1 hmn
      clear hxb HMS
      go_wp2_with fail
      go_ret
      exact ⟨A, c, rfl, HO1.out, Mine.of_below HB1.out (Nat.le_refl _), fun k hk => .inl hk⟩
    · have e1 : ms = l.take p ++ l.drop (p + 1) := by have h := with_found (x := ⟨xn, xb⟩) HP.out; rw [HMS.out, h, if_pos (by simpa using hxb)]
      obtain ⟨y, hy, _⟩ := HP.out.at_ rfl
      have hpl : p < n := by rw [HN.out]; exact (List.getElem?_eq_some_iff.1 hy).1
      obtain ⟨g, hA⟩ := some_block HO1.out (by omega)
      obtain ⟨k, hk⟩ : ∃ k, n = k + 1 := ⟨n - 1, by omega⟩
      subst hA hk
      have HD1 := Lib.hid (HDL.out p g k w1 HO1.out rfl hpl)
      have hw := wrapKO (k := p) (by omega)
      have hwp : IntKind.i64.wrap ((p : Int) + 1) = (p : Int) + 1 := wrapO (by omega) (by omega)
      have HE : Hid (m = k) := Lib.hid (by rw [HM.out, e1, List.length_append, List.length_take, List.length_drop, ← HN.out]; omega)
      have HE1 := Lib.hid e1
      clear hxb HMS hy hpl hpn e1 HDL HIN hw
      go_wp2_with fail
      refine HD1.out.mono ?_
      rintro e w2 ⟨rfl, ho2, hm2⟩
      have HO2 := Lib.hid ho2
      have HM2 := Lib.hid hm2
      clear ho2 hm2
      go_wp2_with fail
      go_ret
      have hlk : l.length - 1 = m := by rw [← HN.out, HE.out]; rfl
      rw [hlk] at HO2 ⊢
      rw [HE1.out]
      exact ⟨some ⟨g, 0, none⟩, c, rfl, HO2.out, (Mine.of_below HB1.out (Nat.le_refl _)).trans (HM2.out.sub fun q hq => by subst hq; rfl), fun q hq => .inl hq⟩
  · have g1 : ((kS xb).toList == []) = false := by rw [kS_list]; simpa using hxb
    cases is
    · have e1 : ms = l.take p ++ ⟨xn, xb⟩ :: l.drop p := by have h := with_not (x := ⟨xn, xb⟩) HP.out; rw [HMS.out, h, if_neg (by simpa using hxb)]
      have HE1 := Lib.hid e1
      have HE : Hid (l.length + 1 = m) := Lib.hid (by have := HP.out.le; rw [HM.out, e1, List.length_append, List.length_cons, List.length_take, List.length_drop]; omega)
      have hb2 := below_al (o := .cells #[.string (kS xn), .string (kS xb)] 43) (Below.refl w1.heap.size w1)
      have HI1 := Lib.hid (HIN.out p w1.heap.size _ (own_upO HO1.out hb2) (Lies.new w1 _ _) hpn (by have := HKS.out; have := HB1.out.size; have := hb2.size; omega) (fun g hg => by have := (HO1.out.lt g hg).2; omega))
      have HB2 := Lib.hid (below_next HB1.out hb2)
      have HLT1 := Lib.hid (fun q (hq : (w1.alloc (.cells #[.string (kS xn), .string (kS xb)] 43)).heap.size ≤ q) => show w.heap.size ≤ q from by have := HB1.out.size; have := hb2.size; omega)
      clear hxb HMS hpn e1 HDL HIN hb2
      go_wp2_with fail
      refine HI1.out.mono ?_
      rintro e w2 ⟨A2, c2, rfl, ho2, hm2, hf2⟩
      have HO2 := Lib.hid ho2
      have HM2 := Lib.hid hm2
      have HF2 := Lib.hid hf2
      clear ho2 hm2 hf2
      go_wp2_with fail
      go_ret
      rw [HE.out] at HO2 HF2 ⊢
      rw [HE1.out]
      exact ⟨A2, c2, rfl, HO2.out, (Mine.of_below HB2.out (Nat.le_refl _)).trans HM2.out, fun q hq => (HF2.out q hq).elim .inl fun h => .inr (HLT1.out q h)⟩
    · have e1 : ms = l.take p ++ ⟨xn, xb⟩ :: l.drop (p + 1) := by have h := with_found (x := ⟨xn, xb⟩) HP.out; rw [HMS.out, h, if_neg (by simpa using hxb)]
      obtain ⟨y, hy, _⟩ := HP.out.at_ rfl
      have hpl : p < l.length := (List.getElem?_eq_some_iff.1 hy).1
      obtain ⟨g, hA⟩ := some_block HO1.out (by rw [HN.out]; omega)
      subst hA
      obtain ⟨⟨k0, k1⟩, f0, f1⟩ := own_cell2C HO1.out hy
      have HE : Hid (m = n) := Lib.hid (by rw [HM.out, e1, List.length_append, List.length_cons, List.length_take, List.length_drop, HN.out]; omega)
      have HS := Lib.hid (own_set2C HO1.out ⟨xn, xb⟩ hpl)
      have HE1 := Lib.hid e1
      have hki : (p : Int) < (n : Int) := by rw [HN.out]; omega
      have hne : ¬ g = tb := fun e => by have := HLT.out g rfl; have := HTB.out; omega
      clear hxb HMS hy hpl hpn e1 HDL HIN
      go_wp2_with fail
      go_ret
      have hmn := HE.out
      subst hmn
      rw [HE1.out]
      exact ⟨some ⟨g, 0, none⟩, c, rfl, HS.out, (Mine.of_below HB1.out (Nat.le_refl _)).trans (mine_set2C w1 g p m c ⟨xn, xb⟩), fun q hq => .inl hq⟩
end So
end Go.Proofs.Ytpjgdpdgfchhkaa
