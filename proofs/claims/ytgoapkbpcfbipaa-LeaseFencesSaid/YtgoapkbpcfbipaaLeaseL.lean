/- Owners: the code's and the reference's. -/
import Derived.Test.YtgoapkbpcfbipaaLeaseK
import Derived.Test.YtgoapkbpcfbipaaRingRightR
namespace Go.Proofs.Ytgoapkbpcfbipaa
open Go.ChangeShapes Go.WideShapes Go.ChangeAt Go.RowKit
set_option linter.unusedVariables false
set_option maxRecDepth 8000
namespace Ls
open Gen (TellsB TellsI SaysB row_one flat_len flat_get)
open Tick (cl addT)
open Rg (iv)
theorem IInfo : (Try.prog.info? 3).map (fun i => (i.zero, i.size, i.bytes)) = some (some (.int .i64 0), 1, 8) := by kernel_rfl
theorem own_setI {w : World} {B n cap g : Nat} {ys : List Int} (h : w.ownsRow B 3 1 (.slice (some ⟨g, 0, none⟩) n cap) n (iv ys)) (i : Nat) (x : Int) :
    (w.setCell ⟨g, i, none⟩ (.int .i64 x)).ownsRow B 3 1 (.slice (some ⟨g, 0, none⟩) n cap) n (iv (ys.set i x)) := by
  have h1 := (h.stored i (.int .i64 x)).1
  rwa [show (iv ys).set i (.int .i64 x) = iv (ys.set i x) from List.map_set.symm] at h1
theorem iv_lenI (l : List Int) : (iv l).length = l.length := List.length_map _
def ownF (t : Int) (l : Le) : Int := if inF l t then l.own else 0
theorem owners_yes {ls : List Le} {last t : Int} (h : rightT ⟨ls, last⟩ = true) : ownersO ⟨ls, last⟩ t = ls.map (ownF t) := by
  unfold ownersO
  rw [if_pos h]
  rfl
theorem owners_no {ls : List Le} {last t : Int} (h : rightT ⟨ls, last⟩ = false) : ownersO ⟨ls, last⟩ t = [] := by
  unfold ownersO
  rw [if_neg (by rw [h]; simp)]
/-- A list of numbers, a row of its own. -/
def GivesIL (m : Nat) (o : List Int) (w : World) (e : Ending) (w' : World) : Prop := ∃ A c, e = .returned (.slice A m c) ∧ w'.ownsRow w.heap.size 3 1 (.slice A m c) m (iv o) ∧ Below w.heap.size w w'
/-- What is written up to a place. -/
def OwTo (ls : List Le) (t : Int) (k : Nat) (vs : List Int) : Prop := ∃ n, vs = (ls.map (ownF t)).take k ++ List.replicate n 0 ∧ k + n = ls.length
theorem OwTo.len {ls : List Le} {t : Int} {k : Nat} {vs : List Int} (h : OwTo ls t k vs) : vs.length = ls.length := by
  obtain ⟨n, rfl, hn⟩ := h
  rw [List.length_append, List.length_take, List.length_map, List.length_replicate]
  omega
theorem OwTo.next {ls : List Le} {t : Int} {k : Nat} {vs : List Int} (h : OwTo ls t k vs) {x : Le} (hx : ls[k]? = some x) (v : Int) (hv : v = ownF t x) : OwTo ls t (k + 1) (vs.set k v) := by
  obtain ⟨n, rfl, hn⟩ := h
  have hk := (List.getElem?_eq_some_iff.1 hx).1
  refine ⟨n - 1, ?_, by omega⟩
  have hl : ((ls.map (ownF t)).take k).length = k := by rw [List.length_take, List.length_map]; omega
  rw [List.set_append_right _ _ (by omega), hl, Nat.sub_self, List.take_add_one, List.getElem?_map, hx]
  obtain ⟨n', rfl⟩ : ∃ n', n = n' + 1 := ⟨n - 1, by omega⟩
  rw [List.replicate_succ, List.set_cons_zero, hv]
  simp
theorem OwTo.skip {ls : List Le} {t : Int} {k : Nat} {vs : List Int} (h : OwTo ls t k vs) {x : Le} (hx : ls[k]? = some x) (hv : ownF t x = 0) : OwTo ls t (k + 1) vs := by
  obtain ⟨n, rfl, hn⟩ := h
  have hk := (List.getElem?_eq_some_iff.1 hx).1
  refine ⟨n - 1, ?_, by omega⟩
  obtain ⟨n', rfl⟩ : ∃ n', n = n' + 1 := ⟨n - 1, by omega⟩
  rw [List.take_add_one, List.getElem?_map, hx, List.replicate_succ]
  simp [hv]
theorem OwTo.done {ls : List Le} {t : Int} {k : Nat} {vs : List Int} (h : OwTo ls t k vs) (hk : k = ls.length) : vs = ls.map (ownF t) := by
  obtain ⟨n, rfl, hn⟩ := h
  obtain rfl : n = 0 := by omega
  rw [List.take_of_length_le (by rw [List.length_map]; omega)]
  simp
set_option maxRecDepth 100000 in
set_option maxHeartbeats 1000000 in
theorem ckOwners (ls : List Le) (n : Nat) (last now : Int) (A : Option Addr) (c : Nat) (o : List Int) (m : Nat) (hn : n = ls.length) (ho : o = ownersO ⟨ls, last⟩ (cl now)) (hm : m = o.length) (w : World) (h : Row w A (lec ls)) (hl : n ≤ 100000) (hc : n ≤ c) :
    Calls Try.prog 16 #[.agg #[.slice A n c, .int .i64 last], .int .i64 now] w (GivesIL m o w) := by
  obtain ⟨q, hq⟩ : ∃ q, q = rightT ⟨ls, last⟩ := ⟨_, rfl⟩
  have HRR := Lib.hid (fun w' (h' : Row w' A (lec ls)) => ckRight ls n last A c q hn hq w' h' hl hc)
  have HEX := Lib.hid (fun x w' => ckExamine x w')
  have HC := Lib.hid (fun o k u r hr w' => ckForce o k u now r hr w')
  obtain ⟨t, ht⟩ : ∃ t, t = cl now := ⟨_, rfl⟩
  rw [← ht] at HC ho
  have HO1 : Hid (q = true → o = ls.map (ownF t)) := Lib.hid (fun e => by rw [ho]; exact owners_yes (by rw [← hq]; exact e))
  have HO0 : Hid (q = false → o = []) := Lib.hid (fun e => by rw [ho]; exact owners_no (by rw [← hq]; exact e))
  have HOK : Hid (q = true → Ok ⟨ls, last⟩) := Lib.hid (fun e => (ok_iff _).1 (by rw [← hq]; exact e))
  have hb0 := below_al (o := .cells #[.slice A n c, .int .i64 last] 24) (Below.refl w.heap.size w)
  have HB := Lib.hid hb0
  have HRW := Lib.hid h
  have HR := Lib.hid (h.below hb0)
  have LS := Lib.hid (Lies.new w #[.slice A n c, .int .i64 last] 24)
  have HN := Lib.hid hn
  have HM := Lib.hid hm
  obtain ⟨i0, hi0, hz0, hz1, hz2⟩ := info_partsS IInfo
  obtain ⟨M, hM⟩ : ∃ M, M = madeCells (Value.int .i64 0).cells n := ⟨_, rfl⟩
  have hmk : ∀ W : World, (Instr.makeSlice 32 (.int .i64 (n : Int)) (.int .i64 (n : Int))).run Try.prog W = .ok (.slice (some ⟨W.heap.size, 0, none⟩) n n) (W.alloc (.cells M 3)) := fun W => by
    have h := run_make (P := Try.prog) W 32 3 i0 _ Try.underlying32 hi0 hz0 .i64 .i64 (n : Int) (n : Int) (by omega) (by omega) (by rw [hz2]; omega) (by omega)
    rw [hz1] at h
    rw [hM]
    simpa using h
  have HMS : Hid (M.size = n) := Lib.hid (by rw [hM, size_madeCells])
  have HMC : Hid (M.toList = iv (List.replicate n 0)) := Lib.hid (by rw [hM, show (Value.int .i64 0).cells = #[Value.int .i64 0] from rfl, toList_madeCells_one]; simp [iv])
  have HL : Hid (n ≤ 100000) := Lib.hid hl
  clear h hb0 ho hq hn hm hl hc ht hi0 hz0 hz1 hz2 hM
  go_enter Try.func16, Try.ntmps16
  obtain ⟨tb, htb⟩ : ∃ b, b = w.heap.size := ⟨_, rfl⟩
  obtain ⟨W, hW⟩ : ∃ W, W = w.alloc (.cells #[.slice A n c, .int .i64 last] 24) := ⟨_, rfl⟩
  go_upto_region 1 with fail
  rw [← hW] at LS HR HB ⊢
  rw [← htb] at LS ⊢
  clear hW htb
  have x0 := LS.out.cell (j := 0) rfl; have x1 := LS.out.cell (j := 1) rfl
  go_wp2_with fail
  refine (HRR.out _ HR.out).mono ?_
  rintro e w1 ⟨rfl, hb1⟩
  have HB1 := Lib.hid (below_next HB.out hb1)
  have L1 := Lib.hid (LS.out.below hb1)
  have HR1 := Lib.hid (HR.out.below hb1)
  clear hb1 x0 x1 LS HR HB
  have x0 := L1.out.cell (j := 0) rfl
  cases q
  · have e1 : o = [] := HO0.out rfl
    have hm0 : m = 0 := by rw [HM.out, e1]; rfl
    subst e1
    subst hm0
    clear HM
    go_wp2_with fail
    go_ret
    exact ⟨none, 0, rfl, own_none, HB1.out⟩
  · have e1 : o = ls.map (ownF t) := HO1.out rfl
    have hm0 : m = n := by rw [HM.out, e1, List.length_map, HN.out]
    subst hm0
    have hok := HOK.out rfl
    have HOW : Hid (∀ (k : Nat) (x : Le), ls[k]? = some x → 0 ≤ x.own) := Lib.hid (fun k x hx => ((okL_iff _ _).1 (hok.each k x hx)).1.1)
    have HO := Lib.hid e1
    clear HM HO1 HO0 HOK e1 hok
    have hbm := below_al (o := .cells M 3) (Below.refl w1.heap.size w1)
    have HB2 := Lib.hid (below_next HB1.out hbm)
    have L2 := Lib.hid (L1.out.below hbm)
    have HR2 := Lib.hid (HR1.out.below hbm)
    have HN0 := Lib.hid (show (w1.alloc (.cells M 3)).ownsRow w.heap.size 3 1 (.slice (some ⟨w1.heap.size, 0, none⟩) m m) m (iv (List.replicate m 0)) by
      have h := World.ownsRow_lit (size := 1) w1 M m (base := w.heap.size) (e := 3) HB1.out.size (by have := HL.out; unfold maxLen; omega) (by rw [HMS.out]; omega)
      rwa [HMC.out] at h)
    have HT0 : Hid (OwTo ls t 0 (List.replicate m 0)) := Lib.hid ⟨m, rfl, by rw [← HN.out]; omega⟩
    go_upto_region 4 with fail
    obtain ⟨g9, hg9⟩ : ∃ g, g = w1.heap.size := ⟨_, rfl⟩
    obtain ⟨W2, hW2⟩ : ∃ W, W = w1.alloc (.cells M 3) := ⟨_, rfl⟩
    rw [← hW2] at HB2 L2 HR2 HN0 ⊢
    rw [← hg9] at HN0 ⊢
    have HG : Hid (w.heap.size ≤ g9) := Lib.hid (by rw [hg9]; exact HB1.out.size)
    clear hW2 hg9 hbm x0 hmk L1 HR1 HB1
    have x0 := L2.out.cell (j := 0) rfl
    go_wp2_with fail
    clear x0
    go_loopw [18] (fun i wr => ∃ (k : Nat) (vs : List Int), i = .int .i64 k ∧ k ≤ m ∧ OwTo ls t k vs ∧ wr.ownsRow w.heap.size 3 1 (.slice (some ⟨g9, 0, none⟩) m m) m (iv vs) ∧ Below w.heap.size w wr) (fun i _ => m - (intOf i).toNat)
    case atStart => exact ⟨0, _, rfl, Nat.zero_le _, HT0.out, HN0.out, HB2.out⟩
    case round =>
      clear HN0 HT0 L2 HR2 HB2
      obtain ⟨k, vs, rfl, hk, hto, hown, hb⟩ := hrel
      have HTO := Lib.hid hto; have HOR := Lib.hid hown; have HBR := Lib.hid hb
      clear hto hown hb
      by_cases hlt : k < m
      · obtain ⟨x, hx⟩ : ∃ x, ls[k]? = some x := ⟨_, List.getElem?_eq_getElem (by rw [← HN.out]; exact hlt)⟩
        obtain ⟨b, off, hA, d0, d1, d2⟩ := lease_row (HRW.out.below HBR.out) hx
        subst hA
        have HX := Lib.hid hx
        have HXO := Lib.hid (HOW.out k x hx)
        have hki : (k : Int) < (m : Int) := by omega
        have hw := wrapK (k := k) (by have := HL.out; omega)
        have HKM := Lib.hid hlt
        clear hx hlt hk
        obtain ⟨ow, tk, un⟩ := x
        simp only at d0 d1 d2
        obtain ⟨r, hr⟩ : ∃ r, r = forceL ow un t := ⟨_, rfl⟩
        have HEE := Lib.hid (fun w' => HEX.out ⟨ow, tk, un⟩ w')
        have HCC := Lib.hid (fun w' => HC.out ow tk un r hr w')
        have HRF : Hid (ownF t ⟨ow, tk, un⟩ = if r = true then ow else 0) := Lib.hid (by
          have e : inF ⟨ow, tk, un⟩ t = r := by rw [hr]; exact (force_in (x := ⟨ow, tk, un⟩) HXO.out t).symm
          unfold ownF
          rw [e])
        clear hr
        go_upto_region 7 with fail
        clear d0 d1 d2
        have hbx := below_al (o := .cells (leC ⟨ow, tk, un⟩) 47) (Below.refl wr.heap.size wr)
        have HB3 := Lib.hid (below_next HBR.out hbx)
        have LX3 := Lib.hid (Lies.new wr (leC ⟨ow, tk, un⟩) 47)
        have HO3 := Lib.hid (own_upS HOR.out hbx)
        obtain ⟨b9, hb9⟩ : ∃ b, b = wr.heap.size := ⟨_, rfl⟩
        obtain ⟨W3, hW3⟩ : ∃ W, W = wr.alloc (.cells #[.int .i64 ow, .int .i64 tk, .int .i64 un] 47) := ⟨_, rfl⟩
        simp only [leC] at LX3 HB3 HO3
        rw [← hW3] at HB3 LX3 HO3 ⊢
        rw [← hb9] at LX3 ⊢
        clear hW3 hb9 hbx HOR HBR
        have a0 := LX3.out.cell (j := 0) rfl; have a1 := LX3.out.cell (j := 1) rfl; have a2 := LX3.out.cell (j := 2) rfl
        go_wp2_with fail
        refine (HEE.out _).mono ?_
        rintro e w4 ⟨rfl, hb2⟩
        have HB4 := Lib.hid (below_next HB3.out hb2)
        have LX4 := Lib.hid (LX3.out.below hb2)
        have HO4 := Lib.hid (own_upS HO3.out hb2)
        clear hb2 a0 a1 a2 HB3 LX3 HO3
        go_wp2_with fail
        refine (HCC.out _).mono ?_
        rintro e w5 ⟨rfl, hb2⟩
        have HB5 := Lib.hid (below_next HB4.out hb2)
        have LX5 := Lib.hid (LX4.out.below hb2)
        have HO5 := Lib.hid (own_upS HO4.out hb2)
        clear hb2 HB4 LX4 HO4
        have a0 := LX5.out.cell (j := 0) rfl
        cases r
        · go_wp2_with fail
          go_roundw
          case rel => exact ⟨k + 1, vs, rfl, HKM.out, HTO.out.skip HX.out (by rw [HRF.out]; rfl), HO5.out, HB5.out⟩
          case measure => simp [intOf]; have := HKM.out; omega
        · have HVL := Lib.hid HTO.out.len
          have c1 := HO5.out.cellAt k (by have := HKM.out; omega)
          have f1 := HO5.out.frozenAt k
          obtain ⟨v0, hv0⟩ : ∃ v0, vs[k]? = some v0 := ⟨_, List.getElem?_eq_getElem (by have := HVL.out; have := HKM.out; have := HN.out; omega)⟩
          rw [show (iv vs)[k]? = some (.int .i64 v0) by simp [iv, hv0]] at c1
          clear hv0
          have HO6 := Lib.hid (own_setI HO5.out k ow)
          have HB6 := Lib.hid (HB5.out.setCell (p := ⟨g9, k, none⟩) HG.out (.int .i64 ow))
          have HT6 := Lib.hid (HTO.out.next HX.out ow (by rw [HRF.out]; rfl))
          go_wp2_with fail
          go_roundw
          case rel => exact ⟨k + 1, vs.set k ow, rfl, HKM.out, HT6.out, HO6.out, HB6.out⟩
          case measure => simp [intOf]; have := HKM.out; omega
      · have hki : ¬ (k : Int) < (m : Int) := by omega
        have HV := Lib.hid (HTO.out.done (by rw [← HN.out]; omega))
        go_wp2_with fail
        go_ret
        exact ⟨_, m, rfl, by rw [HO.out, ← HV.out]; exact HOR.out, HBR.out⟩
end Ls
end Go.Proofs.Ytgoapkbpcfbipaa
