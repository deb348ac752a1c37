/- The reference's Owners. -/
import Derived.Test.YtgoapkbpcfbipaaLeaseL
namespace Go.Proofs.Ytgoapkbpcfbipaa
open Go.ChangeShapes Go.WideShapes Go.ChangeAt Go.RowKit
set_option linter.unusedVariables false
set_option maxRecDepth 8000
namespace Ls
open Gen (TellsB TellsI SaysB row_one flat_len flat_get)
open Tick (cl addT)
open Rg (iv)
theorem iv_ones (l : List Int) : ∀ u ∈ iv l, u.oneCell' = true := ones
theorem wpPushO {ops : Array Oper} {rest : List Oper} {o : Oper} {a : Act} {Q : Exit → Act → World → Prop} {B k : Nat} {w : World} (hgd : o.guard = none) (s x : Operand)
    (ho : o.op = .call { callee := .builtin .append, args := #[s, x], argTypes := #[32, 32] }) (v : Value) (ms : List Int) (hs : a.eval s = v) (hk : k = ms.length) (h : w.ownsRow B 3 1 v k (iv ms)) (hB : B ≤ w.heap.size)
    (ad : Addr) (c : Nat) (y : Int) (hx : a.eval x = .slice (some ad) 1 c) (hr : w.cell? ad = some (.int .i64 y)) (hlen : k ≤ 100000)
    (hK : ∀ v' w', w'.ownsRow B 3 1 v' (k + 1) (iv (ms ++ [y])) → w.grownBy w' v.ownBlock → wpList Try.prog ops Q rest (a.put o.dst v') w') :
    wpList Try.prog ops Q (o :: rest) a w := by
  obtain ⟨i0, hi0, hz0, hz1, hz2⟩ := info_partsS IInfo
  have hcells : ∀ j u, (iv [y])[j]? = some u → w.cell? (ad.add j) = some u := by
    intro j u hu
    obtain ⟨rfl, rfl⟩ : j = 0 ∧ u = .int .i64 y := by
      cases j with
      | zero => exact ⟨rfl, (Option.some.inj hu).symm⟩
      | succ j => simp [iv] at hu
    simpa [Addr.add] using hr
  refine wpList_append_own_at w hgd s x 32 ho B 3 i0 _ 1 8 Try.underlying32 hi0 hz0 hz1 hz2 rfl (by omega) v k (iv ms) hs h ad 1 c (iv [y]) hx (by simp [iv]) hcells (iv_ones [y])
    (by unfold maxLen; omega) (by omega) hB ?_
  intro v' w' hown hg _ hat
  exact hK v' w' (by rw [show iv (ms ++ [y]) = iv ms ++ iv [y] from List.map_append]; exact hown) hg
set_option maxRecDepth 100000 in
set_option maxHeartbeats 1000000 in
theorem rfOwners (ls : List Le) (n : Nat) (last now : Int) (A : Option Addr) (c : Nat) (o : List Int) (m : Nat) (hn : n = ls.length) (ho : o = ownersO ⟨ls, last⟩ (cl now)) (hm : m = o.length) (w : World) (h : Row w A (lec ls)) (hl : n ≤ 100000) :
    Calls Try.prog 17 #[.agg #[.slice A n c, .int .i64 last], .int .i64 now] w (GivesIL m o w) := by
  obtain ⟨q, hq⟩ : ∃ q, q = rightT ⟨ls, last⟩ := ⟨_, rfl⟩
  have HRR := Lib.hid (fun w' (h' : Row w' A (lec ls)) => rfRight ls n last A c q hn hq w' h' (by omega))
  have HC := Lib.hid (fun o k u r hr w' => rfCounts o k u now r hr w')
  obtain ⟨t, ht⟩ : ∃ t, t = cl now := ⟨_, rfl⟩
  rw [← ht] at HC ho
  have HO1 : Hid (q = true → o = ls.map (ownF t)) := Lib.hid (fun e => by rw [ho]; exact owners_yes (by rw [← hq]; exact e))
  have HO0 : Hid (q = false → o = []) := Lib.hid (fun e => by rw [ho]; exact owners_no (by rw [← hq]; exact e))
  have hb0 := below_al (o := .cells #[] 3) (below_al (o := .cells #[.slice A n c, .int .i64 last] 24) (Below.refl w.heap.size w))
  have HB := Lib.hid hb0
  have HRW := Lib.hid h
  have HR := Lib.hid (h.below hb0)
  have LS := Lib.hid ((Lies.new w #[.slice A n c, .int .i64 last] 24).al (o := .cells #[] 3))
  have HN0 : Hid (((w.alloc (.cells #[.slice A n c, .int .i64 last] 24)).alloc (.cells #[] 3)).ownsRow w.heap.size 3 1 (.slice (some ⟨w.heap.size + 1, 0, none⟩) 0 0) 0 (iv [])) := Lib.hid (by
    have h := own_new (w := w.alloc (.cells #[.slice A n c, .int .i64 last] 24)) (B := w.heap.size) (size := 1) (e := 3) (by simp)
    simpa using h)
  have HN := Lib.hid hn
  have HM := Lib.hid hm
  have HL : Hid (n ≤ 100000) := Lib.hid hl
  clear h hb0 ho hq hn hm hl ht
  go_enter Try.func17, Try.ntmps17
  go_upto_region 2 with fail
  obtain ⟨W, hW⟩ : ∃ W, W = (w.alloc (.cells #[.slice A n c, .int .i64 last] 24)).alloc (.cells #[] 3) := ⟨_, rfl⟩
  rw [← hW] at LS HR HB HN0 ⊢
  clear hW
  have x0 := LS.out.cell (j := 0) rfl; have x1 := LS.out.cell (j := 1) rfl
  go_wp2_with fail
  refine (HRR.out _ HR.out).mono ?_
  rintro e w1 ⟨rfl, hb1⟩
  have HB1 := Lib.hid (below_next HB.out hb1)
  have L1 := Lib.hid (LS.out.below hb1)
  have HN1 := Lib.hid (own_upS HN0.out hb1)
  clear hb1 x0 x1 LS HR HB HN0
  have x0 := L1.out.cell (j := 0) rfl
  cases q
  · have e1 : o = [] := HO0.out rfl
    have hm0 : m = 0 := by rw [HM.out, e1]; rfl
    subst e1
    subst hm0
    clear HM
    go_wp2_with fail
    go_ret
    exact ⟨_, 0, rfl, HN1.out, HB1.out⟩
  · have e1 : o = ls.map (ownF t) := HO1.out rfl
    have hm0 : m = n := by rw [HM.out, e1, List.length_map, HN.out]
    subst hm0
    have HO := Lib.hid e1
    clear HM HO1 HO0 e1
    go_wp2_with fail
    clear x0
    go_loopw [5, 16] (fun v i wr => ∃ (k : Nat) (ms : List Int), i = .int .i64 k ∧ k ≤ m ∧ ms = (ls.map (ownF t)).take k ∧ wr.ownsRow w.heap.size 3 1 v k (iv ms) ∧ Below w.heap.size w wr) (fun _ i _ => m - (intOf i).toNat)
    case atStart => exact ⟨0, [], rfl, Nat.zero_le _, rfl, HN1.out, HB1.out⟩
    case round =>
      clear HN1 L1 HB1
      obtain ⟨k, ms, rfl, hk, hms, hown, hb⟩ := hrel
      have HMS := Lib.hid hms; have HOR := Lib.hid hown; have HBR := Lib.hid hb
      clear hms hown hb
      by_cases hlt : k < m
      · obtain ⟨x, hx⟩ : ∃ x, ls[k]? = some x := ⟨_, List.getElem?_eq_getElem (by rw [← HN.out]; exact hlt)⟩
        obtain ⟨b, off, hA, d0, d1, d2⟩ := lease_row (HRW.out.below HBR.out) hx
        subst hA
        have HKM := Lib.hid hlt
        have HML : Hid (k = ms.length) := Lib.hid (by rw [HMS.out, List.length_take, List.length_map, ← HN.out]; omega)
        have HST : Hid ((ls.map (ownF t)).take (k + 1) = ms ++ [ownF t x]) := Lib.hid (by rw [HMS.out, List.take_add_one, List.getElem?_map, hx]; rfl)
        have hki : (k : Int) < (m : Int) := by omega
        have hw := wrapK (k := k) (by have := HL.out; omega)
        clear hx hlt hk
        obtain ⟨ow, tk, un⟩ := x
        simp only at d0 d1 d2
        obtain ⟨r, hr⟩ : ∃ r, r = inF ⟨ow, tk, un⟩ t := ⟨_, rfl⟩
        have HCC := Lib.hid (fun w' => HC.out ow tk un r hr w')
        have HRF : Hid (ownF t ⟨ow, tk, un⟩ = if r = true then ow else 0) := Lib.hid (by unfold ownF; rw [← hr])
        clear hr
        go_upto_region 7 with fail
        clear d0 d1 d2
        have hbx := below_al (o := .cells (leC ⟨ow, tk, un⟩) 47) (Below.refl wr.heap.size wr)
        have HB3 := Lib.hid (below_next HBR.out hbx)
        have LX3 := Lib.hid (Lies.new wr (leC ⟨ow, tk, un⟩) 47)
        have HO3 := Lib.hid (own_upS HOR.out hbx)
        obtain ⟨b9, hb9⟩ : ∃ b, b = wr.heap.size := ⟨_, rfl⟩
        obtain ⟨W3, hW3⟩ : ∃ W, W = wr.alloc (.cells #[.int .i64 ow, .int .i64 tk, .int .i64 un] 47) := ⟨_, rfl⟩
        simp only [leC] at LX3 HB3 HO3
        rw [← hW3] at HB3 LX3 HO3 ⊢
        rw [← hb9] at LX3 ⊢
        clear hW3 hb9 hbx HOR HBR
        have a0 := LX3.out.cell (j := 0) rfl; have a1 := LX3.out.cell (j := 1) rfl; have a2 := LX3.out.cell (j := 2) rfl
        go_wp2_with fail
        refine (HCC.out _).mono ?_
        rintro e w5 ⟨rfl, hb2⟩
        have HB5 := Lib.hid (below_next HB3.out hb2)
        have LX5 := Lib.hid (LX3.out.below hb2)
        have HO5 := Lib.hid (own_upS HO3.out hb2)
        clear hb2 a0 a1 a2 HB3 LX3 HO3
        have a0 := LX5.out.cell (j := 0) rfl
        have HS5 := Lib.hid HB5.out.size
        cases r
        · go_wp2_with (at_builtin; refine hold_mk ?_)
          refine hold_out ?_
          have hbz := below_al (o := .cells #[.int .i64 0] 3) (Below.refl w5.heap.size w5)
          have HB6 := Lib.hid (below_next HB5.out hbz)
          have HO6 := Lib.hid (own_upS HO5.out hbz)
          refine wpPushO rfl _ _ rfl _ ms rfl HML.out HO6.out HB6.out.size ⟨w5.heap.size, 0, none⟩ 1 0 rfl ((Lies.new w5 #[.int .i64 0] 3).cell (j := 0) rfl) (by have := HL.out; have := HKM.out; omega) ?_
          intro v9 w9 bt9 hg9
          obtain ⟨V9, c9, rfl, _⟩ := own_form bt9 (by omega)
          have HB9 := Lib.hid (HB6.out.grown hg9 HB6.out.size fun q hq => (HO6.out.lt q hq).1)
          have HO9 := Lib.hid bt9
          clear bt9 hg9 hbz a0
          go_wp2_with fail
          go_roundw
          case rel => exact ⟨k + 1, _, rfl, HKM.out, rfl, by rw [HST.out, HRF.out]; exact HO9.out, HB9.out⟩
          case measure => simp [intOf]; have := HKM.out; omega
        · go_wp2_with (at_builtin; refine hold_mk ?_)
          refine hold_out ?_
          have hbz := below_al (o := .cells #[.int .i64 ow] 3) (Below.refl w5.heap.size w5)
          have HB6 := Lib.hid (below_next HB5.out hbz)
          have HO6 := Lib.hid (own_upS HO5.out hbz)
          refine wpPushO rfl _ _ rfl _ ms rfl HML.out HO6.out HB6.out.size ⟨w5.heap.size, 0, none⟩ 1 ow rfl ((Lies.new w5 #[.int .i64 ow] 3).cell (j := 0) rfl) (by have := HL.out; have := HKM.out; omega) ?_
          intro v9 w9 bt9 hg9
          obtain ⟨V9, c9, rfl, _⟩ := own_form bt9 (by omega)
          have HB9 := Lib.hid (HB6.out.grown hg9 HB6.out.size fun q hq => (HO6.out.lt q hq).1)
          have HO9 := Lib.hid bt9
          clear bt9 hg9 hbz a0
          go_wp2_with fail
          go_roundw
          case rel => exact ⟨k + 1, _, rfl, HKM.out, rfl, by rw [HST.out, HRF.out]; exact HO9.out, HB9.out⟩
          case measure => simp [intOf]; have := HKM.out; omega
      · have hki : ¬ (k : Int) < (m : Int) := by omega
        obtain rfl : k = m := by omega
        have HV : Hid (o = ms) := Lib.hid (by rw [HO.out, HMS.out]; exact (List.take_of_length_le (by rw [List.length_map, ← HN.out]; omega)).symm)
        obtain ⟨V9, c9, rfl, _⟩ := own_form HOR.out (by omega)
        go_wp2_with fail
        go_ret
        exact ⟨_, _, rfl, by rw [HV.out]; exact HOR.out, HBR.out⟩
end Ls
end Go.Proofs.Ytgoapkbpcfbipaa
