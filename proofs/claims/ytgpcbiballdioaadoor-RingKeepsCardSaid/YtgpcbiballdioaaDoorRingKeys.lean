/- maps.Keys of the points: each one comes once, in some order. -/
import Derived.Test.YtgpcbiballdioaaDoorRingPts
import Derived.Test.YtgpcbiballdioaaDoorOverP
import Derived.Maps.RangeWalk
import Derived.Maps.OwnIn
import Derived.Sort.MapsRangeIn
import Derived.Shelf.Abstract
import Derived.Shelf.RegionOpen
import Derived.OwnWalkIn
import Derived.TacticsInMore
import Derived.LoopNIn
import Derived.LoopIn
namespace Go.Proofs.YtgpcbiballdioaaDoor
open Go.RowKit Go.Maps Go.Shelf
set_option linter.unusedVariables false
set_option maxRecDepth 8000
namespace Rg
def OkP (m : Nat → Int) (nn : Nat) (pre : List Nat) : Prop := pre.Nodup ∧ pre.length ≤ nn ∧ ∀ h ∈ pre, h < 4294967296 ∧ m h ≠ 0
def LastP (m : Nat → Int) (nn : Nat) (xs : List Nat) : Prop := OkP m nn xs ∧ ∀ h, h < 4294967296 → m h ≠ 0 → h ∈ xs
/-- What has come so far. -/
def Col (D : DataW Unit) (left : Lit → Bool) (pre : List Nat) : Prop := pre.Nodup ∧ ∀ x : Nat, x < 4294967296 → (x ∈ pre ↔ (has D (.int .u32 x) = true ∧ left (.int .u32 x) = false))
def u32 (x : Nat) : Value := .int .u32 x
theorem Ptm.has_iff {D : DataW Unit} {m : Nat → Int} (h : Ptm D m) {x : Nat} (hx : x < 4294967296) : has D (.int .u32 x) = true ↔ m x ≠ 0 := by
  constructor
  · intro h1 h2; rw [h.no x hx h2] at h1; cases h1
  · intro h1; exact has_true_of_atKey (h.yes x hx h1)
theorem lit_ne {x y : Nat} (h : x ≠ y) : (Lit.int .u32 (x : Int)) ≠ .int .u32 (y : Int) := by intro q; injection q with _ q; omega
theorem Col.start (D : DataW Unit) : Col D (has D) [] := ⟨List.nodup_nil, fun x _ => by cases has D (.int .u32 x) <;> simp⟩
theorem Col.step {D : DataW Unit} {left : Lit → Bool} {pre : List Nat} (h : Col D left pre) (hsub : ∀ y ∈ pre, y < 4294967296) {x : Nat} {y : DataW Unit} (hx : x < 4294967296) (hlk : left (.int .u32 x) = true) (hat : ∀ zd, D.atKey (.int .u32 x) zd = y) :
    Col D (fun z => left z && !z.sameKey (.int .u32 x)) (pre ++ [x]) := by
  have hhas : has D (.int .u32 x) = true := has_true_of_atKey hat
  have hnew : x ∉ pre := fun hm => by have := ((h.2 x hx).1 hm).2; rw [hlk] at this; cases this
  refine ⟨List.nodup_append.2 ⟨h.1, by simp, fun a ha b hb => by simp at hb; subst hb; exact fun e => hnew (e ▸ ha)⟩, fun z hz => ?_⟩
  by_cases hy : z = x
  · subst hy
    have : (Lit.int .u32 (z : Int)).sameKey (.int .u32 (z : Int)) = true := by simp [Lit.sameKey]
    simp [hhas, this]
  · have : (Lit.int .u32 (z : Int)).sameKey (.int .u32 (x : Int)) = false := sameKey_ne (lit_ne hy)
    simp [h.2 z hz, hy, this]
set_option maxRecDepth 100000 in
theorem ckKeys (b : Nat) (w : World) : Calls Tryd.prog 24 #[.map (some b)] w fun e w' => e = .returned (.func (.func 30) #[] #[.pointer (some ⟨w.heap.size, 0, none⟩)]) ∧ w' = w.alloc (.cells #[.map (some b)] 41) := by
  go_enter Tryd.func24, Tryd.ntmps24
  go_wp2_with fail
  go_ret
  exact ⟨rfl, rfl⟩
theorem ranges_keep {w w' : World} {b r n : Nat} {D : DataW Unit} {left : Lit → Bool} {cnt : Nat} (h : w.ranges Tryd.prog 45 (plainElem Tryd.prog 3) b r n D left cnt) (hb : w'.heap[b]? = w.heap[b]?) (hr : w'.heap[r]? = w.heap[r]?) : w'.ranges Tryd.prog 45 (plainElem Tryd.prog 3) b r n D left cnt := by
  obtain ⟨es, clock, since, seen, c0, h1, h2, h3, h4, h5, h6⟩ := h
  exact ⟨es, clock, since, seen, c0, hb.trans h1, h2, h3, h4, hr.trans h5, h6⟩
theorem mine_of_grown {M : Nat → Prop} {w w' : World} {row : Option Nat} (h : w.grownBy w' row) (hr : ∀ k, row = some k → M k) : Over.Mine M w w' :=
  ⟨h.os, h.tape, h.output, h.size, fun k hk hn => h.block k hk fun e => hn (hr k e.symm)⟩
theorem kept_of_grown {B : Nat} {M : Nat → Prop} {w w' : World} {row : Option Nat} (h : w.grownBy w' row) (hr : ∀ k, row = some k → B ≤ k ∧ ¬ M k) : Over.Kept B M w w' :=
  Over.Kept.grown h hr
set_option maxRecDepth 100000 in
set_option maxHeartbeats 2000000 in
theorem keys_feeds (F : Fence) (hF : Over.Wide F) (n : Nat) (hn : 1 ≤ n) (Bm b nn : Nat) (m : Nat → Int) (w : World) (hbm : Boxed w Bm 41 (.map (some b))) (hp : HasP w b nn m) :
    OverP.Feeds F n Tryd.prog 30 #[.pointer (some ⟨Bm, 0, none⟩)] (fun x : Nat => #[u32 x]) (OkP m nn) (LastP m nn) w := by
  intro l J Jx M W hW hJ hJx hM hY h0
  have hfn := hF.fn 30
  have hro : F.round = none := hF.ro
  have hblt := hp.lt
  obtain ⟨D, hpm, hpt⟩ := hp.keep (show Below w.heap.size w W from hW)
  have b1 : Boxed W Bm 41 (.map (some b)) := (hW.block Bm hbm.lt).trans hbm
  have c1 := b1.cell
  have hsz := hW.size
  have hbmlt := hbm.lt
  have HY := Lib.hid hY
  have HJ := Lib.hid hJ
  have HJx := Lib.hid hJx
  have HM := Lib.hid hM
  have HPT := Lib.hid hpt
  have HPM := Lib.hid hpm
  have H0 := Lib.hid h0
  have HSZ := Lib.hid (World.ownsMap.size_le hpm)
  clear hY hJ hJx hM hp hbm hW hpt hpm h0
  refine callsIn_of_wp Tryd.func30 rfl hfn ?_ hro
  simp only [Tryd.ntmps30, List.size_toArray, List.length_cons, List.length_nil, Nat.reduceAdd, Nat.reduceSub, Array.replicate_succ, Array.replicate_zero, List.push_toArray, List.append_toArray, List.nil_append, List.cons_append]
  gi_wp2_with (first
    | (gi_at_range; refine wpListIn_range_own _ rfl _ 41 rfl 45 3 ptKey Tryd.underlying41 _ b nn _ rfl HPM.out ?_; intro w0 hrg0 hg0 hs0)
    | gi_in)
  have HRG0 := Lib.hid hrg0; have HG0 := Lib.hid hg0
  clear hrg0 hg0
  (try go_frame)
  gi_loopw [3] (fun _ wr => ∃ (left : Lit → Bool) (cnt : Nat) (pre : List Nat) (M' : Nat → Prop), wr.ranges Tryd.prog 45 (plainElem Tryd.prog 3) b W.heap.size nn D left cnt ∧ pre.length + cnt ≤ nn ∧ Col D left pre ∧ OkP m nn pre ∧ J M' pre wr ∧ Over.Kept w.heap.size M W wr ∧ (∀ x, M x → M' x) ∧ M' W.heap.size ∧ (∀ x, M' x → w.heap.size ≤ x ∧ x < wr.heap.size))
    (fun _ wr => wr.rangeLeft b W.heap.size)
  case atStart =>
    refine ⟨_, _, [], fun x => M x ∨ x = W.heap.size, HRG0.out, by simpa using HSZ.out, Col.start D, ⟨List.nodup_nil, Nat.zero_le _, fun h hh => by simp at hh⟩, ?_, ?_, fun x hx => .inl hx, .inr rfl, ?_⟩
    · exact HJ.out _ _ _ _ _ H0.out (mine_of_grown HG0.out (fun k hk => by cases hk)) fun k hk => hk.imp id fun e => by omega
    · exact kept_of_grown HG0.out (fun k hk => by cases hk)
    · intro x hx
      rcases hx with hx | hx
      · have := HM.out x hx; omega
      · omega
  case round =>
    obtain ⟨left, cnt, pre, M', hrg, hcs, hC, hok, hj, hkp, hs1, hs2, hs3⟩ := hrel
    have HRG := Lib.hid hrg; have HC := Lib.hid hC; have HOK := Lib.hid hok; have HJ1 := Lib.hid hj; have HK := Lib.hid hkp; have HS1 := Lib.hid hs1; have HS2 := Lib.hid hs2; have HS3 := Lib.hid hs3
    clear hrg hC hok hj hkp hs1 hs2 hs3
    gi_wp2_with (first
      | (gi_at_next; refine wpListIn_next_ranges_ii _ rfl _ rfl 45 3 .u32 .i64 ptKey Tryd.underlying45 Tryd.underlying3 b W.heap.size nn _ _ _ rfl HRG.out ?_ ?_)
      | gi_in)
    · intro hc0 hl0
      have HL0 := Lib.hid hl0
      clear hl0
      gi_wp2
      go_end0
      refine ⟨⟨_, rfl⟩, .inl ⟨pre, ⟨HOK.out, fun h hh hm => ?_⟩, HJ.out _ _ _ _ _ HJ1.out (Over.Mine.refl _ _) fun x hx => .inl (HS1.out x hx)⟩⟩
      exact (HC.out.2 h hh).2 ⟨(HPT.out.has_iff hh).2 hm, HL0.out _⟩
    · intro x c w2 cnt2 hwx hwc hlk hat hrg2 hlt hg2 hsz2 hen
      have hx01 : 0 ≤ x ∧ x < 4294967296 := by
        simp only [Lit.wf, IntKind.min, IntKind.max, IntKind.bits, IntKind.signed, Bool.and_eq_true] at hwx
        simp at hwx
        omega
      obtain ⟨y, rfl⟩ : ∃ y : Nat, x = y := ⟨x.toNat, by omega⟩
      have hy : y < 4294967296 := by omega
      have hJ2 : J M' pre w2 := HJ.out _ _ _ _ _ HJ1.out (mine_of_grown hg2 (fun k hk => by cases hk; exact HS2.out)) fun k hk => .inl hk
      have hC2 := Lib.hid (HC.out.step (fun z hz => (HOK.out.2.2 z hz).1) hy hlk hat)
      have hok2 : OkP m nn (pre ++ [y]) := ⟨hC2.out.1, by simp; omega, fun z hz => by
        rcases List.mem_append.1 hz with h | h
        · exact HOK.out.2.2 z h
        · rw [List.mem_singleton.1 h]
          exact ⟨hy, (HPT.out.has_iff hy).1 (has_true_of_atKey hat)⟩⟩
      obtain ⟨fn, tmps, assign, body, hyl, hR⟩ := HY.out M' pre y w2 hok2 hJ2
      have HR := Lib.hid hR
      have HRG2 := Lib.hid hrg2
      have HOK2 := Lib.hid hok2
      have HG2 := Lib.hid hg2
      have HLT := Lib.hid hlt
      have HSZ2 := Lib.hid hsz2
      clear hR hrg2 hok2 hlk hat hwx hwc hx01 hJ2 hg2 hsz2 hlt
      simp only [u32] at hyl
      gi_wp2
      refine HR.out.mono ?_
      rintro e W3 ⟨h3, hk3⟩
      have hk2 : Over.Kept w.heap.size M wr w2 := ⟨HG2.out.size, fun k hk hm => HG2.out.block k hk fun e => by
        cases e
        rcases hm with h | h
        · have := HSZ2.out; omega
        · have := (HM.out _ h).2; omega⟩
      have HK4 := Lib.hid (HK.out.trans (hk2.trans (hk3.sub (Nat.le_refl _) fun x hx => .inr (HS1.out x hx))))
      have HZ : Hid (w2.heap.size ≤ W3.heap.size) := Lib.hid hk3.size
      have hr2 : W.heap.size < w2.heap.size := World.ranges.lt HRG2.out
      have HRG3 := Lib.hid (ranges_keep HRG2.out (hk3.block b (by omega) (.inl (by omega))) (hk3.block W.heap.size hr2 (.inr HS2.out)))
      have HS4 : Hid (∀ x, M' x → w.heap.size ≤ x ∧ x < W3.heap.size) := Lib.hid fun x hx => by
        have := HS3.out x hx; have := HZ.out; have := HSZ2.out; omega
      rcases h3 with ⟨rfl, h3⟩ | ⟨rfl, h3⟩
      · have H3 := Lib.hid h3
        clear h3 hk3 hk2 hyl hen
        gi_wp2
        go_roundw
        case rel => exact ⟨_, cnt2, pre ++ [y], M', HRG3.out, by have := HLT.out; simp; omega, hC2.out, HOK2.out, H3.out, HK4.out, HS1.out, HS2.out, HS4.out⟩
        case measure => rw [World.ranges.left_eq HRG3.out, World.ranges.left_eq HRG.out]; exact HLT.out
      · have H3 := Lib.hid h3
        clear h3 hk3 hk2 hyl hen
        gi_wp2
        refine bodyPost_ret (results_none rfl _ _ _) rfl ?_
        exact ⟨⟨_, rfl⟩, .inr ⟨_, HOK2.out, HJx.out _ _ _ _ _ H3.out (Over.Mine.refl _ _) fun x hx => .inl (HS1.out x hx)⟩⟩
end Rg
end Go.Proofs.YtgpcbiballdioaaDoor
