/- The code's remove. -/
import Derived.Test.YtmkbdlailffjeaaSinkCe
import Derived.Test.YtmkbdlailffjeaaGenApp
namespace Go.Proofs.Ytmkbdlailffjeaa
open Go.ChangeShapes Go.WideShapes Go.ChangeAt Go.RowKit
set_option linter.unusedVariables false
set_option maxRecDepth 8000
namespace Sk
open Gen (TellsB TellsI row_one flat_len flat_get Mine)
/-- While stages are taken away: the others, the results. -/
structure RvAt (w : World) (vS : Value) (kS : Nat) (ks : List Sg) (vR : Value) (kR : Nat) (rs : List Re) (w' : World) : Prop where
  os : w'.ownsRow w.heap.size 50 2 vS kS (sgc ks)
  ox : w'.ownsRow w.heap.size 29 5 vR kR (rec_ rs)
  below : Below w.heap.size w w'
section
variable {w w' w'' : World} {vS : Value} {kS : Nat} {ks : List Sg} {vR : Value} {kR : Nat} {rs : List Re}
theorem RvAt.next (h : RvAt w vS kS ks vR kR rs w') (hb : Below w'.heap.size w' w'') : RvAt w vS kS ks vR kR rs w'' := ⟨own_up h.os hb, own_up h.ox hb, below_next h.below hb⟩
theorem RvAt.putS (h : RvAt w vS kS ks vR kR rs w') {v' : Value} {x : Sg} (hg : w'.grownBy w'' vS.ownBlock) (ho : w''.ownsRow w.heap.size 50 2 v' (kS + 1) (sgc (ks ++ [x]))) : RvAt w v' (kS + 1) (ks ++ [x]) vR kR rs w'' :=
  ⟨ho, own_grown h.ox hg (own_kind h.ox h.os (by decide)), h.below.grown hg h.below.size fun q hq => (h.os.lt q hq).1⟩
theorem RvAt.putR (h : RvAt w vS kS ks vR kR rs w') {v' : Value} {m : Nat} {l : List Re} (hg : w'.grownBy w'' vR.ownBlock) (ho : w''.ownsRow w.heap.size 29 5 v' (kR + m) (rec_ rs ++ rec_ l)) : RvAt w vS kS ks v' (kR + m) (rs ++ l) w'' :=
  ⟨own_grown h.os hg (own_kind h.os h.ox (by decide)), by rw [appR]; exact ho, h.below.grown hg h.below.size fun q hq => (h.ox.lt q hq).1⟩
end
def GivesRm (n : Int) (sg : List Sg) (st : List Pg) (w : World) (e : Ending) (w' : World) : Prop :=
  ∃ (A : Option Addr) (k c : Nat) (B : Option Addr) (m d : Nat), e = .returned (.tuple #[.slice A k c, .slice B m d]) ∧ RvAt w (.slice A k c) k (keepG n sg) (.slice B m d) m (goesO n st) w'
set_option maxRecDepth 100000 in
set_option maxHeartbeats 2000000 in
theorem ckRemove (sg : List Sg) (st : List Pg) (hg : sg.map pgOf = st) (ns : Nat) (hns : ns = st.length) (h8 : ns ≤ 8) (hle : ∀ x ∈ st, x.2.length ≤ 20000) (n : Int) (S : Option Addr) (cS : Nat) (w : World) (h : GAt w S sg) :
    Calls Try.prog 32 #[.slice S ns cS, .int .i64 n] w (GivesRm n sg st w) := by
  obtain ⟨i0, hi0, hz0, hz1, hz2⟩ := info_partsK InfoR
  have HI0 := Lib.hid hi0; have HZ0 := Lib.hid hz0; have HZ1 := Lib.hid hz1; have HZ2 := Lib.hid hz2
  have HG := Lib.hid hg
  have HH := Lib.hid h
  have HNS := Lib.hid hns
  have H8 := Lib.hid h8
  have HLE := Lib.hid hle
  have A0 : Hid (RvAt w (.slice none 0 0) 0 (keepG n (sg.take 0)) (.slice none 0 0) 0 (goesO n (st.take 0)) w) := Lib.hid ⟨own_none, own_none, Below.refl _ _⟩
  clear hg hns h8 hle h hi0 hz0 hz1 hz2
  go_enter Try.func32, Try.ntmps32
  go_wp2_with fail
  go_step3
  go_wp2_with fail
  go_step3
  go_wp2_with fail
  go_loopw [4, 5, 10] (fun s4 s5 s10 wr => ∃ (i kS kR : Nat) (vS vR : Value), s4 = vS ∧ s5 = vR ∧ s10 = .int .i64 i ∧ i ≤ ns ∧ kR ≤ 20000 * i ∧ kS ≤ i ∧ RvAt w vS kS (keepG n (sg.take i)) vR kR (goesO n (st.take i)) wr) (fun _ _ s10 _ => ns - (intOf s10).toNat)
  case atStart => exact ⟨0, 0, 0, _, _, rfl, rfl, rfl, Nat.zero_le _, Nat.zero_le _, Nat.le_refl _, A0.out⟩
  case round =>
    clear A0
    obtain ⟨i, kS, kR, vS, vR, rfl, rfl, rfl, hi, hkr, hks, hat⟩ := hrel
    have AT := Lib.hid hat; have HKR := Lib.hid hkr; have HKS := Lib.hid hks
    clear hat hkr hks
    by_cases hlt : i < ns
    · obtain ⟨⟨N, A, c, l⟩, hx⟩ : ∃ x, sg[i]? = some x := ⟨_, List.getElem?_eq_getElem (by have h1 := congrArg List.length HG.out; rw [List.length_map, ← HNS.out] at h1; omega)⟩
      have hp : st[i]? = some (N, l) := by rw [← HG.out, List.getElem?_map, hx]; rfl
      obtain ⟨qa, off, hS1, d0, d1⟩ := stage_row (HH.out.row.below AT.out.below) hx
      subst hS1
      have HTK : Hid (keepG n (sg.take (i + 1)) = if n < N then keepG n (sg.take i) ++ [(N, A, c, l)] else keepG n (sg.take i)) := Lib.hid (by rw [List.take_add_one, hx]; exact keepG_push n _ _)
      have HGO : Hid (goesO n (st.take (i + 1)) = goesO n (st.take i) ++ (if n < N then [] else l)) := Lib.hid (by rw [List.take_add_one, hp]; exact goesO_push n _ _)
      have HIT := Lib.hid (HH.out.each _ (List.mem_of_getElem? hx))
      have HL20 : Hid (l.length ≤ 20000) := Lib.hid (HLE.out (N, l) (List.mem_of_getElem? hp))
      have hki : (i : Int) < (ns : Int) := by omega
      have hw := wrapKS (k := i) (by have := H8.out; omega)
      have HK := Lib.hid hlt
      have HKSL : Hid (kS = (keepG n (sg.take i)).length) := Lib.hid (by have := AT.out.os.1; rw [lenG] at this; omega)
      obtain ⟨m, hm⟩ : ∃ m, m = l.length := ⟨_, rfl⟩
      simp only at d0 d1
      rw [← hm] at d1
      have HM := Lib.hid hm
      clear hx hp hlt hi hm
      go_upto_region 4 with fail
      have hb9 := below_al (o := .cells #[.int .i64 N, .slice A m c] 50) (Below.refl wr.heap.size wr)
      have A1 := Lib.hid (AT.out.next hb9)
      have LX := Lib.hid (Lies.new wr #[.int .i64 N, .slice A m c] 50)
      obtain ⟨b9, hb9e⟩ : ∃ b, b = wr.heap.size := ⟨_, rfl⟩
      obtain ⟨W9, hW9⟩ : ∃ W, W = wr.alloc (.cells #[.int .i64 N, .slice A m c] 50) := ⟨_, rfl⟩
      rw [← hW9] at A1 LX ⊢
      rw [← hb9e] at LX ⊢
      clear hW9 hb9e hb9 d0 d1 AT
      have z0 := LX.out.cell (j := 0) rfl; have z1 := LX.out.cell (j := 1) rfl
      by_cases hle : N ≤ n
      · have g1 : decide (N ≤ n) = true := decide_eq_true hle
        have HT3 := Lib.hid (HTK.out.trans (if_neg (by omega)))
        have HG3 : Hid (goesO n (st.take (i + 1)) = goesO n (st.take i) ++ l) := Lib.hid (by rw [HGO.out, if_neg (by omega)])
        clear hle
        go_wp2_with (at_builtin; refine hold_mk ?_)
        refine hold_out ?_
        refine Gen.wpAppRow rfl _ _ 22 rfl w.heap.size 29 i0 _ 5 48 Try.underlying22 HI0.out HZ0.out HZ1.out HZ2.out rfl (by omega) _ kR (rec_ (goesO n (st.take i))) rfl A1.out.ox A m c (rec_ l) rfl (HIT.out.below A1.out.below) (by rw [lenR, HM.out]) (onesR l)
          (by have := HKR.out; have := HM.out; have := HL20.out; have := H8.out; have := HK.out; unfold maxLen; omega) (by have := HKR.out; have := HM.out; have := HL20.out; have := H8.out; have := HK.out; omega) A1.out.below.size ?_
        intro v9 w9 bt9 hg9 hl9
        obtain ⟨V9, c9, rfl, _⟩ := own_form bt9 (by omega)
        have A9 := Lib.hid (A1.out.putR hg9 bt9)
        have HKR9 : Hid (kR + m ≤ 20000 * (i + 1)) := Lib.hid (by have := HKR.out; have := HM.out; have := HL20.out; omega)
        clear bt9 hg9 hl9 z0 z1 A1 LX
        go_wp2_with fail
        go_roundw
        case rel => exact ⟨i + 1, kS, kR + m, _, _, rfl, rfl, rfl, HK.out, HKR9.out, by have := HKS.out; omega, by rw [HT3.out, HG3.out]; exact A9.out⟩
        case measure => simp [intOf]; have := HK.out; omega
      · have g1 : decide (N ≤ n) = false := decide_eq_false hle
        have HT3 := Lib.hid (HTK.out.trans (if_pos (by omega)))
        have HG3 : Hid (goesO n (st.take (i + 1)) = goesO n (st.take i)) := Lib.hid (by rw [HGO.out, if_pos (by omega), List.append_nil])
        clear hle
        go_wp2_with (at_builtin; refine hold_mk ?_)
        refine hold_out ?_
        have hro := one_rowG W9 (N, A, c, l)
        simp only [sgC] at hro
        rw [← HM.out] at hro
        have A2 := Lib.hid (A1.out.next (below_al (o := .cells #[.int .i64 N, .slice A m c] 50) (Below.refl W9.heap.size W9)))
        refine wpPushG rfl _ _ rfl _ (keepG n (sg.take i)) rfl HKSL.out A2.out.os A2.out.below.size _ 1 (N, A, c, l) rfl hro (by have := H8.out; have := HK.out; have := HKS.out; omega) ?_
        intro v9 w9 bt9 hg9 hl9
        obtain ⟨V9, c9, rfl, _⟩ := own_form bt9 (by omega)
        have A9 := Lib.hid (A2.out.putS hg9 bt9)
        clear bt9 hg9 hl9 hro z0 z1 A1 A2 LX
        go_wp2_with fail
        go_roundw
        case rel => exact ⟨i + 1, kS + 1, kR, _, _, rfl, rfl, rfl, HK.out, by have := HKR.out; omega, by have := HKS.out; omega, by rw [HT3.out, HG3.out]; exact A9.out⟩
        case measure => simp [intOf]; have := HK.out; omega
    · have hki : ¬ (i : Int) < (ns : Int) := by omega
      have hin : i = ns := by omega
      subst hin
      have hsl : sg.length = i := by have h1 := congrArg List.length HG.out; rw [List.length_map, ← HNS.out] at h1; exact h1
      rw [List.take_of_length_le (l := sg) (by rw [hsl]; exact Nat.le_refl _), List.take_of_length_le (l := st) (by rw [← HNS.out]; exact Nat.le_refl _)] at AT
      obtain ⟨VS, cVS, e1, _⟩ := own_form AT.out.os (by omega)
      obtain ⟨VX, cVX, e2, _⟩ := own_form AT.out.ox (by omega)
      subst e1
      subst e2
      clear hlt hi hsl
      go_wp2_with fail
      (try rw [Exit.noGoto_ret])
      go_ret2
      exact ⟨VS, kS, cVS, VX, kR, cVX, rfl, AT.out⟩
end Sk
end Go.Proofs.Ytmkbdlailffjeaa
