/- The law's cuts. -/
import Derived.Test.YtgbklmncfajcgaaAlignI
namespace Go.Proofs.Ytgbklmncfajcgaa
open Go.ChangeShapes Go.WideShapes Go.ChangeAt Go.RowKit
set_option linter.unusedVariables false
set_option maxRecDepth 8000
namespace Aln
open Gen (TellsB TellsI row_one flat_len flat_get Mine)
open Itm
/-- A row, cut at its barriers. -/
def GivesCt (l : List It) (w : World) (e : Ending) (w' : World) : Prop :=
  ∃ (H : Option Addr) (m cH : Nat) (hs : List Hd), e = .returned (.slice H m cH) ∧ Nest w' w.heap.size (.slice H m cH) m hs ∧ hs.map (fun x => x.2.2) = cutsR l ∧ Below w.heap.size w w'
theorem cuts_len_le : ∀ (l : List It), (cutsR l).length ≤ l.length + 1
  | [] => by simp [cutsR]
  | x :: r => by
    have ih := cuts_len_le r
    unfold cutsR
    split
    · simp only [List.length_cons]; omega
    · split
      · simp
      · rename_i s t e
        rw [e] at ih
        simp only [List.length_cons] at ih ⊢
        omega
set_option maxRecDepth 100000 in
set_option maxHeartbeats 4000000 in
theorem lawCuts (l : List It) (n : Nat) (hn : n = l.length) (hl : n ≤ 14) (A : Option Addr) (c : Nat) (w : World) (hA : Row w A (itc l)) :
    Calls Try.prog 21 #[.slice A n c] w (GivesCt l w) := by
  have HR := Lib.hid hA
  have HN := Lib.hid hn
  have HL := Lib.hid hl
  have N0 : Hid (Nest (w.alloc (.cells #[.slice none 0 0] 30)) w.heap.size (.slice (some ⟨w.heap.size, 0, none⟩) 1 1) 1 [noHd]) := Lib.hid
    ⟨own_one1 w _ _, fun x hx => by rw [List.mem_singleton.1 hx]; exact own_none, fun i j x y hij hx hy => by
      have h1 := (List.getElem?_eq_some_iff.1 hx).1
      have h2 := (List.getElem?_eq_some_iff.1 hy).1
      simp at h1 h2
      omega⟩
  have B0 := Lib.hid (below_al (o := .cells #[.slice none 0 0] 30) (Below.refl w.heap.size w))
  clear hA hn hl
  go_enter Try.func21, Try.ntmps21
  go_upto_region 2 with fail
  obtain ⟨W0, hW0⟩ : ∃ W, W = w.alloc (.cells #[.slice none 0 0] 30) := ⟨_, rfl⟩
  obtain ⟨v0, hv0⟩ : ∃ v, v = Value.slice (some ⟨w.heap.size, 0, none⟩) 1 1 := ⟨_, rfl⟩
  rw [← hW0] at N0 B0 ⊢
  rw [← hv0] at N0 ⊢
  clear hW0 hv0
  go_wp2_with fail
  go_loopw [3, 9] (fun s3 s9 wr => ∃ (k m : Nat) (v : Value) (hs : List Hd), s3 = v ∧ s9 = .int .i64 k ∧ k ≤ n ∧ Nest wr w.heap.size v m hs ∧ hs.map (fun x => x.2.2) = cutsR (l.take k) ∧ Below w.heap.size w wr) (fun _ s9 _ => n - (intOf s9).toNat)
  case atStart => exact ⟨0, 1, v0, [noHd], rfl, rfl, Nat.zero_le _, N0.out, rfl, B0.out⟩
  case round =>
    clear N0 B0
    obtain ⟨k, m, v, hs, hv', rfl, hk, hne, hmap, hb⟩ := hrel
    have hv2 := hv'.symm
    clear hv'
    subst hv2
    have NE := Lib.hid hne
    have HMP := Lib.hid hmap
    have HB := Lib.hid hb
    have HML : Hid (m = (cutsR (l.take k)).length) := Lib.hid (by rw [hne.len, ← hmap, List.length_map])
    have HM16 : Hid (1 ≤ m ∧ m ≤ 15) := Lib.hid (by
      rw [HML.out]
      have h1 := cuts_len_le (l.take k)
      have h2 : (l.take k).length ≤ k := by rw [List.length_take]; omega
      have h3 : 0 < (cutsR (l.take k)).length := List.length_pos_iff.2 (cuts_ne _)
      have := HL.out
      omega)
    clear hne hmap hb
    by_cases hlt : k < n
    · obtain ⟨x, hx⟩ : ∃ x, l[k]? = some x := ⟨_, List.getElem?_eq_getElem (by rw [← HN.out]; exact hlt)⟩
      obtain ⟨q, off, hA1, e0⟩ := item_row (HR.out.below HB.out) hx
      subst hA1
      have hki : (k : Int) < (n : Int) := by omega
      have hw := wrapKA (k := k) (by have := HL.out; omega)
      have HKM := Lib.hid hlt
      have HTK : Hid (l.take (k + 1) = l.take k ++ [x]) := Lib.hid (by rw [List.take_add_one, hx]; rfl)
      have e00 := e0 0 _ rfl; have e01 := e0 1 _ rfl; have e02 := e0 2 _ rfl; have e03 := e0 3 _ rfl; have e04 := e0 4 _ rfl; have e05 := e0 5 _ rfl; have e06 := e0 6 _ rfl; have e07 := e0 7 _ rfl; have e08 := e0 8 _ rfl; have e09 := e0 9 _ rfl; have e10 := e0 10 _ rfl
      rw [Nat.add_zero] at e00
      clear hx e0 hlt hk
      go_upto_region 5 with fail
      clear e00 e01 e02 e03 e04 e05 e06 e07 e08 e09 e10
      have hb6 := below_al (o := .cells (itC x) 42) (Below.refl wr.heap.size wr)
      have N6 := Lib.hid (NE.out.next hb6)
      have B6 := Lib.hid (below_next HB.out hb6)
      have LY := Lib.hid (Lies.new wr (itC x) 42)
      obtain ⟨b6, hb6e⟩ : ∃ b, b = wr.heap.size := ⟨_, rfl⟩
      obtain ⟨W6, hW6⟩ : ∃ W, W = wr.alloc (.cells (itC x) 42) := ⟨_, rfl⟩
      rw [← hW6] at N6 B6 LY ⊢
      rw [← hb6e] at LY ⊢
      clear hW6 hb6e hb6 NE HB
      have y00 := LY.out.cell (j := 0) rfl
      by_cases hk4 : x.k = 4
      · have g1 : (x.k == 4) = true := eq_b hk4
        have HCR : Hid (cutsR (l.take (k + 1)) = cutsR (l.take k) ++ [[]]) := Lib.hid (by rw [HTK.out, cuts_snoc_bar _ _ hk4])
        clear hk4
        go_wp2_with (at_builtin; refine hold_mk ?_)
        refine hold_out ?_
        have hb7 := below_al (o := .cells #[.slice none 0 0] 30) (Below.refl W6.heap.size W6)
        have hro := one_rowH W6 noHd
        have N7 := Lib.hid (N6.out.next hb7)
        refine wpPushH rfl _ _ rfl v hs rfl N7.out.len N7.out.outer (Nat.le_trans B6.out.size hb7.size) _ 1 noHd rfl hro (by have := HM16.out; omega) ?_
        intro v9 w9 bt9 hg9
        have N9 := Lib.hid (N7.out.push (y := noHd) own_none (fun x hx k hk e => by cases e) hg9 bt9)
        have B9 := Lib.hid ((B6.out.trans (hb7.mono B6.out.size)).grown hg9 (Nat.le_trans B6.out.size hb7.size) fun q hq => (N7.out.outer.lt q hq).1)
        clear bt9 hg9 hro hb7 N6 N7 B6 LY y00
        go_wp2_with fail
        go_roundw
        case rel => exact ⟨k + 1, m + 1, _, _, rfl, rfl, HKM.out, N9.out, by rw [List.map_append, HMP.out, HCR.out]; rfl, B9.out⟩
        case measure => simp [intOf]; have := HKM.out; omega
      · have g1 : (x.k == 4) = false := ne_b hk4
        obtain ⟨t, s, hc1, hc2⟩ := cuts_snoc (l.take k) x hk4
        rw [← HTK.out] at hc2
        obtain ⟨j, hj⟩ : ∃ j, m = j + 1 := ⟨m - 1, by have := HM16.out; omega⟩
        subst hj
        obtain ⟨AO, cO, hvO, _⟩ := own_form N6.out.outer (by omega)
        subst hvO
        obtain ⟨g, hg⟩ := outer_block N6.out.outer (by omega)
        subst hg
        have hjt : j = t.length := by have := HML.out; rw [hc1, List.length_append] at this; simpa using this
        obtain ⟨⟨Ah, ch, sh⟩, hxj⟩ : ∃ x, hs[j]? = some x := ⟨_, List.getElem?_eq_getElem (by have := N6.out.len; omega)⟩
        have hsh : sh = s := by
          have h1 : (hs.map (fun x => x.2.2))[j]? = some sh := by rw [List.getElem?_map, hxj]; rfl
          rw [HMP.out, hc1, hjt, List.getElem?_append_right (Nat.le_refl _), Nat.sub_self] at h1
          simpa using h1.symm
        subst hsh
        obtain ⟨d0, _⟩ := outer_cell N6.out.outer hxj
        have HXJ := Lib.hid hxj
        have HC2 := Lib.hid hc2
        have HC1 := Lib.hid hc1
        have HJT := Lib.hid hjt
        have OI := Lib.hid (N6.out.each _ (List.mem_of_getElem? hxj))
        obtain ⟨m2, hm2⟩ : ∃ m2, m2 = sh.length := ⟨_, rfl⟩
        have HM2 := Lib.hid hm2
        simp only [OwnI] at OI
        simp only [hv] at d0
        rw [← hm2] at d0 OI
        have HM14 : Hid (m2 ≤ 14) := Lib.hid (by
          rw [hm2]
          have h2 : ∀ (l : List It) (s : List It), s ∈ cutsR l → s.length ≤ l.length := by
            intro l
            induction l with
            | nil => intro s hs; simp [cutsR] at hs; rw [hs]; simp
            | cons x r ih =>
              intro s hs
              unfold cutsR at hs
              split at hs
              · rcases List.mem_cons.1 hs with h | h
                · rw [h]; simp
                · have := ih s h; simp only [List.length_cons]; omega
              · split at hs
                · rename_i e; exact absurd e (cuts_ne r)
                · rename_i s' t' e
                  rcases List.mem_cons.1 hs with h | h
                  · rw [h]; have := ih s' (by rw [e]; simp); simp only [List.length_cons]; omega
                  · have := ih s (by rw [e]; exact List.mem_cons_of_mem _ h); simp only [List.length_cons]; omega
          have := h2 (l.take k) sh (by rw [hc1]; simp)
          have h3 : (l.take k).length ≤ l.length := by rw [List.length_take]; omega
          have := HL.out
          have := HN.out
          omega)
        obtain ⟨i0, hi0, hz0, hz1, hz2⟩ := Gen.info_of InfoI
        have HI0 := Lib.hid hi0; have HZ0 := Lib.hid hz0; have HZ1 := Lib.hid hz1; have HZ2 := Lib.hid hz2
        have hbA := below_al (o := .cells (itC x) 42) (below_drewOf (Below.refl W6.heap.size W6))
        have NA := Lib.hid (N6.out.next hbA)
        have OA := Lib.hid (own_upA OI.out hbA)
        have BA := Lib.hid (below_next B6.out hbA)
        have HNEW : Hid (∀ j u, (itL x)[j]? = some u → (W6.drew.alloc (.cells (itC x) 42)).cell? ((⟨W6.drew.heap.size, 0, none⟩ : Addr).add j) = some u) := Lib.hid (fun j u hu => by
          rw [Go.WideShapes.add_plain]
          refine (Lies.new W6.drew (itC x) 42).cell ?_
          rw [Nat.zero_add, ← hu]
          simp [itL])
        have hlt6 := lt_of_block LY.out
        have hltg := (N6.out.outer.lt g rfl).2
        have y01 := LY.out.cell (j := 1) rfl; have y02 := LY.out.cell (j := 2) rfl; have y03 := LY.out.cell (j := 3) rfl; have y04 := LY.out.cell (j := 4) rfl; have y05 := LY.out.cell (j := 5) rfl; have y06 := LY.out.cell (j := 6) rfl; have y07 := LY.out.cell (j := 7) rfl; have y08 := LY.out.cell (j := 8) rfl; have y09 := LY.out.cell (j := 9) rfl; have y10 := LY.out.cell (j := 10) rfl
        have hj1 : IntKind.i64.wrap (((j + 1 : Nat) : Int) - 1) = (j : Int) := by rw [wrapA (by have := HM16.out; omega) (by have := HM16.out; omega)]; omega
        have hj5 : IntKind.i64.wrap (j : Int) = (j : Int) := wrapA (by omega) (by have := HM16.out; omega)
        have hj2 : (0 : Int) ≤ (j : Int) := by omega
        have hj3 : (j : Int) < (j : Int) + 1 := by omega
        clear hk4 hxj hc1 hc2 hjt hm2 hi0 hz0 hz1 hz2 hbA
        go_upto_region 7 with fail
        go_region_law (refine Gen.step_append_own rfl (.tmp 28) (.tmp 30) 30 rfl w.heap.size 42 i0 _ 11 104 Try.underlying30 HI0.out HZ0.out HZ1.out HZ2.out rfl (by omega) (.slice Ah m2 ch) m2 (itc sh) (by simp [Act.eval]) OA.out ⟨W6.drew.heap.size, 0, none⟩ 1 1 (itL x) (by simp [Act.eval]) rfl HNEW.out (fun u hu => onesI [x] u (by simpa [itc] using hu)) (by unfold maxLen; have := HM14.out; omega) (by have := HM14.out; omega) BA.out.size ?_; intro v' w' hown' hgrow hloc; obtain ⟨A', c', rfl, _⟩ := own_form hown' (by omega); have HO' := Lib.hid hown'; have HG' := Lib.hid hgrow; have HLC := Lib.hid hloc; have OUT' := Lib.hid (own_grownA NA.out.outer hgrow (own_kindA NA.out.outer OA.out (Ne.symm it_rows))); have q1 := (outer_cell OUT'.out HXJ.out).1; have f1 := (outer_cell OUT'.out HXJ.out).2; clear hown' hgrow hloc)
        all_goals (
          have hm := HM2.out
          subst hm
          have e1 : (sh ++ [x]).length = sh.length + 1 := by simp
          have hy : OwnI w' w.heap.size (A', c', sh ++ [x]) := by
            unfold OwnI
            simp only
            rw [e1, appI, show itc [x] = itL x by simp [itc]]
            exact HO'.out
          have hl3 : (hv (A', c', sh ++ [x])).ownBlock = (hv (Ah, ch, sh)).ownBlock ∨ (hv (A', c', sh ++ [x])).ownBlock = some (W6.drew.alloc (.cells (itC x) 42)).heap.size ∨ (hv (A', c', sh ++ [x])).ownBlock = none := by
            simp only [hv]
            rw [e1]
            rcases HLC.out with h | h
            · exact .inl h
            · exact .inr (.inl h)
          have NF := Lib.hid (NA.out.grow HXJ.out HG'.out hy hl3)
          have BF := Lib.hid (((BA.out.grown HG'.out BA.out.size fun q hq => (OA.out.lt q hq).1).setCell (p := ⟨g, j, none⟩) (show w.heap.size ≤ g from (N6.out.outer.lt g rfl).1) (hv (A', c', sh ++ [x]))))
          simp only [hv, e1] at NF BF
          have HMF : Hid ((hs.set j (A', c', sh ++ [x])).map (fun x => x.2.2) = cutsR (l.take (k + 1))) := Lib.hid (by
            rw [List.map_set, HMP.out, HC1.out, HC2.out, HJT.out, List.set_append_right _ _ (Nat.le_refl _), Nat.sub_self]
            rfl)
          clear hy hl3 HG' HO' HLC OUT' q1 f1 NA OA BA HNEW LY OI N6 B6 d0 y00 y01 y02 y03 y04 y05 y06 y07 y08 y09 y10 hlt6 hltg e1 HM14
          obtain ⟨W9, hW9⟩ : ∃ W, W = World.setCell w' ⟨g, j, none⟩ (.slice A' (sh.length + 1) c') := ⟨_, rfl⟩
          rw [← hW9] at NF BF ⊢
          clear hW9
          go_wp2_with fail
          go_roundw
          case rel => exact ⟨k + 1, j + 1, _, _, rfl, rfl, HKM.out, NF.out, HMF.out, BF.out⟩
          case measure => simp [intOf]; have := HKM.out; omega)
    · have hki : ¬ (k : Int) < (n : Int) := by omega
      have HALL : Hid (hs.map (fun x => x.2.2) = cutsR l) := Lib.hid (by rw [HMP.out, List.take_of_length_le (by rw [← HN.out]; omega)])
      obtain ⟨AO, cO, hvO, _⟩ := own_form NE.out.outer (by omega)
      subst hvO
      clear hlt hk
      go_wp2_with fail
      go_ret
      exact ⟨AO, m, cO, hs, rfl, NE.out, HALL.out, HB.out⟩
end Aln
end Go.Proofs.Ytgbklmncfajcgaa
