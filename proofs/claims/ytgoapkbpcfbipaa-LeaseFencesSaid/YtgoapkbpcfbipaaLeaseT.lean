/- The reference's Grant. -/
import Derived.Test.YtgoapkbpcfbipaaLeaseN
namespace Go.Proofs.Ytgoapkbpcfbipaa
open Go.ChangeShapes Go.WideShapes Go.ChangeAt Go.RowKit
set_option linter.unusedVariables false
set_option maxRecDepth 8000
namespace Ls
open Gen (TellsB TellsI SaysB row_one flat_len)
open Tick (cl addT)
/-- A table in new memory, a token, an error. -/
def GivesTKE (n : Nat) (t : Tb) (k z : Int) (w : World) (e : Ending) (w' : World) : Prop :=
  ∃ A c, e = .returned (.tuple #[.agg #[.slice A n c, .int .i64 t.last], .int .i64 k, .int .i64 z]) ∧ w'.ownsRow w.heap.size 47 3 (.slice A n c) n (lec t.ls) ∧ Below w.heap.size w w'
theorem grant_ret {w wF : World} {R n : Nat} {t : Tb} {k z : Int} {A : Option Addr} {c : Nat} {act : Act} (ht : act.tmps.getD 10 undef = .pointer (some ⟨R, 0, none⟩)) (hk : act.tmps.getD 11 undef = .int .i64 k) (he : act.tmps.getD 12 undef = .int .i64 z) (hd : act.defers = [])
    (hL : Lies R #[.slice A n c, .int .i64 t.last] 24 wF) (h1 : wF.ownsRow w.heap.size 47 3 (.slice A n c) n (lec t.ls)) (hB : Below w.heap.size w wF) :
    bodyPost Try.prog Try.f19 (GivesTKE n t k z w) .ret act wF := by
  have c0 := hL.cell (j := 0) rfl
  have c1 := hL.cell (j := 1) rfl
  refine bodyPost_ret (v := .tuple #[.agg #[.slice A n c, .int .i64 t.last], .int .i64 k, .int .i64 z]) ?_ hd ⟨A, c, rfl, h1, hB⟩
  have ht2 : act.tmps[10]?.getD undef = .pointer (some ⟨R, 0, none⟩) := by simpa using ht
  have hk2 : act.tmps[11]?.getD undef = .int .i64 k := by simpa using hk
  have he2 : act.tmps[12]?.getD undef = .int .i64 z := by simpa using he
  simp [results, Try.results19, go_sem, ht2, hk2, he2, c0, c1]
section
variable {W4 a c' : World} {b0 n c : Nat} {A : Option Addr} {last : Int}
theorem keepG (hb : Below a.heap.size a c') (h : a.cell? ⟨b0, 0, none⟩ = some (.slice A n c) ∧ a.cell? ⟨b0, 1, none⟩ = some (.int .i64 last) ∧ Below W4.heap.size W4 a) : c'.cell? ⟨b0, 0, none⟩ = some (.slice A n c) ∧ c'.cell? ⟨b0, 1, none⟩ = some (.int .i64 last) ∧ Below W4.heap.size W4 c' :=
  ⟨Gen.cell_below h.1 hb, Gen.cell_below h.2.1 hb, below_next h.2.2 hb⟩
theorem keepGd {ob : Obj} (h : a.drew.cell? ⟨b0, 0, none⟩ = some (.slice A n c) ∧ a.drew.cell? ⟨b0, 1, none⟩ = some (.int .i64 last) ∧ Below W4.heap.size W4 a.drew) : (a.alloc ob).drew.cell? ⟨b0, 0, none⟩ = some (.slice A n c) ∧ (a.alloc ob).drew.cell? ⟨b0, 1, none⟩ = some (.int .i64 last) ∧ Below W4.heap.size W4 (a.alloc ob).drew :=
  keepG (c' := (a.alloc ob).drew) (a := a.drew) (below_al (b := a.drew) (o := ob) (Below.refl _ _)) h
theorem keepGs {k : Nat} {v0 v1 : Value} (h1 : k ≠ b0) (h3 : W4.heap.size ≤ k) (h : a.cell? ⟨b0, 0, none⟩ = some (.slice A n c) ∧ a.cell? ⟨b0, 1, none⟩ = some (.int .i64 last) ∧ Below W4.heap.size W4 a) : ((a.setCell ⟨k, 0, none⟩ v0).setCell ⟨k, 1, none⟩ v1).cell? ⟨b0, 0, none⟩ = some (.slice A n c) ∧ ((a.setCell ⟨k, 0, none⟩ v0).setCell ⟨k, 1, none⟩ v1).cell? ⟨b0, 1, none⟩ = some (.int .i64 last) ∧ Below W4.heap.size W4 ((a.setCell ⟨k, 0, none⟩ v0).setCell ⟨k, 1, none⟩ v1) := by
  refine ⟨?_, ?_, (h.2.2.setCell (p := ⟨k, 0, none⟩) h3 _).setCell (p := ⟨k, 1, none⟩) h3 _⟩
  · rw [World.cell?_setCell_far _ _ _ _ h1, World.cell?_setCell_far _ _ _ _ h1]; exact h.1
  · rw [World.cell?_setCell_far _ _ _ _ h1, World.cell?_setCell_far _ _ _ _ h1]; exact h.2.1
end
theorem tl_ne : 47 ≠ 24 := by decide
theorem own_blkS {w : World} {B n b size : Nat} {e T : TypeId} {u : Value} {xs : List Value} {C : Array Value} (h : w.ownsRow B e size u n xs) (hl : Lies b C T w) (hne : e ≠ T) : u.ownBlock ≠ some b := by
  intro h1
  obtain ⟨_, ⟨rfl, _⟩ | ⟨g, cap, cur, rfl, _, hh, _⟩⟩ := h
  · cases h1
  · cases h1
    unfold Lies at hl
    rw [hl] at hh
    simp only [Option.some.injEq, Obj.cells.injEq] at hh
    exact hne hh.2.1.symm
theorem keepLT {a c : World} (hb : Below a.heap.size a c) : ∀ k C, Lies k C 24 a → Lies k C 24 c := fun k C h => h.below hb
set_option maxRecDepth 100000 in
set_option maxHeartbeats 800000 in
theorem rfGrant (ls : List Le) (n : Nat) (last g wk now long : Int) (A : Option Addr) (c : Nat) (o : Tb × Int × Int) (m : Nat) (hn : n = ls.length) (ho : o = grantO ⟨ls, last⟩ g wk (cl now) (addT now long)) (hm : m = o.1.ls.length) (w : World) (h : Row w A (lec ls)) (hl : n ≤ 100000) :
    Calls Try.prog 19 #[.agg #[.slice A n c, .int .i64 last], .int .i64 g, .int .i64 wk, .int .i64 now, .int .i64 long] w (GivesTKE m o.1 o.2.1 o.2.2 w) := by
  obtain ⟨q, hq⟩ : ∃ q, q = hasT ⟨ls, last⟩ g := ⟨_, rfl⟩
  have HH := Lib.hid (fun w' (h' : Row w' A (lec ls)) => rfHas ls n last g A c q hn hq w' h' (by omega))
  have HW := Lib.hid (fun (j : Nat) (x : Le) w' (h' : Row w' A (lec ls)) => rfWith ls n last j x A c hn w' h' hl)
  have HC := Lib.hid (fun o k u r hr w' => rfCounts o k u now r hr w')
  have HAD := Lib.hid (fun w' => rfAddS now long w')
  obtain ⟨ut, hut⟩ : ∃ ut, ut = addT now long := ⟨_, rfl⟩
  rw [← hut] at HAD ho
  have hb0 := below_al (o := .cells #[.slice none 0 0, .int .i64 0] 24) (below_al (o := .cells #[.slice A n c, .int .i64 last] 24) (Below.refl w.heap.size w))
  have HB := Lib.hid hb0
  have HR := Lib.hid (h.below hb0)
  have LA := Lib.hid ((Lies.new w #[.slice A n c, .int .i64 last] 24).al (o := .cells #[.slice none 0 0, .int .i64 0] 24))
  have LR := Lib.hid (Gen.lies_new1 w (.cells #[.slice A n c, .int .i64 last] 24) #[.slice none 0 0, .int .i64 0] 24)
  have HO : Hid (o = if q = false ∨ ¬ (1 ≤ wk ∧ wk ≤ 99) then (zT, 0, 1) else if inF (at_ ⟨ls, last⟩ g) (cl now) then (zT, 0, 160) else if last = 1073741824 then (zT, 0, 3) else (⟨setT ⟨ls, last⟩ g ⟨wk, last + 1, ut⟩, last + 1⟩, last + 1, 0)) := Lib.hid (by rw [ho, hq]; rfl)
  have HN := Lib.hid hn
  have HM := Lib.hid hm
  have HQ1 : Hid (q = true → (0 ≤ g ∧ g < (n : Int)) ∧ 0 ≤ last ∧ last ≤ 1073741824) := Lib.hid (fun e => by rw [hq] at e; rw [hn]; have := (has_iff _ _).1 e; exact ⟨this.2, this.1.last⟩)
  clear h hb0 ho hq hn hm hut
  go_enter Try.func19, Try.ntmps19
  go_upto_region 1 with fail
  obtain ⟨W, hW⟩ : ∃ W, W = (w.alloc (.cells #[.slice A n c, .int .i64 last] 24)).alloc (.cells #[.slice none 0 0, .int .i64 0] 24) := ⟨_, rfl⟩
  rw [← hW] at LA LR HR HB ⊢
  clear hW
  have x0 := LA.out.cell (j := 0) rfl; have x1 := LA.out.cell (j := 1) rfl
  go_wp2_with fail
  refine (HH.out _ HR.out).mono ?_
  rintro e w1 ⟨rfl, hb1⟩
  have HB1 := Lib.hid (below_next HB.out hb1)
  have LA1 := Lib.hid (LA.out.below hb1)
  have LR1 := Lib.hid (LR.out.below hb1)
  have HR1 := Lib.hid (HR.out.below hb1)
  clear hb1 x0 x1 LA LR HR HB
  cases q
  · have e1 : o = (zT, 0, 1) := HO.out.trans (if_pos (.inl rfl))
    have y0 := LR1.out.cell (j := 0) rfl; have y1 := LR1.out.cell (j := 1) rfl
    have z0 := LR1.out.free 0; have z1 := LR1.out.free 1
    have hm0 : m = 0 := by rw [HM.out, e1]; rfl
    subst e1
    subst hm0
    clear HO HM HQ1
    go_wp2_with fail
    exact grant_ret rfl rfl rfl rfl (lies_res LR1.out _ _) own_none (below_res HB1.out _ _)
  · obtain ⟨hg, hla⟩ := HQ1.out rfl
    obtain ⟨j, rfl⟩ : ∃ j : Nat, g = (j : Int) := ⟨g.toNat, by omega⟩
    obtain ⟨x, hx⟩ : ∃ x, ls[j]? = some x := ⟨_, List.getElem?_eq_getElem (by have := HN.out; omega)⟩
    have HAT := Lib.hid (at_nat ls last hx)
    have HXK := Lib.hid hx
    have hji : (j : Int) < (n : Int) := hg.2
    have HLA := Lib.hid hla
    clear hg hx hla
    rcases (Classical.em (1 ≤ wk ∧ wk ≤ 99)).symm with cw | cw
    · have HI := Lib.hid (fun w' => inNo cw w')
      have e1 : o = (zT, 0, 1) := HO.out.trans (if_pos (.inr cw))
      clear cw
      go_wp2_with fail
      refine (HI.out _).mono ?_
      rintro e w2 ⟨rfl, rfl⟩
      have y0 := LR1.out.cell (j := 0) rfl; have y1 := LR1.out.cell (j := 1) rfl
      have z0 := LR1.out.free 0; have z1 := LR1.out.free 1
      have hm0 : m = 0 := by rw [HM.out, e1]; rfl
      subst e1
      subst hm0
      clear HO HM HQ1
      go_wp2_with fail
      exact grant_ret rfl rfl rfl rfl (lies_res LR1.out _ _) own_none (below_res HB1.out _ _)
    · have HI := Lib.hid (fun w' => inYes cw w')
      obtain ⟨r, hr⟩ : ∃ r, r = inF x (cl now) := ⟨_, rfl⟩
      have HCC := Lib.hid (fun w' => HC.out x.own x.tok x.unt r hr w')
      have HO2 : Hid (o = if r then (zT, 0, 160) else if last = 1073741824 then (zT, 0, 3) else (⟨ls.set j ⟨wk, last + 1, ut⟩, last + 1⟩, last + 1, 0)) := Lib.hid (by
        rw [HO.out, if_neg (fun h => h.elim (by simp) (fun h => h cw)), HAT.out, ← hr]; rfl)
      clear cw HO hr HC HH
      have HO := HO2
      clear HO2
      obtain ⟨qq, off, hA, d0, d1, d2⟩ := lease_row HR1.out HXK.out
      subst hA
      have x0 := LA1.out.cell (j := 0) rfl
      obtain ⟨ow, tk, un⟩ := x
      simp only at d0 d1 d2 HCC
      go_wp2_with fail
      refine (HI.out _).mono ?_
      rintro e w2 ⟨rfl, rfl⟩
      go_wp2_with fail
      refine (HCC.out _).mono ?_
      rintro e w4 ⟨rfl, hb2⟩
      have HB4 := Lib.hid (below_next HB1.out hb2)
      have LA4 := Lib.hid (LA1.out.below hb2)
      have LR4 := Lib.hid (LR1.out.below hb2)
      have HR4 := Lib.hid (HR1.out.below hb2)
      clear hb2 x0 d0 d1 d2 LA1 LR1 HR1 HB1
      have x0 := LA4.out.cell (j := 0) rfl; have x1 := LA4.out.cell (j := 1) rfl
      rcases Bool.eq_false_or_eq_true r with er | er
      · subst er
        have e1 : o = (zT, 0, 160) := HO.out
        have y0 := LR4.out.cell (j := 0) rfl; have y1 := LR4.out.cell (j := 1) rfl
        have z0 := LR4.out.free 0; have z1 := LR4.out.free 1
        have hm0 : m = 0 := by rw [HM.out, e1]; rfl
        subst e1
        subst hm0
        clear HO HM HQ1
        go_wp2_with fail
        exact grant_ret rfl rfl rfl rfl (lies_res LR4.out _ _) own_none (below_res HB4.out _ _)
      · subst er
        have hw : IntKind.i64.wrap (last + 1) = last + 1 := by have := HLA.out; exact wrapS (by omega) (by omega)
        by_cases c3 : last = 1073741824
        · have g3 : (last == 1073741824) = true := eq_b c3
          have e1 : o = (zT, 0, 3) := HO.out.trans (by rw [if_neg (by simp), if_pos c3])
          clear c3
          have y0 := LR4.out.cell (j := 0) rfl; have y1 := LR4.out.cell (j := 1) rfl
          have z0 := LR4.out.free 0; have z1 := LR4.out.free 1
          have hm0 : m = 0 := by rw [HM.out, e1]; rfl
          subst e1
          subst hm0
          clear HO HM HQ1
          go_wp2_with fail
          exact grant_ret rfl rfl rfl rfl (lies_res LR4.out _ _) own_none (below_res HB4.out _ _)
        · have g3 : (last == 1073741824) = false := ne_b c3
          have e1 : o = (⟨ls.set j ⟨wk, last + 1, ut⟩, last + 1⟩, last + 1, 0) := HO.out.trans (by rw [if_neg (by simp), if_neg c3])
          have hm0 : m = n := by rw [HM.out, e1, HN.out]; exact List.length_set
          subst e1
          subst hm0
          clear HO HM HQ1 c3
          obtain ⟨W4, hW4⟩ : ∃ W, W = w4 := ⟨_, rfl⟩
          subst hW4
          have S0 : W4.drew.cell? ⟨w.heap.size, 0, none⟩ = some (.slice (some ⟨qq, off, none⟩) m c) ∧ W4.drew.cell? ⟨w.heap.size, 1, none⟩ = some (.int .i64 last) ∧ Below W4.heap.size W4 W4.drew := ⟨x0, x1, below_drewOf (Below.refl _ _)⟩
          have HKW := Lib.hid (lt_of_block LA4.out)
          have HTS := Lib.hid (fun w' (hS : w'.cell? ⟨w.heap.size, 0, none⟩ = some (.slice (some ⟨qq, off, none⟩) m c) ∧ w'.cell? ⟨w.heap.size, 1, none⟩ = some (.int .i64 last) ∧ Below W4.heap.size W4 w') => HW.out j ⟨wk, last + 1, ut⟩ w' (HR4.out.below hS.2.2))
          go_upto_region 7 with fail
          clear x0 x1
          go_cut [13] from 36 (fun s13 wd => ∃ b13 A5 c5, s13 = .pointer (some ⟨b13, 0, none⟩) ∧ Lies b13 #[.slice A5 m c5, .int .i64 last] 24 wd ∧ wd.ownsRow W4.heap.size 47 3 (.slice A5 m c5) m (lec (ls.set j ⟨wk, last + 1, ut⟩)) ∧ W4.heap.size ≤ b13 ∧ Below W4.heap.size W4 wd)
          case first =>
            go_region_held3 (fun w' => w'.cell? ⟨w.heap.size, 0, none⟩ = some (.slice (some ⟨qq, off, none⟩) m c) ∧ w'.cell? ⟨w.heap.size, 1, none⟩ = some (.int .i64 last) ∧ Below W4.heap.size W4 w')
              (first | with_reducible assumption | ((with_reducible refine keepGs ?_ ?_ ?_) <;> first | with_reducible assumption | (have := HKW.out; omega)) | ((with_reducible refine keepG hb5 ?_); with_reducible assumption) | ((with_reducible refine keepGd ?_); with_reducible assumption) | ((with_reducible refine keepG (below_al (Below.refl _ _)) ?_); with_reducible assumption) | ((with_reducible refine keepG (below_al (Below.refl _ _)) ?_); with_reducible exact HS5.out))
              (first
              | (go_at_call 36
                 refine (HAD.out _).mono ?_
                 rintro e w5 ⟨rfl, rfl⟩
                 dsimp only)
              | (go_at_call 35
                 refine (HTS.out _ (by with_reducible assumption)).mono ?_
                 rintro e w5 ⟨A5, c5, rfl, ho5, hb5⟩
                 have HS5 := Lib.hid (keepG hb5 (by with_reducible assumption))
                 have HO5 := Lib.hid ho5
                 have HK5 := Lib.hid (keepLT hb5)
                 (try have hlz := HK5.out _ _ (by first | with_reducible exact Lies.new _ _ _ | with_reducible exact (Lies.new _ _ _).al | with_reducible exact (Lies.new _ _ _).drew | with_reducible exact (Lies.new _ _ _).al.drew))
                 (try simp only [World.size_alloc] at hlz)
                 (try have HLZ := Lib.hid hlz)
                 (try clear hlz)
                 (try have z0 := HLZ.out.cell (j := 0) rfl)
                 (try have z1 := HLZ.out.cell (j := 1) rfl)
                 (try have f0 := HLZ.out.free 0)
                 (try have f1 := HLZ.out.free 1)
                 clear ho5
                 dsimp only))
            all_goals (
              go_wp2_with fail
              go_meet
              case rel => first
                | exact ⟨_, _, _, rfl, Lies.new _ _ _, own_upS HO5.out (below_al (Below.refl _ _)), HS5.out.2.2.size, below_al HS5.out.2.2⟩
                | exact ⟨_, _, _, rfl, by have h := (HLZ.out.set 0 (.slice A5 m c5)).set 1 (.int .i64 last); simpa using h, own_baseS (own_setS (own_setS HO5.out ⟨W4.heap.size, 0, none⟩ (fun e => by have h := (HO5.out.lt _ e).1; have h2 : (W4.alloc (.cells #[.slice none 0 0, .int .i64 0] 24)).heap.size = W4.heap.size + 1 := (by simp); have h3 : (W4.alloc (.cells #[.slice none 0 0, .int .i64 0] 24)).heap.size ≤ W4.heap.size := h; omega) _) ⟨W4.heap.size, 1, none⟩ (fun e => by have h := (HO5.out.lt _ e).1; have h2 : (W4.alloc (.cells #[.slice none 0 0, .int .i64 0] 24)).heap.size = W4.heap.size + 1 := (by simp); have h3 : (W4.alloc (.cells #[.slice none 0 0, .int .i64 0] 24)).heap.size ≤ W4.heap.size := h; omega) _) (show W4.heap.size ≤ (W4.alloc (.cells #[.slice none 0 0, .int .i64 0] 24)).heap.size by simp), Nat.le_refl _, (HS5.out.2.2.setCell (p := ⟨W4.heap.size, 0, none⟩) (Nat.le_refl _) _).setCell (p := ⟨W4.heap.size, 1, none⟩) (Nat.le_refl _) _⟩)
          case rest =>
            obtain ⟨b13, A5, c5, rfl, hl5, ho5, hge, hb5⟩ := hcut
            have hlr := lt_of_block LR4.out
            have hlk := HKW.out
            have HB5 := Lib.hid (below_next HB4.out hb5)
            have LA5 := Lib.hid (LA4.out.below hb5)
            have LR5 := Lib.hid (LR4.out.below hb5)
            have L5 := Lib.hid hl5
            have hn1 : b13 ≠ w.heap.size + 1 := by omega
            have hf5 : (Value.slice A5 m c5).ownBlock ≠ some b13 := own_blkS ho5 hl5 tl_ne
            have HO5 := Lib.hid (own_setS ho5 ⟨b13, 1, none⟩ hf5 (.int .i64 (last + 1)))
            have HNE := Lib.hid hn1
            have HSZ := Lib.hid HB4.out.size
            have HGE := Lib.hid hge
            have x1 := LA5.out.cell (j := 1) rfl
            have y1 := hl5.cell (j := 1) rfl
            have f1 := hl5.free 1
            clear hl5 hb5 ho5 S0 hlr hlk hn1 hf5 hge
            go_upto_region 9 with fail
            have LR6 := Lib.hid (LR5.out.other (c := b13) (fun e => HNE.out e.symm) 1 (.int .i64 (last + 1)))
            have L6 := Lib.hid (by have h := L5.out.set 1 (.int .i64 (last + 1)); simpa using h : Lies b13 #[.slice A5 m c5, .int .i64 (last + 1)] 24 (wc.setCell ⟨b13, 1, none⟩ (.int .i64 (last + 1))))
            have HB6 := Lib.hid (HB5.out.setCell (p := ⟨b13, 1, none⟩) (show w.heap.size ≤ b13 from Nat.le_trans HSZ.out HGE.out) (.int .i64 (last + 1)))
            obtain ⟨W6, hW6⟩ : ∃ W, W = wc.setCell ⟨b13, 1, none⟩ (.int .i64 (last + 1)) := ⟨_, rfl⟩
            rw [← hW6] at LR6 L6 HB6 HO5 ⊢
            clear hW6 x1 y1 f1 LR5 LA5 L5 HB5
            have y0 := L6.out.cell (j := 0) rfl; have y1 := L6.out.cell (j := 1) rfl
            have z0 := LR6.out.cell (j := 0) rfl; have z1 := LR6.out.cell (j := 1) rfl
            have f0 := LR6.out.free 0; have f1 := LR6.out.free 1
            have HBR := Lib.hid (own_blkS HO5.out LR6.out tl_ne)
            have hq1 := HNE.out
            have hq2 : w.heap.size + 1 ≠ b13 := fun e => hq1 e.symm
            go_wp2_with fail
            go_region
            all_goals (
              go_wp2_with fail
              exact grant_ret rfl rfl rfl rfl (lies_res (LR6.out.below (below_drewOf (Below.refl _ _))) _ _) (own_baseS (own_setS (own_setS (own_upS HO5.out (below_drewOf (Below.refl _ _))) ⟨w.heap.size + 1, 0, none⟩ HBR.out _) ⟨w.heap.size + 1, 1, none⟩ HBR.out _) HSZ.out) (below_res (below_next HB6.out (below_drewOf (Below.refl _ _))) _ _))
end Ls
end Go.Proofs.Ytgoapkbpcfbipaa
