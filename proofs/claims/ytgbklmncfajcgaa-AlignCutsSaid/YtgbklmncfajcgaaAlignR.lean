/- The reference's Right of an aligner. -/
import Derived.Test.YtgbklmncfajcgaaAlign
namespace Go.Proofs.Ytgbklmncfajcgaa
open Go.ChangeShapes Go.WideShapes Go.ChangeAt Go.RowKit
set_option linter.unusedVariables false
set_option maxRecDepth 8000
namespace Aln
open Gen (TellsB row_one flat_len flat_get)
open Itm
/-- An aligner. -/
structure Al where
  n : Int
  got : List Bool
  held : List (List It)
def slotOk (g : Bool) (l : List It) : Bool := (g || l.isEmpty) && (decide (l.length ≤ 16) && l.all right)
def trues (l : List Bool) : Nat := l.count true
def headOk (a : Al) : Bool := decide (1 ≤ a.got.length) && (decide (a.got.length ≤ 8) && (decide (a.held.length = a.got.length) && (decide (0 ≤ a.n) && decide (a.n ≤ 1073741824))))
def endOk (n : Int) (cnt len : Nat) : Bool := (decide (n = 0) && decide (cnt = 0)) || (decide (0 < n) && (decide (0 < cnt) && decide (cnt < len)))
def rightA (a : Al) : Bool := headOk a && ((List.zip a.got a.held).all (fun p => slotOk p.1 p.2) && endOk a.n (trues a.got) a.got.length)
/-- A row of items where it lies: its address, its room. -/
abbrev Hd := Option Addr × Nat × List It
abbrev hsL (x : Hd) : List Value := [.slice x.1 x.2.2.length x.2.1]
abbrev hsc (l : List Hd) : List Value := l.flatMap hsL
theorem hsL_len (x : Hd) : (hsL x).length = 1 := rfl
abbrev gL (b : Bool) : List Value := [.bool b]
abbrev gcs (l : List Bool) : List Value := l.flatMap gL
theorem gL_len (x : Bool) : (gL x).length = 1 := rfl
/-- A row of rows. -/
structure HAt (w : World) (H : Option Addr) (hs : List Hd) : Prop where
  row : Row w H (hsc hs)
  each : ∀ x ∈ hs, Row w x.1 (itc x.2.2)
theorem HAt.below {w w' : World} {H : Option Addr} {hs : List Hd} (h : HAt w H hs) (hb : Below w.heap.size w w') : HAt w' H hs := ⟨h.row.below hb, fun x hx => (h.each x hx).below hb⟩
theorem got_row {w : World} {A : Option Addr} {l : List Bool} (h : Row w A (gcs l)) {k : Nat} {x : Bool} (hk : l[k]? = some x) : ∃ q off, A = some ⟨q, off, none⟩ ∧ w.cell? ⟨q, off + k, none⟩ = some (.bool x) := by
  obtain ⟨q, off, rfl, g⟩ := row_one gL_len (by omega) h hk
  exact ⟨q, off, rfl, by simpa using g 0 _ rfl⟩
theorem head_row {w : World} {A : Option Addr} {l : List Hd} (h : Row w A (hsc l)) {k : Nat} {x : Hd} (hk : l[k]? = some x) : ∃ q off, A = some ⟨q, off, none⟩ ∧ w.cell? ⟨q, off + k, none⟩ = some (.slice x.1 x.2.2.length x.2.1) := by
  obtain ⟨q, off, rfl, g⟩ := row_one hsL_len (by omega) h hk
  exact ⟨q, off, rfl, by simpa using g 0 _ rfl⟩
abbrev alC (n : Int) (G : Option Addr) (ng cG : Nat) (H : Option Addr) (nh cH : Nat) : Array Value := #[.int .i64 n, .slice G ng cG, .slice H nh cH]
abbrev alV (n : Int) (G : Option Addr) (ng cG : Nat) (H : Option Addr) (nh cH : Nat) : Value := .agg (alC n G ng cG H nh cH)
theorem zip_all {gs : List Bool} {hs : List (List It)} {p : Bool × List It → Bool} (hl : hs.length = gs.length) : (List.zip gs hs).all p = true ↔ ∀ (i : Nat) (g : Bool) (h : List It), gs[i]? = some g → hs[i]? = some h → p (g, h) = true := by
  induction gs generalizing hs with
  | nil => simp
  | cons a r ih =>
    cases hs with
    | nil => simp at hl
    | cons b q =>
      rw [List.zip_cons_cons, List.all_cons, Bool.and_eq_true, ih (by simpa using hl)]
      constructor
      · rintro ⟨h1, h2⟩ i g h hg hh
        cases i with
        | zero => simp only [List.getElem?_cons_zero, Option.some.injEq] at hg hh; rw [← hg, ← hh]; exact h1
        | succ i => rw [List.getElem?_cons_succ] at hg hh; exact h2 i g h hg hh
      · intro h
        exact ⟨h 0 a b rfl rfl, fun i g k hg hk => h (i + 1) g k (by rw [List.getElem?_cons_succ]; exact hg) (by rw [List.getElem?_cons_succ]; exact hk)⟩
theorem right_bad {a : Al} {k : Nat} {g : Bool} {h : List It} (hl : a.held.length = a.got.length) (hg : a.got[k]? = some g) (hh : a.held[k]? = some h) (hn : slotOk g h = false) : rightA a = false := by
  unfold rightA
  have : (List.zip a.got a.held).all (fun p => slotOk p.1 p.2) = false := by
    cases e : (List.zip a.got a.held).all (fun p => slotOk p.1 p.2) with
    | false => rfl
    | true => have := (zip_all hl).1 e k g h hg hh; simp only [hn] at this; cases this
  rw [this]; simp
theorem trues_take {l : List Bool} {k : Nat} {g : Bool} (h : l[k]? = some g) : trues (l.take (k + 1)) = trues (l.take k) + (if g then 1 else 0) := by
  unfold trues
  rw [List.take_add_one, h, List.count_append]
  cases g <;> simp
set_option maxRecDepth 100000 in
set_option maxHeartbeats 4000000 in
theorem rfRightA (a : Al) (hs : List Hd) (hh : hs.map (fun x => x.2.2) = a.held) (ng nh : Nat) (hng : ng = a.got.length) (hnh : nh = a.held.length) (r : Bool) (hr : r = rightA a) (G : Option Addr) (cG : Nat) (H : Option Addr) (cH : Nat) (w : World) (hG : Row w G (gcs a.got)) (hH : HAt w H hs) :
    Calls Try.prog 12 #[alV a.n G ng cG H nh cH] w (TellsB r w) := by
  have HB := Lib.hid (below_al (o := .cells (alC a.n G ng cG H nh cH) 25) (Below.refl w.heap.size w))
  have LA := Lib.hid (Lies.new w (alC a.n G ng cG H nh cH) 25)
  have HG0 := Lib.hid hG
  have HH0 := Lib.hid hH
  have HHS := Lib.hid hh
  have HNG := Lib.hid hng
  have HNH := Lib.hid hnh
  have HRI := Lib.hid (fun x w' => rfRight x w')
  have HHD : Hid (headOk a = (decide (1 ≤ ng) && (decide (ng ≤ 8) && (decide (nh = ng) && (decide (0 ≤ a.n) && decide (a.n ≤ 1073741824)))))) := Lib.hid (by rw [hng, hnh]; rfl)
  have HR : Hid (r = rightA a) := Lib.hid hr
  have HBAD : Hid (headOk a = false → r = false) := Lib.hid (fun h => by rw [hr]; unfold rightA; rw [h]; rfl)
  have HSLOT : Hid (nh = ng → ∀ (k : Nat) (g : Bool) (x : Hd), a.got[k]? = some g → hs[k]? = some x → slotOk g x.2.2 = false → r = false) := Lib.hid (fun h k g x hg hx hn => by
    rw [hr]; exact right_bad (by rw [← hng, ← hnh]; exact h) hg (by rw [← hh, List.getElem?_map, hx]; rfl) hn)
  have HLH : Hid (hs.length = nh) := Lib.hid (by rw [hnh, ← hh, List.length_map])
  have HEND : Hid (headOk a = true → (∀ (i : Nat) (g : Bool) (x : Hd), a.got[i]? = some g → hs[i]? = some x → slotOk g x.2.2 = true) → r = endOk a.n (trues a.got) ng) := Lib.hid (fun h1 h2 => by
    have hl : a.held.length = a.got.length := by
      unfold headOk at h1
      simp only [Bool.and_eq_true, decide_eq_true_eq] at h1
      exact h1.2.2.1
    rw [hr]; unfold rightA
    rw [h1, (zip_all hl).2 (fun i g l hg hl => by
      rw [← hh, List.getElem?_map] at hl
      cases hx : hs[i]? with
      | none => rw [hx] at hl; cases hl
      | some x => rw [hx] at hl; simp only [Option.map_some, Option.some.injEq] at hl; rw [← hl]; exact h2 i g x hg hx), hng]
    rfl)
  clear hG hH hh hng hnh hr
  go_enter Try.func12, Try.ntmps12
  go_upto_region 1 with fail
  obtain ⟨b0, hb0⟩ : ∃ b, b = w.heap.size := ⟨_, rfl⟩
  obtain ⟨W, hW⟩ : ∃ W, W = w.alloc (.cells (alC a.n G ng cG H nh cH) 25) := ⟨_, rfl⟩
  rw [← hW] at LA HB ⊢
  rw [← hb0] at LA ⊢
  clear hW hb0
  have x0 := LA.out.cell (j := 0) rfl; have x1 := LA.out.cell (j := 1) rfl; have x2 := LA.out.cell (j := 2) rfl
  by_cases h1 : 1 ≤ ng
  · have g1 : decide ((ng : Int) < 1) = false := decide_eq_false (by omega)
    by_cases h2 : ng ≤ 8
    · have g2 : decide ((8 : Int) < (ng : Int)) = false := decide_eq_false (by omega)
      by_cases h3 : nh = ng
      · have g3 : ((nh : Int) != (ng : Int)) = false := bne_eq_false_iff_eq.2 (by omega)
        by_cases h4 : 0 ≤ a.n
        · have g4 : decide (a.n < (0 : Int)) = false := decide_eq_false (by omega)
          by_cases h5 : a.n ≤ 1073741824
          · have g5 : decide ((1073741824 : Int) < a.n) = false := decide_eq_false (by omega)
            have HHO : Hid (headOk a = true) := Lib.hid (by rw [HHD.out, decide_eq_true h1, decide_eq_true h2, decide_eq_true h3, decide_eq_true h4, decide_eq_true h5]; rfl)
            have HNG8 : Hid (ng ≤ 8) := Lib.hid h2
            have HEQ : Hid (nh = ng) := Lib.hid h3
            clear h1 h2 h3 h4 h5 HBAD HHD
            go_wp2_with fail
            clear x0 x1 x2 g1 g2 g3 g4 g5
            go_loopw [3, 40] (fun s3 s40 wr => ∃ (k cnt : Nat), s3 = .int .i64 cnt ∧ s40 = .int .i64 k ∧ k ≤ ng ∧ cnt ≤ k ∧ cnt = trues (a.got.take k) ∧ (∀ (i : Nat) (g : Bool) (x : Hd), i < k → a.got[i]? = some g → hs[i]? = some x → slotOk g x.2.2 = true) ∧ Lies b0 (alC a.n G ng cG H nh cH) 25 wr ∧ Below w.heap.size w wr) (fun _ s40 _ => ng - (intOf s40).toNat)
            case atStart => exact ⟨0, 0, rfl, rfl, Nat.zero_le _, Nat.le_refl _, rfl, fun i g x h => by omega, LA.out, HB.out⟩
            case round =>
              clear LA HB
              obtain ⟨k, cnt, rfl, rfl, hk, hck, hcnt, hall, hla, hb⟩ := hrel
              have LA := Lib.hid hla
              have HB := Lib.hid hb
              have HALL := Lib.hid hall
              have HCNT := Lib.hid hcnt
              have HCK := Lib.hid hck
              clear hla hb hall hcnt hck
              by_cases hlt : k < ng
              · obtain ⟨gk, hgk⟩ : ∃ g, a.got[k]? = some g := ⟨_, List.getElem?_eq_getElem (by rw [← HNG.out]; exact hlt)⟩
                obtain ⟨x, hx⟩ : ∃ x, hs[k]? = some x := ⟨_, List.getElem?_eq_getElem (by rw [HLH.out, HEQ.out]; exact hlt)⟩
                obtain ⟨q, off, hG1, c0⟩ := got_row (HG0.out.below HB.out) hgk
                obtain ⟨q', off', hH1, d0⟩ := head_row (HH0.out.row.below HB.out) hx
                subst hG1 hH1
                have hki : (k : Int) < (ng : Int) := by omega
                have hkh : (k : Int) < (nh : Int) := by have := HEQ.out; omega
                have hw := wrapKA (k := k) (by have := HNG8.out; omega)
                have hwc := wrapKA (k := cnt) (by have := HNG8.out; have := HCK.out; omega)
                have HKM := Lib.hid hlt
                have HGK := Lib.hid hgk
                have HXK := Lib.hid hx
                have HTT : Hid (trues (a.got.take (k + 1)) = cnt + (if gk then 1 else 0)) := Lib.hid (by rw [trues_take hgk, HCNT.out])
                have HXR : Hid (Row w x.1 (itc x.2.2)) := Lib.hid (HH0.out.each x (List.mem_of_getElem? hx))
                have HSK := Lib.hid (HSLOT.out HEQ.out k gk x hgk hx)
                clear hgk hx hlt hk
                obtain ⟨xA, xc, xl⟩ := x
                obtain ⟨p, hp⟩ : ∃ p, p = xl.length := ⟨_, rfl⟩
                simp only at d0 HXR HSK
                rw [← hp] at d0
                have HPL := Lib.hid hp
                clear hp
                have y2 := LA.out.cell (j := 2) rfl
                cases gk
                · by_cases hp0 : 0 < p
                  · have g0 : decide (0 < p) = true := decide_eq_true hp0
                    have HE2 : Hid (r = false) := Lib.hid (HSK.out (by
                      have : xl.isEmpty = false := by cases xl with | nil => have := HPL.out; simp at this; omega | cons _ _ => rfl
                      unfold slotOk; rw [this]; rfl))
                    clear hp0
                    go_wp2_with fail
                    go_ret
                    exact ⟨by rw [HE2.out]; rfl, HB.out⟩
                  · have g0 : decide (0 < p) = false := decide_eq_false hp0
                    have HEMP : Hid (xl.isEmpty = true) := Lib.hid (by rw [List.isEmpty_iff]; exact List.eq_nil_of_length_eq_zero (by have := HPL.out; omega))
                    clear hp0
                    by_cases hp16 : 16 < p
                    · have g2 : decide ((16 : Int) < (p : Int)) = true := decide_eq_true (by omega)
                      have HE2 : Hid (r = false) := Lib.hid (HSK.out (by unfold slotOk; rw [← HPL.out, decide_eq_false (show ¬ p ≤ 16 by omega)]; simp))
                      clear hp16
                      go_wp2_with fail
                      go_ret
                      exact ⟨by rw [HE2.out]; rfl, HB.out⟩
                    · have g2 : decide ((16 : Int) < (p : Int)) = false := decide_eq_false (by omega)
                      have HP16 : Hid (p ≤ 16) := Lib.hid (by omega)
                      clear hp16
                      go_wp2_with fail
                      clear d0 y2 c0
                      go_loopw [74] (fun i wr => ∃ j : Nat, i = .int .i64 j ∧ j ≤ p ∧ (∀ (i : Nat) (x : It), i < j → xl[i]? = some x → right x = true) ∧ Lies b0 (alC a.n (some ⟨q, off, none⟩) ng cG (some ⟨q', off', none⟩) nh cH) 25 wr ∧ Below w.heap.size w wr) (fun i _ => p - (intOf i).toNat)
                      case atStart => exact ⟨0, rfl, Nat.zero_le _, fun i x h => by omega, LA.out, HB.out⟩
                      case round =>
                        clear LA HB
                        obtain ⟨j, rfl, hj, hal, hla, hb⟩ := hrel
                        have LA := Lib.hid hla
                        have HB := Lib.hid hb
                        have HAL := Lib.hid hal
                        clear hla hb hal
                        by_cases hjp : j < p
                        · obtain ⟨y, hy⟩ : ∃ y, xl[j]? = some y := ⟨_, List.getElem?_eq_getElem (by rw [← HPL.out]; exact hjp)⟩
                          obtain ⟨q2, off2, hA1, e0⟩ := item_row (HXR.out.below HB.out) hy
                          subst hA1
                          have hji : (j : Int) < (p : Int) := by omega
                          have hwj := wrapKA (k := j) (by have := HP16.out; omega)
                          have HJP := Lib.hid hjp
                          have HY := Lib.hid hy
                          have e00 := e0 0 _ rfl; have e01 := e0 1 _ rfl; have e02 := e0 2 _ rfl; have e03 := e0 3 _ rfl; have e04 := e0 4 _ rfl; have e05 := e0 5 _ rfl; have e06 := e0 6 _ rfl; have e07 := e0 7 _ rfl; have e08 := e0 8 _ rfl; have e09 := e0 9 _ rfl; have e10 := e0 10 _ rfl
                          rw [Nat.add_zero] at e00
                          obtain ⟨rx, hrx⟩ : ∃ b, b = right y := ⟨_, rfl⟩
                          have HRX := Lib.hid hrx
                          have HCL := Lib.hid (fun w' => HRI.out y w')
                          rw [← hrx] at HCL
                          clear hy hjp hj e0 hrx
                          go_upto_region 14 with fail
                          clear e00 e01 e02 e03 e04 e05 e06 e07 e08 e09 e10
                          have hbx := below_al (o := .cells (itC y) 42) (Below.refl wr.heap.size wr)
                          have LA1 := Lib.hid (LA.out.below hbx)
                          have HB1 := Lib.hid (below_next HB.out hbx)
                          have LY := Lib.hid (Lies.new wr (itC y) 42)
                          obtain ⟨b1, hb1⟩ : ∃ b, b = wr.heap.size := ⟨_, rfl⟩
                          obtain ⟨W1, hW1⟩ : ∃ W, W = wr.alloc (.cells (itC y) 42) := ⟨_, rfl⟩
                          rw [← hW1] at LA1 HB1 LY ⊢
                          rw [← hb1] at LY ⊢
                          clear hW1 hb1 hbx LA HB
                          have e00 := LY.out.cell (j := 0) rfl; have e01 := LY.out.cell (j := 1) rfl; have e02 := LY.out.cell (j := 2) rfl; have e03 := LY.out.cell (j := 3) rfl; have e04 := LY.out.cell (j := 4) rfl; have e05 := LY.out.cell (j := 5) rfl; have e06 := LY.out.cell (j := 6) rfl; have e07 := LY.out.cell (j := 7) rfl; have e08 := LY.out.cell (j := 8) rfl; have e09 := LY.out.cell (j := 9) rfl; have e10 := LY.out.cell (j := 10) rfl
                          go_wp2_with fail
                          refine (HCL.out _).mono ?_
                          rintro e w2 ⟨rfl, hb2⟩
                          have LA2 := Lib.hid (LA1.out.below hb2)
                          have HB2 := Lib.hid (below_next HB1.out hb2)
                          clear hb2 e00 e01 e02 e03 e04 e05 e06 e07 e08 e09 e10 LY LA1 HB1
                          cases rx
                          · have HE2 : Hid (r = false) := Lib.hid (HSK.out (by
                              unfold slotOk
                              have : xl.all right = false := List.all_eq_false.2 ⟨y, List.mem_of_getElem? HY.out, by rw [← HRX.out]; simp⟩
                              rw [this]; simp))
                            go_wp2_with fail
                            go_ret
                            exact ⟨by rw [HE2.out]; rfl, HB2.out⟩
                          · go_wp2_with fail
                            go_roundw
                            case rel => exact ⟨j + 1, rfl, HJP.out, fun i x hi hx => by
                              by_cases e : i = j
                              · subst e; rw [HY.out] at hx; cases hx; exact HRX.out.symm
                              · exact HAL.out i x (by omega) hx, LA2.out, HB2.out⟩
                            case measure => simp [intOf]; have := HJP.out; omega
                        · have hji : ¬ (j : Int) < (p : Int) := by omega
                          have HSO : Hid (slotOk false xl = true) := Lib.hid (by
                            have h1 : xl.all right = true := List.all_eq_true.2 fun x hx => by
                              obtain ⟨i, hi⟩ := List.getElem?_of_mem hx
                              exact HAL.out i x (by have := (List.getElem?_eq_some_iff.1 hi).1; have := HPL.out; omega) hi
                            unfold slotOk
                            rw [h1, ← HPL.out, decide_eq_true HP16.out]
                            rw [HEMP.out]; rfl)
                          clear hjp hj
                          go_wp2_with fail
                          go_roundw
                          case rel => exact ⟨k + 1, cnt, by first | rfl | simp, rfl, HKM.out, by have := HCK.out; omega, by rw [HTT.out]; simp, fun i g x hi hg hx => by
                            by_cases e : i = k
                            · subst e; rw [HGK.out] at hg; rw [HXK.out] at hx; cases hg; cases hx; exact HSO.out
                            · exact HALL.out i g x (by omega) hg hx, LA.out, HB.out⟩
                          case measure => simp [intOf]; have := HKM.out; omega
                · by_cases hp16 : 16 < p
                  · have g2 : decide ((16 : Int) < (p : Int)) = true := decide_eq_true (by omega)
                    have HE2 : Hid (r = false) := Lib.hid (HSK.out (by unfold slotOk; rw [← HPL.out, decide_eq_false (show ¬ p ≤ 16 by omega)]; simp))
                    clear hp16
                    go_wp2_with fail
                    go_ret
                    exact ⟨by rw [HE2.out]; rfl, HB.out⟩
                  · have g2 : decide ((16 : Int) < (p : Int)) = false := decide_eq_false (by omega)
                    have HP16 : Hid (p ≤ 16) := Lib.hid (by omega)
                    clear hp16
                    go_wp2_with fail
                    clear d0 y2 c0
                    go_loopw [74] (fun i wr => ∃ j : Nat, i = .int .i64 j ∧ j ≤ p ∧ (∀ (i : Nat) (x : It), i < j → xl[i]? = some x → right x = true) ∧ Lies b0 (alC a.n (some ⟨q, off, none⟩) ng cG (some ⟨q', off', none⟩) nh cH) 25 wr ∧ Below w.heap.size w wr) (fun i _ => p - (intOf i).toNat)
                    case atStart => exact ⟨0, rfl, Nat.zero_le _, fun i x h => by omega, LA.out, HB.out⟩
                    case round =>
                      clear LA HB
                      obtain ⟨j, rfl, hj, hal, hla, hb⟩ := hrel
                      have LA := Lib.hid hla
                      have HB := Lib.hid hb
                      have HAL := Lib.hid hal
                      clear hla hb hal
                      by_cases hjp : j < p
                      · obtain ⟨y, hy⟩ : ∃ y, xl[j]? = some y := ⟨_, List.getElem?_eq_getElem (by rw [← HPL.out]; exact hjp)⟩
                        obtain ⟨q2, off2, hA1, e0⟩ := item_row (HXR.out.below HB.out) hy
                        subst hA1
                        have hji : (j : Int) < (p : Int) := by omega
                        have hwj := wrapKA (k := j) (by have := HP16.out; omega)
                        have HJP := Lib.hid hjp
                        have HY := Lib.hid hy
                        have e00 := e0 0 _ rfl; have e01 := e0 1 _ rfl; have e02 := e0 2 _ rfl; have e03 := e0 3 _ rfl; have e04 := e0 4 _ rfl; have e05 := e0 5 _ rfl; have e06 := e0 6 _ rfl; have e07 := e0 7 _ rfl; have e08 := e0 8 _ rfl; have e09 := e0 9 _ rfl; have e10 := e0 10 _ rfl
                        rw [Nat.add_zero] at e00
                        obtain ⟨rx, hrx⟩ : ∃ b, b = right y := ⟨_, rfl⟩
                        have HRX := Lib.hid hrx
                        have HCL := Lib.hid (fun w' => HRI.out y w')
                        rw [← hrx] at HCL
                        clear hy hjp hj e0 hrx
                        go_upto_region 14 with fail
                        clear e00 e01 e02 e03 e04 e05 e06 e07 e08 e09 e10
                        have hbx := below_al (o := .cells (itC y) 42) (Below.refl wr.heap.size wr)
                        have LA1 := Lib.hid (LA.out.below hbx)
                        have HB1 := Lib.hid (below_next HB.out hbx)
                        have LY := Lib.hid (Lies.new wr (itC y) 42)
                        obtain ⟨b1, hb1⟩ : ∃ b, b = wr.heap.size := ⟨_, rfl⟩
                        obtain ⟨W1, hW1⟩ : ∃ W, W = wr.alloc (.cells (itC y) 42) := ⟨_, rfl⟩
                        rw [← hW1] at LA1 HB1 LY ⊢
                        rw [← hb1] at LY ⊢
                        clear hW1 hb1 hbx LA HB
                        have e00 := LY.out.cell (j := 0) rfl; have e01 := LY.out.cell (j := 1) rfl; have e02 := LY.out.cell (j := 2) rfl; have e03 := LY.out.cell (j := 3) rfl; have e04 := LY.out.cell (j := 4) rfl; have e05 := LY.out.cell (j := 5) rfl; have e06 := LY.out.cell (j := 6) rfl; have e07 := LY.out.cell (j := 7) rfl; have e08 := LY.out.cell (j := 8) rfl; have e09 := LY.out.cell (j := 9) rfl; have e10 := LY.out.cell (j := 10) rfl
                        go_wp2_with fail
                        refine (HCL.out _).mono ?_
                        rintro e w2 ⟨rfl, hb2⟩
                        have LA2 := Lib.hid (LA1.out.below hb2)
                        have HB2 := Lib.hid (below_next HB1.out hb2)
                        clear hb2 e00 e01 e02 e03 e04 e05 e06 e07 e08 e09 e10 LY LA1 HB1
                        cases rx
                        · have HE2 : Hid (r = false) := Lib.hid (HSK.out (by
                            unfold slotOk
                            have : xl.all right = false := List.all_eq_false.2 ⟨y, List.mem_of_getElem? HY.out, by rw [← HRX.out]; simp⟩
                            rw [this]; simp))
                          go_wp2_with fail
                          go_ret
                          exact ⟨by rw [HE2.out]; rfl, HB2.out⟩
                        · go_wp2_with fail
                          go_roundw
                          case rel => exact ⟨j + 1, rfl, HJP.out, fun i x hi hx => by
                            by_cases e : i = j
                            · subst e; rw [HY.out] at hx; cases hx; exact HRX.out.symm
                            · exact HAL.out i x (by omega) hx, LA2.out, HB2.out⟩
                          case measure => simp [intOf]; have := HJP.out; omega
                      · have hji : ¬ (j : Int) < (p : Int) := by omega
                        have HSO : Hid (slotOk true xl = true) := Lib.hid (by
                          have h1 : xl.all right = true := List.all_eq_true.2 fun x hx => by
                            obtain ⟨i, hi⟩ := List.getElem?_of_mem hx
                            exact HAL.out i x (by have := (List.getElem?_eq_some_iff.1 hi).1; have := HPL.out; omega) hi
                          unfold slotOk
                          rw [h1, ← HPL.out, decide_eq_true HP16.out]
                          rfl)
                        clear hjp hj
                        go_wp2_with fail
                        go_roundw
                        case rel => exact ⟨k + 1, cnt + 1, by first | rfl | simp, rfl, HKM.out, by have := HCK.out; omega, by rw [HTT.out]; simp, fun i g x hi hg hx => by
                          by_cases e : i = k
                          · subst e; rw [HGK.out] at hg; rw [HXK.out] at hx; cases hg; cases hx; exact HSO.out
                          · exact HALL.out i g x (by omega) hg hx, LA.out, HB.out⟩
                        case measure => simp [intOf]; have := HKM.out; omega
              · have hki : ¬ (k : Int) < (ng : Int) := by omega
                have hkn : k = ng := by omega
                have HE : Hid (r = endOk a.n cnt ng) := Lib.hid (by
                  rw [HEND.out HHO.out (fun i g x hg hx => HALL.out i g x (by have := (List.getElem?_eq_some_iff.1 hg).1; have := HNG.out; omega) hg hx), HCNT.out, hkn, HNG.out, List.take_length])
                clear hkn hlt hk
                have x0 := LA.out.cell (j := 0) rfl; have x1 := LA.out.cell (j := 1) rfl
                by_cases e1 : a.n = 0
                · have f1 : (a.n == (0 : Int)) = true := eq_b e1
                  have f3 : decide ((0 : Int) < a.n) = false := decide_eq_false (by omega)
                  by_cases e2 : cnt = 0
                  · have HE2 : Hid (r = true) := Lib.hid (by rw [HE.out]; unfold endOk; rw [decide_eq_true e1, decide_eq_true e2]; rfl)
                    have f2 : ((cnt : Int) == (0 : Int)) = true := eq_b (by omega)
                    clear e1 e2
                    go_wp2_with fail
                    go_ret
                    exact ⟨by rw [HE2.out]; rfl, HB.out⟩
                  · have HE2 : Hid (r = false) := Lib.hid (by rw [HE.out]; unfold endOk; rw [decide_eq_false e2, decide_eq_false (show ¬ 0 < a.n by omega)]; simp)
                    have f2 : ((cnt : Int) == (0 : Int)) = false := ne_b (by omega)
                    clear e1 e2
                    go_wp2_with fail
                    go_ret
                    exact ⟨by rw [HE2.out]; rfl, HB.out⟩
                · have f1 : (a.n == (0 : Int)) = false := ne_b e1
                  by_cases e3 : 0 < a.n
                  · have f3 : decide ((0 : Int) < a.n) = true := decide_eq_true e3
                    by_cases e2 : 0 < cnt
                    · have f2 : decide (0 < cnt) = true := decide_eq_true e2
                      have f5 : decide ((0 : Int) < (cnt : Int)) = true := decide_eq_true (by omega)
                      have HE2 : Hid (r = decide (cnt < ng)) := Lib.hid (by rw [HE.out]; unfold endOk; rw [decide_eq_false e1, decide_eq_true e3, decide_eq_true e2]; simp)
                      obtain ⟨v, hv⟩ : ∃ v, v = decide (cnt < ng) := ⟨_, rfl⟩
                      have f4 : decide ((cnt : Int) < (ng : Int)) = v := by rw [hv]; exact decide_eq_decide.2 (by omega)
                      have HV := Lib.hid (HE2.out.trans hv.symm)
                      clear e1 e2 e3 HE2 hv
                      go_wp2_with fail
                      go_ret
                      exact ⟨by rw [HV.out]; (try rw [← f4]); simp, HB.out⟩
                    · have f2 : decide (0 < cnt) = false := decide_eq_false e2
                      have f5 : decide ((0 : Int) < (cnt : Int)) = false := decide_eq_false (by omega)
                      have HE2 : Hid (r = false) := Lib.hid (by rw [HE.out]; unfold endOk; rw [decide_eq_false e1, decide_eq_false e2]; simp)
                      clear e1 e2 e3
                      go_wp2_with fail
                      go_ret
                      exact ⟨by rw [HE2.out]; rfl, HB.out⟩
                  · have f3 : decide ((0 : Int) < a.n) = false := decide_eq_false e3
                    have HE2 : Hid (r = false) := Lib.hid (by rw [HE.out]; unfold endOk; rw [decide_eq_false e1, decide_eq_false e3]; simp)
                    clear e1 e3
                    go_wp2_with fail
                    go_ret
                    exact ⟨by rw [HE2.out]; rfl, HB.out⟩
          · have g5 : decide ((1073741824 : Int) < a.n) = true := decide_eq_true (by omega)
            have HE9 : Hid (r = false) := Lib.hid (HBAD.out (by rw [HHD.out]; rw [decide_eq_true h1, decide_eq_true h2, decide_eq_true h3, decide_eq_true h4, decide_eq_false h5]; rfl))
            go_wp2_with fail
            go_ret
            exact ⟨by rw [HE9.out]; rfl, HB.out⟩
        · have g4 : decide (a.n < (0 : Int)) = true := decide_eq_true (by omega)
          have HE9 : Hid (r = false) := Lib.hid (HBAD.out (by rw [HHD.out]; rw [decide_eq_true h1, decide_eq_true h2, decide_eq_true h3, decide_eq_false h4]; rfl))
          go_wp2_with fail
          go_ret
          exact ⟨by rw [HE9.out]; rfl, HB.out⟩
      · have g3 : ((nh : Int) != (ng : Int)) = true := bne_iff_ne.2 (by omega)
        have HE9 : Hid (r = false) := Lib.hid (HBAD.out (by rw [HHD.out]; rw [decide_eq_true h1, decide_eq_true h2, decide_eq_false h3]; rfl))
        go_wp2_with fail
        go_ret
        exact ⟨by rw [HE9.out]; rfl, HB.out⟩
    · have g2 : decide ((8 : Int) < (ng : Int)) = true := decide_eq_true (by omega)
      have HE9 : Hid (r = false) := Lib.hid (HBAD.out (by rw [HHD.out]; rw [decide_eq_true h1, decide_eq_false h2]; rfl))
      go_wp2_with fail
      go_ret
      exact ⟨by rw [HE9.out]; rfl, HB.out⟩
  · have g1 : decide ((ng : Int) < 1) = true := decide_eq_true (by omega)
    have HE9 : Hid (r = false) := Lib.hid (HBAD.out (by rw [HHD.out]; rw [decide_eq_false h1]; rfl))
    go_wp2_with fail
    go_ret
    exact ⟨by rw [HE9.out]; rfl, HB.out⟩
end Aln
end Go.Proofs.Ytgbklmncfajcgaa
