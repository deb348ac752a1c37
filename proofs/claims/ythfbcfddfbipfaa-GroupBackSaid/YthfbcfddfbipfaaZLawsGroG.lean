/- The walk of the law GroupBack. -/
import Derived.Test.YthfbcfddfbipfaaZLawsGroF
namespace Go.Proofs.Ythfbcfddfbipfaa
open Go.ChangeShapes Go.WideShapes Go.ChangeAt Go.RowKit
open Itm Vlq
set_option linter.unusedVariables false
set_option maxRecDepth 8000
namespace Grp
open Pan (Pn Pl)
theorem pns_len : ∀ {ps : List Pn}, (∀ x ∈ ps, Pan.may x = true ∧ FitP x) → (ps.flatMap pnB).length ≤ ps.length * 76
  | [], _ => by simp
  | x :: r, h => by
    have h1 := pns_len (ps := r) fun y hy => h y (List.mem_cons_of_mem _ hy)
    have h2 := pnB_len (h x List.mem_cons_self).1 (h x List.mem_cons_self).2
    rw [List.flatMap_cons, List.length_append, List.length_cons]
    omega
theorem gpB_len {g : Gp} (hr : right g = true) (hf : ∀ x ∈ g.ps, FitP x) : (gpB g).length ≤ 200000 := by
  obtain ⟨⟨r1, r2, r3, r4⟩, r5, r6⟩ := (right_iff g).1 hr
  obtain ⟨p1, p2, _⟩ := (Pan.right_iff _).1 r5
  have h := pns_len (ps := g.ps) fun x hx => ⟨p2 x hx, hf x hx⟩
  have e1 := enc10 g.no.toNat (by omega); have e2 := enc10 g.mark.toNat (by omega); have e3 := enc10 g.ps.length (by omega)
  unfold gpB
  simp only [List.length_append]
  omega
theorem none_row (w : World) : Row w none (pc []) := Row.nil
/-- Put of a group that may be, its bytes as a string. -/
theorem putS {g : Gp} {t : ByteArray} (hr : right g = true) (hf : ∀ x ∈ g.ps, FitP x) (ht : sl t = gpB g) (A : Option Addr) (c : Nat) (w : World) (hA : Row w A (pc g.ps)) :
    Calls Try.prog 22 #[gpV g.no g.mark (.slice A g.ps.length c)] w fun e w' => e = .returned (.tuple #[.string t, .int .i64 0]) ∧ Below w.heap.size w w' := by
  have e : t = ⟨(gpB g).toArray⟩ := by rw [← ht]
  rw [e]
  exact gpPutOk g A c w hA hr hf
set_option maxRecDepth 100000 in
set_option maxHeartbeats 4000000 in
theorem backRO (no mark : Int) (xs : List Pn) (s : ByteArray) (A : Option Addr) (c : Nat) (w : World) (hA : Row w A (pc xs)) (hl : xs.length ≤ c) (hc : c ≤ maxLen) (hf : ∀ x ∈ xs, FitP x) (hs : s.size ≤ 9223372036854775807)
    (hr : right ⟨no, mark, fewL xs⟩ = true) (hg : (getG s).2 = 0) :
    Calls Try.prog 6 #[gpV no mark (.slice A xs.length c), .string s] w (TellsB true w) := by
  have HF := Lib.hid (fun w' (hb : Below w.heap.size w w') => lawFew no mark xs A c w' (hA.below hb) hl hc)
  have hfy := fewL_fits hf
  obtain ⟨ys, hys⟩ : ∃ ys, ys = fewL xs := ⟨_, rfl⟩
  rw [← hys] at HF hfy hr
  have B0 := Lib.hid (Gb.start w no mark (.slice A xs.length c))
  obtain ⟨t, ht⟩ : ∃ t : ByteArray, t = ⟨(gpB ⟨no, mark, ys⟩).toArray⟩ := ⟨_, rfl⟩
  have hsl : sl t = gpB ⟨no, mark, ys⟩ := by rw [ht]
  have htn : t.size ≤ 9223372036854775807 := by
    have h := gpB_len hr hfy
    rw [ht, (key_bytes _).2]; omega
  have hgb := getG_back hr hfy hsl
  have HP := Lib.hid (fun A1 c1 w' (h : Row w' A1 (pc ys)) => putS (g := ⟨no, mark, ys⟩) hr hfy hsl A1 c1 w' h)
  have HC1 := Lib.hid (fun w' => show Calls Try.prog 23 #[.string t] w' (GivesGE3 no mark ys 0 w') from by
    have h := gpGet t htn w'
    rw [hgb] at h; exact h)
  obtain ⟨⟨⟨no1, mark1, zs⟩, er⟩, ho⟩ : ∃ o, o = getG s := ⟨_, rfl⟩
  have her : er = 0 := by rw [← ho] at hg; exact hg
  subst her
  obtain ⟨o1, o2, o3⟩ := getG_once ho.symm
  have HC := Lib.hid (fun w' => show Calls Try.prog 23 #[.string s] w' (GivesGE3 no1 mark1 zs 0 w') from by
    have h := gpGet s hs w'
    rw [← ho] at h; exact h)
  have HP2 := Lib.hid (fun A1 c1 w' (h : Row w' A1 (pc zs)) => putS (g := ⟨no1, mark1, zs⟩) o1 o2 o3 A1 c1 w' h)
  have b5 : (s.toList == s.toList) = true := by simp
  clear hA hl hc hys hf hs hr ht hsl htn hgb hfy hg ho o1 o2 o3
  go_enter Try.func6, Try.ntmps6
  go_wp2_with fail
  refine (HF.out _ B0.out.below).mono ?_
  rintro e w1 ⟨A1, c1, rfl, l1, m1, R1, hb1⟩
  have B1 := Lib.hid (B0.out.next hb1)
  have L1 := Lib.hid (show ys.length ≤ 9223372036854775807 by unfold maxLen at m1; omega)
  have R1' := Lib.hid (row_set3 R1 B1.out.gp (pc_big _) no mark (.slice A1 ys.length c1))
  have B2 := Lib.hid (B1.out.set3 no mark (.slice A1 ys.length c1))
  obtain ⟨g0, g1, g2⟩ := B1.out.gps
  have f0 := B1.out.gp.free 0; have f1 := B1.out.gp.free 1; have f2 := B1.out.gp.free 2
  clear hb1 R1 l1 m1
  go_wp2_with fail
  refine (HP.out A1 c1 _ R1'.out).mono ?_
  rintro e w3 ⟨rfl, hb3⟩
  have B3 := Lib.hid (B2.out.next hb3)
  have R3' := Lib.hid (R1'.out.below hb3)
  clear g0 g1 g2 f0 f1 f2 hb3
  go_wp2_with fail
  refine (HC1.out _).mono ?_
  rintro e w4 ⟨A3, c3, rfl, l3, m3, R3, hb4⟩
  have G4 := Lib.hid (GpAt.new w4 no mark (.slice A3 ys.length c3))
  have B4 := Lib.hid ((B3.out.next hb4).next (al_below w4 (.cells (gpC no mark (.slice A3 ys.length c3)) 26)))
  have R4 := Lib.hid ((R3'.out.below hb4).below (al_below w4 (.cells (gpC no mark (.slice A3 ys.length c3)) 26)))
  have R4z := Lib.hid (R3.below (al_below w4 (.cells (gpC no mark (.slice A3 ys.length c3)) 26)))
  have HL := Lib.hid (rfLike no mark ys L1.out)
  have hq : w.heap.size < w4.heap.size := by have := lt_of_block B3.out.gp; have := hb4.size; omega
  obtain ⟨g0, g1, g2⟩ := (B3.out.next hb4).gps
  clear hb4 l3 m3 R3
  go_wp2_with fail
  refine (HL.out _ _ _ _ _ R4.out R4z.out).mono ?_
  rintro e w5 ⟨rfl, hb5⟩
  have B5 := Lib.hid (B4.out.next hb5).below
  clear hb5 g0 g1 g2 hq
  go_wp2_with fail
  refine (HC.out _).mono ?_
  rintro e w6 ⟨A6, c6, rfl, l6, m6, R6, hb6⟩
  have HR6 := Lib.hid (R6.below (al_below w6 (.cells (gpC no1 mark1 (.slice A6 zs.length c6)) 26)))
  have B6 := Lib.hid (below_next (below_next B5.out hb6) (al_below w6 (.cells (gpC no1 mark1 (.slice A6 zs.length c6)) 26)))
  clear hb6 l6 m6 R6
  go_wp2_with fail
  refine (HP2.out _ _ _ HR6.out).mono ?_
  rintro e w7 ⟨rfl, hb7⟩
  have B7 := Lib.hid (below_next B6.out hb7)
  clear hb7
  go_wp2_with fail
  refine (lawAliveG _).mono ?_
  rintro e w8 ⟨rfl, hb8⟩
  have B8 := Lib.hid (below_next B7.out hb8)
  clear hb8
  go_wp2_with fail
  go_ret
  exact ⟨rfl, B8.out⟩
set_option maxRecDepth 100000 in
set_option maxHeartbeats 4000000 in
theorem backRB (no mark : Int) (xs : List Pn) (s : ByteArray) (A : Option Addr) (c : Nat) (w : World) (hA : Row w A (pc xs)) (hl : xs.length ≤ c) (hc : c ≤ maxLen) (hf : ∀ x ∈ xs, FitP x) (hs : s.size ≤ 9223372036854775807)
    (hr : right ⟨no, mark, fewL xs⟩ = true) (hg : (getG s).2 ≠ 0) :
    Calls Try.prog 6 #[gpV no mark (.slice A xs.length c), .string s] w (TellsB true w) := by
  have HF := Lib.hid (fun w' (hb : Below w.heap.size w w') => lawFew no mark xs A c w' (hA.below hb) hl hc)
  have hfy := fewL_fits hf
  obtain ⟨ys, hys⟩ : ∃ ys, ys = fewL xs := ⟨_, rfl⟩
  rw [← hys] at HF hfy hr
  have B0 := Lib.hid (Gb.start w no mark (.slice A xs.length c))
  obtain ⟨t, ht⟩ : ∃ t : ByteArray, t = ⟨(gpB ⟨no, mark, ys⟩).toArray⟩ := ⟨_, rfl⟩
  have hsl : sl t = gpB ⟨no, mark, ys⟩ := by rw [ht]
  have htn : t.size ≤ 9223372036854775807 := by
    have h := gpB_len hr hfy
    rw [ht, (key_bytes _).2]; omega
  have hgb := getG_back hr hfy hsl
  have HP := Lib.hid (fun A1 c1 w' (h : Row w' A1 (pc ys)) => putS (g := ⟨no, mark, ys⟩) hr hfy hsl A1 c1 w' h)
  have HC1 := Lib.hid (fun w' => show Calls Try.prog 23 #[.string t] w' (GivesGE3 no mark ys 0 w') from by
    have h := gpGet t htn w'
    rw [hgb] at h; exact h)
  obtain ⟨er, her⟩ : ∃ er, er = (getG s).2 := ⟨_, rfl⟩
  have ho : getG s = (none_, er) := by rw [her, ← getG_bad hg]
  rw [← her] at hg
  have HC := Lib.hid (fun w' => show Calls Try.prog 23 #[.string s] w' (GivesGE3 0 0 [] (er : Nat) w') from by
    have h := gpGet s hs w'
    rw [ho] at h; exact h)
  have b4 := nb (show ((er : Nat) : Int) ≠ 0 by omega)
  have HLN := Lib.hid (rfLike 0 0 [] (by simp))
  clear hA hl hc hys hf hs hr ht hsl htn hgb hfy hg ho her
  go_enter Try.func6, Try.ntmps6
  go_wp2_with fail
  refine (HF.out _ B0.out.below).mono ?_
  rintro e w1 ⟨A1, c1, rfl, l1, m1, R1, hb1⟩
  have B1 := Lib.hid (B0.out.next hb1)
  have L1 := Lib.hid (show ys.length ≤ 9223372036854775807 by unfold maxLen at m1; omega)
  have R1' := Lib.hid (row_set3 R1 B1.out.gp (pc_big _) no mark (.slice A1 ys.length c1))
  have B2 := Lib.hid (B1.out.set3 no mark (.slice A1 ys.length c1))
  obtain ⟨g0, g1, g2⟩ := B1.out.gps
  have f0 := B1.out.gp.free 0; have f1 := B1.out.gp.free 1; have f2 := B1.out.gp.free 2
  clear hb1 R1 l1 m1
  go_wp2_with fail
  refine (HP.out A1 c1 _ R1'.out).mono ?_
  rintro e w3 ⟨rfl, hb3⟩
  have B3 := Lib.hid (B2.out.next hb3)
  have R3' := Lib.hid (R1'.out.below hb3)
  clear g0 g1 g2 f0 f1 f2 hb3
  go_wp2_with fail
  refine (HC1.out _).mono ?_
  rintro e w4 ⟨A3, c3, rfl, l3, m3, R3, hb4⟩
  have G4 := Lib.hid (GpAt.new w4 no mark (.slice A3 ys.length c3))
  have B4 := Lib.hid ((B3.out.next hb4).next (al_below w4 (.cells (gpC no mark (.slice A3 ys.length c3)) 26)))
  have R4 := Lib.hid ((R3'.out.below hb4).below (al_below w4 (.cells (gpC no mark (.slice A3 ys.length c3)) 26)))
  have R4z := Lib.hid (R3.below (al_below w4 (.cells (gpC no mark (.slice A3 ys.length c3)) 26)))
  have HL := Lib.hid (rfLike no mark ys L1.out)
  have hq : w.heap.size < w4.heap.size := by have := lt_of_block B3.out.gp; have := hb4.size; omega
  obtain ⟨g0, g1, g2⟩ := (B3.out.next hb4).gps
  clear hb4 l3 m3 R3
  go_wp2_with fail
  refine (HL.out _ _ _ _ _ R4.out R4z.out).mono ?_
  rintro e w5 ⟨rfl, hb5⟩
  have B5 := Lib.hid (B4.out.next hb5).below
  clear hb5 g0 g1 g2 hq
  go_wp2_with fail
  refine (HC.out _).mono ?_
  rintro e w6 ⟨A6, c6, rfl, l6, m6, R6, hb6⟩
  have HR6 := Lib.hid (R6.below (al_below w6 (.cells (gpC 0 0 (.slice A6 0 c6)) 26)))
  have G6 := Lib.hid (GpAt.new w6 0 0 (.slice A6 0 c6))
  have B6 := Lib.hid (below_next (below_next B5.out hb6) (al_below w6 (.cells (gpC 0 0 (.slice A6 0 c6)) 26)))
  clear hb6 l6 m6 R6
  go_wp2_with fail
  refine (lawAliveG _).mono ?_
  rintro e w7 ⟨rfl, hb7⟩
  have B7 := Lib.hid (below_next B6.out hb7)
  have HR7 := Lib.hid (HR6.out.below hb7)
  obtain ⟨x0, x1, x2⟩ := (G6.out.next hb7).cells
  clear hb7
  go_wp2_with fail
  refine (HLN.out _ _ _ _ _ HR7.out (none_row _)).mono ?_
  rintro e w8 ⟨rfl, hb8⟩
  have B8 := Lib.hid (below_next B7.out hb8)
  clear hb8 x0 x1 x2
  go_wp2_with fail
  go_ret
  exact ⟨rfl, B8.out⟩
set_option maxRecDepth 100000 in
set_option maxHeartbeats 4000000 in
theorem backBO (no mark : Int) (xs : List Pn) (s : ByteArray) (A : Option Addr) (c : Nat) (w : World) (hA : Row w A (pc xs)) (hl : xs.length ≤ c) (hc : c ≤ maxLen) (hf : ∀ x ∈ xs, FitP x) (hs : s.size ≤ 9223372036854775807)
    (hr : right ⟨no, mark, fewL xs⟩ = false) (hg : (getG s).2 = 0) :
    Calls Try.prog 6 #[gpV no mark (.slice A xs.length c), .string s] w (TellsB true w) := by
  have HF := Lib.hid (fun w' (hb : Below w.heap.size w w') => lawFew no mark xs A c w' (hA.below hb) hl hc)
  have hfy := fewL_fits hf
  obtain ⟨ys, hys⟩ : ∃ ys, ys = fewL xs := ⟨_, rfl⟩
  rw [← hys] at HF hfy hr
  have B0 := Lib.hid (Gb.start w no mark (.slice A xs.length c))
  have HP := Lib.hid (fun A1 c1 w' (h : Row w' A1 (pc ys)) (h1 : ys.length ≤ 9223372036854775807) => show Calls Try.prog 22 #[gpV no mark (.slice A1 ys.length c1)] w' (IsStrErr [] 1 w') from gpPutBad ⟨no, mark, ys⟩ A1 c1 w' h h1 hr)
  obtain ⟨⟨⟨no1, mark1, zs⟩, er⟩, ho⟩ : ∃ o, o = getG s := ⟨_, rfl⟩
  have her : er = 0 := by rw [← ho] at hg; exact hg
  subst her
  obtain ⟨o1, o2, o3⟩ := getG_once ho.symm
  have HC := Lib.hid (fun w' => show Calls Try.prog 23 #[.string s] w' (GivesGE3 no1 mark1 zs 0 w') from by
    have h := gpGet s hs w'
    rw [← ho] at h; exact h)
  have HP2 := Lib.hid (fun A1 c1 w' (h : Row w' A1 (pc zs)) => putS (g := ⟨no1, mark1, zs⟩) o1 o2 o3 A1 c1 w' h)
  have b5 : (s.toList == s.toList) = true := by simp
  clear hA hl hc hys hf hs hr hfy hg ho o1 o2 o3
  go_enter Try.func6, Try.ntmps6
  go_wp2_with fail
  refine (HF.out _ B0.out.below).mono ?_
  rintro e w1 ⟨A1, c1, rfl, l1, m1, R1, hb1⟩
  have B1 := Lib.hid (B0.out.next hb1)
  have L1 := Lib.hid (show ys.length ≤ 9223372036854775807 by unfold maxLen at m1; omega)
  have R1' := Lib.hid (row_set3 R1 B1.out.gp (pc_big _) no mark (.slice A1 ys.length c1))
  have B2 := Lib.hid (B1.out.set3 no mark (.slice A1 ys.length c1))
  obtain ⟨g0, g1, g2⟩ := B1.out.gps
  have f0 := B1.out.gp.free 0; have f1 := B1.out.gp.free 1; have f2 := B1.out.gp.free 2
  clear hb1 R1 l1 m1
  go_wp2_with fail
  refine (HP.out A1 c1 _ R1'.out L1.out).mono ?_
  rintro e w5 ⟨rfl, hb3⟩
  have B5 := Lib.hid (B2.out.next hb3).below
  clear g0 g1 g2 f0 f1 f2 hb3
  go_wp2_with fail
  refine (HC.out _).mono ?_
  rintro e w6 ⟨A6, c6, rfl, l6, m6, R6, hb6⟩
  have HR6 := Lib.hid (R6.below (al_below w6 (.cells (gpC no1 mark1 (.slice A6 zs.length c6)) 26)))
  have B6 := Lib.hid (below_next (below_next B5.out hb6) (al_below w6 (.cells (gpC no1 mark1 (.slice A6 zs.length c6)) 26)))
  clear hb6 l6 m6 R6
  go_wp2_with fail
  refine (HP2.out _ _ _ HR6.out).mono ?_
  rintro e w7 ⟨rfl, hb7⟩
  have B7 := Lib.hid (below_next B6.out hb7)
  clear hb7
  go_wp2_with fail
  refine (lawAliveG _).mono ?_
  rintro e w8 ⟨rfl, hb8⟩
  have B8 := Lib.hid (below_next B7.out hb8)
  clear hb8
  go_wp2_with fail
  go_ret
  exact ⟨rfl, B8.out⟩
set_option maxRecDepth 100000 in
set_option maxHeartbeats 4000000 in
theorem backBB (no mark : Int) (xs : List Pn) (s : ByteArray) (A : Option Addr) (c : Nat) (w : World) (hA : Row w A (pc xs)) (hl : xs.length ≤ c) (hc : c ≤ maxLen) (hf : ∀ x ∈ xs, FitP x) (hs : s.size ≤ 9223372036854775807)
    (hr : right ⟨no, mark, fewL xs⟩ = false) (hg : (getG s).2 ≠ 0) :
    Calls Try.prog 6 #[gpV no mark (.slice A xs.length c), .string s] w (TellsB true w) := by
  have HF := Lib.hid (fun w' (hb : Below w.heap.size w w') => lawFew no mark xs A c w' (hA.below hb) hl hc)
  have hfy := fewL_fits hf
  obtain ⟨ys, hys⟩ : ∃ ys, ys = fewL xs := ⟨_, rfl⟩
  rw [← hys] at HF hfy hr
  have B0 := Lib.hid (Gb.start w no mark (.slice A xs.length c))
  have HP := Lib.hid (fun A1 c1 w' (h : Row w' A1 (pc ys)) (h1 : ys.length ≤ 9223372036854775807) => show Calls Try.prog 22 #[gpV no mark (.slice A1 ys.length c1)] w' (IsStrErr [] 1 w') from gpPutBad ⟨no, mark, ys⟩ A1 c1 w' h h1 hr)
  obtain ⟨er, her⟩ : ∃ er, er = (getG s).2 := ⟨_, rfl⟩
  have ho : getG s = (none_, er) := by rw [her, ← getG_bad hg]
  rw [← her] at hg
  have HC := Lib.hid (fun w' => show Calls Try.prog 23 #[.string s] w' (GivesGE3 0 0 [] (er : Nat) w') from by
    have h := gpGet s hs w'
    rw [ho] at h; exact h)
  have b4 := nb (show ((er : Nat) : Int) ≠ 0 by omega)
  have HLN := Lib.hid (rfLike 0 0 [] (by simp))
  clear hA hl hc hys hf hs hr hfy hg ho her
  go_enter Try.func6, Try.ntmps6
  go_wp2_with fail
  refine (HF.out _ B0.out.below).mono ?_
  rintro e w1 ⟨A1, c1, rfl, l1, m1, R1, hb1⟩
  have B1 := Lib.hid (B0.out.next hb1)
  have L1 := Lib.hid (show ys.length ≤ 9223372036854775807 by unfold maxLen at m1; omega)
  have R1' := Lib.hid (row_set3 R1 B1.out.gp (pc_big _) no mark (.slice A1 ys.length c1))
  have B2 := Lib.hid (B1.out.set3 no mark (.slice A1 ys.length c1))
  obtain ⟨g0, g1, g2⟩ := B1.out.gps
  have f0 := B1.out.gp.free 0; have f1 := B1.out.gp.free 1; have f2 := B1.out.gp.free 2
  clear hb1 R1 l1 m1
  go_wp2_with fail
  refine (HP.out A1 c1 _ R1'.out L1.out).mono ?_
  rintro e w5 ⟨rfl, hb3⟩
  have B5 := Lib.hid (B2.out.next hb3).below
  clear g0 g1 g2 f0 f1 f2 hb3
  go_wp2_with fail
  refine (HC.out _).mono ?_
  rintro e w6 ⟨A6, c6, rfl, l6, m6, R6, hb6⟩
  have HR6 := Lib.hid (R6.below (al_below w6 (.cells (gpC 0 0 (.slice A6 0 c6)) 26)))
  have G6 := Lib.hid (GpAt.new w6 0 0 (.slice A6 0 c6))
  have B6 := Lib.hid (below_next (below_next B5.out hb6) (al_below w6 (.cells (gpC 0 0 (.slice A6 0 c6)) 26)))
  clear hb6 l6 m6 R6
  go_wp2_with fail
  refine (lawAliveG _).mono ?_
  rintro e w7 ⟨rfl, hb7⟩
  have B7 := Lib.hid (below_next B6.out hb7)
  have HR7 := Lib.hid (HR6.out.below hb7)
  obtain ⟨x0, x1, x2⟩ := (G6.out.next hb7).cells
  clear hb7
  go_wp2_with fail
  refine (HLN.out _ _ _ _ _ HR7.out (none_row _)).mono ?_
  rintro e w8 ⟨rfl, hb8⟩
  have B8 := Lib.hid (below_next B7.out hb8)
  clear hb8 x0 x1 x2
  go_wp2_with fail
  go_ret
  exact ⟨rfl, B8.out⟩
theorem lawGroupBack : Lift.Owes 6 [26, 9] := by
  intro H enc W base args ds ps hval hA _ hw
  obtain ⟨v0, v1, d0, d1, p0, p1, rfl, rfl, rfl, h0, h1⟩ := trodAll_two hA
  obtain ⟨no, mark, xs, A, c, rfl, hl, hc, hrow, hf⟩ := openGroupF (hval 0 _ v0 rfl rfl) h0
  obtain ⟨s, rfl, rfl, rfl, ws⟩ := ChangeMaps.open_string Try.underlying9 (hval 1 _ v1 rfl rfl) h1
  have hs : s.size ≤ 9223372036854775807 := by unfold maxLen at ws; omega
  rcases Bool.eq_false_or_eq_true (right ⟨no, mark, fewL xs⟩) with hr | hr
  · by_cases hg : (getG s).2 = 0
    · exact backRO no mark xs s A c W hrow hl hc hf hs hr hg
    · exact backRB no mark xs s A c W hrow hl hc hf hs hr hg
  · by_cases hg : (getG s).2 = 0
    · exact backBO no mark xs s A c W hrow hl hc hf hs hr hg
    · exact backBB no mark xs s A c W hrow hl hc hf hs hr hg
end Grp
theorem lawGroupBack : Lift.Owes 6 [26, 9] := Grp.lawGroupBack
end Go.Proofs.Ythfbcfddfbipfaa
