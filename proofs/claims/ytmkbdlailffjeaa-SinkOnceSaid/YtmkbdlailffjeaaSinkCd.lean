/- The code's Right; slices.Clone of results, of stages. -/
import Derived.Test.YtmkbdlailffjeaaSinkCc
import Derived.Lib.SliceRun
namespace Go.Proofs.Ytmkbdlailffjeaa
open Go.ChangeShapes Go.WideShapes Go.ChangeAt Go.RowKit
set_option linter.unusedVariables false
set_option maxRecDepth 8000
namespace Sk
open Gen (TellsB TellsI row_one flat_len flat_get Mine)
theorem right_as (s : Si) : rightS s = (decide (s.st.length ≤ 8) && (decide (countS s ≤ 20000) && (risingS s && (s.op.all okR && (s.st.all okG && s.out.all okR))))) := by
  rw [Bool.eq_iff_iff]
  simp only [Bool.and_eq_true, decide_eq_true_eq]
  unfold risingS
  rw [Bool.and_eq_true, decide_eq_true_eq, rise_iff]
  constructor
  · intro h
    have h := right_ri h
    exact ⟨h.t, h.c, ⟨⟨h.l1, h.r⟩, h.l0⟩, h.o, List.all_eq_true.2 fun x hx => h.e x hx, h.u⟩
  · rintro ⟨h1, h2, ⟨⟨h3, h4⟩, h5⟩, h6, h7, h8⟩
    exact Ri.right ⟨h6, h8, h5, h3, h1, h4, fun x hx => List.all_eq_true.1 h7 x hx, h2⟩
set_option maxRecDepth 100000 in
set_option maxHeartbeats 2000000 in
theorem ckRightH {w : World} {s : Si} {no ns nu : Nat} {O : Option Addr} {cO : Nat} {S : Option Addr} {cS : Nat} {U : Option Addr} {cU : Nat} {sg : List Sg} (h : RawS w s no ns nu O cO S cS U cU sg) (hl : Lim s) (r : Bool) (hr : r = rightS s) :
    Calls Try.prog 14 #[skV O no cO S ns cS s.last U nu cU] w (TellsB r w) := by
  obtain ⟨m, hm⟩ : ∃ m, m = countS s := ⟨_, rfl⟩
  obtain ⟨q1, hq1⟩ : ∃ q, q = risingS s := ⟨_, rfl⟩
  obtain ⟨q2, hq2⟩ : ∃ q, q = s.op.all okR := ⟨_, rfl⟩
  obtain ⟨q3, hq3⟩ : ∃ q, q = s.st.all okG := ⟨_, rfl⟩
  obtain ⟨q4, hq4⟩ : ∃ q, q = s.out.all okR := ⟨_, rfl⟩
  have HR : Hid (r = (decide (ns ≤ 8) && (decide (m ≤ 20000) && (q1 && (q2 && (q3 && q4)))))) := Lib.hid (by rw [hr, right_as, hm, hq1, hq2, hq3, hq4, h.lns])
  have lo : no ≤ 4611686018427387904 := by rw [h.lno]; have := hl.o; omega
  have lu : nu ≤ 4611686018427387904 := by rw [h.lnu]; have := hl.u; omega
  have ls : ns ≤ 4611686018427387904 := by rw [h.lns]; have := hl.t; omega
  have hb0 := below_al (o := .cells (skC O no cO S ns cS s.last U nu cU) 25) (Below.refl w.heap.size w)
  have HCN := Lib.hid (fun w' (hb : Below w.heap.size w w') h8 => ckCount (h.below hb) hl h8 m hm)
  have HRI := Lib.hid (fun w' (hb : Below w.heap.size w w') h8 => ckRising (h.below hb) h8 q1 hq1)
  have HRO := Lib.hid (fun w' (hb : Below w.heap.size w w') => ckAllR s.op no O cO q2 h.lno hq2 w' (h.ro.below hb) lo)
  have HRU := Lib.hid (fun w' (hb : Below w.heap.size w w') => ckAllR s.out nu U cU q4 h.lnu hq4 w' (h.ru.below hb) lu)
  have HRG := Lib.hid (fun w' (hb : Below w.heap.size w w') => ckAllG sg s.st h.map ns S cS q3 h.lns hq3 w' (h.rs.below hb) ls (fun x hx => by have := hl.e x hx; omega))
  have HB := Lib.hid hb0
  have L := Lib.hid (Lies.new w (skC O no cO S ns cS s.last U nu cU) 25)
  clear h hl hr hm hq1 hq2 hq3 hq4 lo lu ls hb0
  go_enter Try.func14, Try.ntmps14
  go_upto_region 1 with fail
  obtain ⟨tb, htb⟩ : ∃ b, b = w.heap.size := ⟨_, rfl⟩
  obtain ⟨W, hW⟩ : ∃ W, W = w.alloc (.cells (skC O no cO S ns cS s.last U nu cU) 25) := ⟨_, rfl⟩
  rw [← hW] at L HB ⊢
  rw [← htb] at L ⊢
  clear hW htb
  have x0 := L.out.cell (j := 0) rfl; have x1 := L.out.cell (j := 1) rfl; have x2 := L.out.cell (j := 2) rfl; have x3 := L.out.cell (j := 3) rfl
  by_cases h8 : ns ≤ 8
  · have g8 : decide ((ns : Int) ≤ 8) = true := decide_eq_true (by omega)
    have HR := Lib.hid (show r = (decide (m ≤ 20000) && (q1 && (q2 && (q3 && q4)))) by rw [HR.out, decide_eq_true h8, Bool.true_and])
    have HCN := Lib.hid (HCN.out _ HB.out h8)
    have HRI := Lib.hid (fun w' hb => HRI.out w' hb h8)
    clear h8
    go_wp2_with fail
    refine HCN.out.mono ?_
    rintro e w1 ⟨rfl, hb1⟩
    have HB := Lib.hid (below_next HB.out hb1)
    have L := Lib.hid (L.out.below hb1)
    clear hb1 x0 x1 x2 x3
    have x0 := L.out.cell (j := 0) rfl; have x1 := L.out.cell (j := 1) rfl; have x2 := L.out.cell (j := 2) rfl; have x3 := L.out.cell (j := 3) rfl
    by_cases hm : m ≤ 20000
    · have gm : decide ((m : Int) ≤ 20000) = true := decide_eq_true (by omega)
      have gmn : decide (m ≤ 20000) = true := decide_eq_true (by omega)
      have HR := Lib.hid (show r = (q1 && (q2 && (q3 && q4))) by rw [HR.out, gmn, Bool.true_and])
      clear hm
      go_wp2_with fail
      refine (HRI.out _ HB.out).mono ?_
      rintro e w1 ⟨rfl, hb1⟩
      have HB := Lib.hid (below_next HB.out hb1)
      have L := Lib.hid (L.out.below hb1)
      clear hb1 x0 x1 x2 x3
      have x0 := L.out.cell (j := 0) rfl; have x1 := L.out.cell (j := 1) rfl; have x2 := L.out.cell (j := 2) rfl; have x3 := L.out.cell (j := 3) rfl
      cases q1
      · have e : r = false := by rw [HR.out]; rfl
        go_wp2_with fail
        go_ret
        exact ⟨by first | rfl | (rw [e]; rfl) | rw [e], HB.out⟩
      · have HR := Lib.hid (show r = (q2 && (q3 && (q4))) by rw [HR.out, Bool.true_and])
        go_wp2_with fail
        refine (HRO.out _ HB.out).mono ?_
        rintro e w1 ⟨rfl, hb1⟩
        have HB := Lib.hid (below_next HB.out hb1)
        have L := Lib.hid (L.out.below hb1)
        clear hb1 x0 x1 x2 x3
        have x0 := L.out.cell (j := 0) rfl; have x1 := L.out.cell (j := 1) rfl; have x2 := L.out.cell (j := 2) rfl; have x3 := L.out.cell (j := 3) rfl
        cases q2
        · have e : r = false := by rw [HR.out]; rfl
          go_wp2_with fail
          go_ret
          exact ⟨by first | rfl | (rw [e]; rfl) | rw [e], HB.out⟩
        · have HR := Lib.hid (show r = (q3 && (q4)) by rw [HR.out, Bool.true_and])
          go_wp2_with fail
          refine (HRG.out _ HB.out).mono ?_
          rintro e w1 ⟨rfl, hb1⟩
          have HB := Lib.hid (below_next HB.out hb1)
          have L := Lib.hid (L.out.below hb1)
          clear hb1 x0 x1 x2 x3
          have x0 := L.out.cell (j := 0) rfl; have x1 := L.out.cell (j := 1) rfl; have x2 := L.out.cell (j := 2) rfl; have x3 := L.out.cell (j := 3) rfl
          cases q3
          · have e : r = false := by rw [HR.out]; rfl
            go_wp2_with fail
            go_ret
            exact ⟨by first | rfl | (rw [e]; rfl) | rw [e], HB.out⟩
          · have HR := Lib.hid (show r = (q4) by rw [HR.out, Bool.true_and])
            go_wp2_with fail
            refine (HRU.out _ HB.out).mono ?_
            rintro e w1 ⟨rfl, hb1⟩
            have HB := Lib.hid (below_next HB.out hb1)
            have L := Lib.hid (L.out.below hb1)
            clear hb1 x0 x1 x2 x3
            have x0 := L.out.cell (j := 0) rfl; have x1 := L.out.cell (j := 1) rfl; have x2 := L.out.cell (j := 2) rfl; have x3 := L.out.cell (j := 3) rfl
            have e : r = q4 := HR.out
            go_wp2_with fail
            go_ret
            exact ⟨by first | rfl | (rw [e]; rfl) | rw [e], HB.out⟩
    · have gm : decide ((m : Int) ≤ 20000) = false := decide_eq_false (by omega)
      have gmn : decide (m ≤ 20000) = false := decide_eq_false (by omega)
      have e : r = false := by rw [HR.out, gmn]; rfl
      clear hm
      go_wp2_with fail
      go_ret
      exact ⟨by first | rfl | (rw [e]; rfl) | rw [e], HB.out⟩
  · have g8 : decide ((ns : Int) ≤ 8) = false := decide_eq_false (by omega)
    have e : r = false := by rw [HR.out, decide_eq_false h8]; rfl
    clear h8
    go_wp2_with fail
    go_ret
    exact ⟨by first | rfl | (rw [e]; rfl) | rw [e], HB.out⟩
/-- A row of the call's own. -/
def GivesCR (n : Nat) (xs : List Re) (w : World) (e : Ending) (w' : World) : Prop := ∃ A c, e = .returned (.slice A n c) ∧ w'.ownsRow w.heap.size 29 5 (.slice A n c) n (rec_ xs) ∧ Below w.heap.size w w'
set_option maxHeartbeats 1000000 in
theorem ckCloneCR (xs : List Re) (n : Nat) (hn : n = xs.length) (A : Option Addr) (c : Nat) (w : World) (hA : Row w A (rec_ xs)) (hl : n ≤ 100000) : Calls Try.prog 34 #[.slice A n c] w (GivesCR n xs w) := by
  have hcl : (rec_ xs).length = n * 5 := by rw [lenR, hn]
  rcases A with _ | ⟨b, off, sp⟩
  · have e : xs = [] := by
      rcases hA with h | ⟨_, _, h, _⟩
      · rw [h] at hcl; exact List.eq_nil_of_length_eq_zero (by simp at hcl; omega)
      · cases h
    subst e
    have hn0 : n = 0 := hn
    subst hn0
    clear hA hcl hn hl
    have q : ∀ (w : World) (n c n' c' : Nat), (binOp .eql 22 (.slice none n c) (.slice none n' c')).run Try.prog w = .ok (.bool true) w := fun w n c n' c' => Lib.run_eql_slice_nil w _ _ none n c n' c' Try.underlying22
    go_enter Try.func34, Try.ntmps34
    go_wp2_with fail
    go_ret
    exact ⟨none, 0, rfl, own_none, Below.refl _ _⟩
  · obtain ⟨i0, hi0, hz0, hz1, hz2⟩ := info_partsK InfoR
    have HI0 := Lib.hid hi0; have HZ0 := Lib.hid hz0; have HZ1 := Lib.hid hz1; have HZ2 := Lib.hid hz2
    have HCL := Lib.hid hcl
    have q : ∀ (w : World) (n c n' c' : Nat), (binOp .eql 22 (.slice (some ⟨b, off, sp⟩) n c) (.slice none n' c')).run Try.prog w = .ok (.bool false) w := fun w n c n' c' => Lib.run_eql_slice_nil w _ _ (some _) n c n' c' Try.underlying22
    have hcells : ∀ j u, (rec_ xs)[j]? = some u → (w.alloc (.cells #[] 29)).cell? ((⟨b, off, sp⟩ : Addr).add j) = some u := by
      rcases hA with hA | ⟨b', off', e, hA⟩
      · intro j u hu; rw [hA] at hu; cases hu
      · cases e
        intro j u hu
        rw [Go.WideShapes.add_plain]
        exact Gen.cell_below (hA j u hu) (below_al (Below.refl _ _))
    have HCE := Lib.hid hcells
    clear hA hi0 hz0 hz1 hz2 hn hcl hcells
    go_enter Try.func34, Try.ntmps34
    go_wp2_with (at_builtin; refine hold_mk ?_)
    refine hold_out ?_
    refine wpList_append_own_at _ rfl _ _ 22 rfl w.heap.size 29 i0 _ 5 48 Try.underlying22 HI0.out HZ0.out HZ1.out HZ2.out rfl (by omega) _ 0 [] rfl
      (own_new (Nat.le_refl _)) ⟨b, off, sp⟩ n c (rec_ xs) rfl HCL.out HCE.out (onesR xs) (by unfold maxLen; omega) (by omega) (by simp) ?_
    intro v2 w2 hown hg _ hat
    have HOW := Lib.hid hown
    have HB := Lib.hid ((below_al (o := .cells #[] 29) (Below.refl w.heap.size w)).grown hg (by simp) (fun q hq => by cases hq; simp))
    clear hown hg hat
    go_wp2_with fail
    go_ret
    have ho := HOW.out
    rw [Nat.zero_add, List.nil_append] at ho
    obtain ⟨A', c', e', _⟩ := own_form ho (by omega)
    subst e'
    exact ⟨A', c', rfl, ho, HB.out⟩
/-- A row of the call's own. -/
def GivesCG (n : Nat) (xs : List Sg) (w : World) (e : Ending) (w' : World) : Prop := ∃ A c, e = .returned (.slice A n c) ∧ w'.ownsRow w.heap.size 50 2 (.slice A n c) n (sgc xs) ∧ Below w.heap.size w w'
set_option maxHeartbeats 1000000 in
theorem ckCloneCG (xs : List Sg) (n : Nat) (hn : n = xs.length) (A : Option Addr) (c : Nat) (w : World) (hA : Row w A (sgc xs)) (hl : n ≤ 100000) : Calls Try.prog 35 #[.slice A n c] w (GivesCG n xs w) := by
  have hcl : (sgc xs).length = n * 2 := by rw [lenG, hn]
  rcases A with _ | ⟨b, off, sp⟩
  · have e : xs = [] := by
      rcases hA with h | ⟨_, _, h, _⟩
      · rw [h] at hcl; exact List.eq_nil_of_length_eq_zero (by simp at hcl; omega)
      · cases h
    subst e
    have hn0 : n = 0 := hn
    subst hn0
    clear hA hcl hn hl
    have q : ∀ (w : World) (n c n' c' : Nat), (binOp .eql 23 (.slice none n c) (.slice none n' c')).run Try.prog w = .ok (.bool true) w := fun w n c n' c' => Lib.run_eql_slice_nil w _ _ none n c n' c' Try.underlying23
    go_enter Try.func35, Try.ntmps35
    go_wp2_with fail
    go_ret
    exact ⟨none, 0, rfl, own_none, Below.refl _ _⟩
  · obtain ⟨i0, hi0, hz0, hz1, hz2⟩ := info_partsK InfoG
    have HI0 := Lib.hid hi0; have HZ0 := Lib.hid hz0; have HZ1 := Lib.hid hz1; have HZ2 := Lib.hid hz2
    have HCL := Lib.hid hcl
    have q : ∀ (w : World) (n c n' c' : Nat), (binOp .eql 23 (.slice (some ⟨b, off, sp⟩) n c) (.slice none n' c')).run Try.prog w = .ok (.bool false) w := fun w n c n' c' => Lib.run_eql_slice_nil w _ _ (some _) n c n' c' Try.underlying23
    have hcells : ∀ j u, (sgc xs)[j]? = some u → (w.alloc (.cells #[] 50)).cell? ((⟨b, off, sp⟩ : Addr).add j) = some u := by
      rcases hA with hA | ⟨b', off', e, hA⟩
      · intro j u hu; rw [hA] at hu; cases hu
      · cases e
        intro j u hu
        rw [Go.WideShapes.add_plain]
        exact Gen.cell_below (hA j u hu) (below_al (Below.refl _ _))
    have HCE := Lib.hid hcells
    clear hA hi0 hz0 hz1 hz2 hn hcl hcells
    go_enter Try.func35, Try.ntmps35
    go_wp2_with (at_builtin; refine hold_mk ?_)
    refine hold_out ?_
    refine wpList_append_own_at _ rfl _ _ 23 rfl w.heap.size 50 i0 _ 2 32 Try.underlying23 HI0.out HZ0.out HZ1.out HZ2.out rfl (by omega) _ 0 [] rfl
      (own_new (Nat.le_refl _)) ⟨b, off, sp⟩ n c (sgc xs) rfl HCL.out HCE.out (onesG xs) (by unfold maxLen; omega) (by omega) (by simp) ?_
    intro v2 w2 hown hg _ hat
    have HOW := Lib.hid hown
    have HB := Lib.hid ((below_al (o := .cells #[] 50) (Below.refl w.heap.size w)).grown hg (by simp) (fun q hq => by cases hq; simp))
    clear hown hg hat
    go_wp2_with fail
    go_ret
    have ho := HOW.out
    rw [Nat.zero_add, List.nil_append] at ho
    obtain ⟨A', c', e', _⟩ := own_form ho (by omega)
    subst e'
    exact ⟨A', c', rfl, ho, HB.out⟩
end Sk
end Go.Proofs.Ytmkbdlailffjeaa
