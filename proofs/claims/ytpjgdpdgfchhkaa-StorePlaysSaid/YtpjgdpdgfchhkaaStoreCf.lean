/- The batch's write. -/
import Derived.Test.YtpjgdpdgfchhkaaStoreCe
import Derived.Deep.RegionLaw
namespace Go.Proofs.Ytpjgdpdgfchhkaa
open Go.ChangeShapes Go.WideShapes Go.ChangeAt Go.RowKit
set_option linter.unusedVariables false
set_option maxRecDepth 8000
namespace So
open Gen (TellsB TellsI row_one flat_len flat_get Mine)
/-- A cell was written: the batch behind it, the cells that are left. -/
def GivesWb (w0 : World) (b : Nat) (A : Option Addr) (n c m : Nat) (dn : Bool) (g : Nat) (cs fs r : List Cl) (en : Ending) (w' : World) : Prop :=
  ∃ B d C e, en = .returned (.int .i64 0) ∧ BaAt w0 b A n c B m d dn C g e cs fs w' ∧ Row w0 C (clc r) ∧ g ≤ e
theorem row_tail {w : World} {q off : Nat} {x : Cl} {r : List Cl} (h : Row w (some ⟨q, off, none⟩) (clc (x :: r))) : Row w (some ⟨q, off + 2, none⟩) (clc r) := by
  rcases h with h | ⟨q', off', e, h⟩
  · simp [clc] at h
  · cases e
    refine .inr ⟨q, off + 2, rfl, fun j u hu => ?_⟩
    have := h (j + 2) u (by simpa [clc] using hu)
    rw [show off + 2 + j = off + (j + 2) by omega]
    exact this
theorem BaAt.push {w0 : World} {b : Nat} {A : Option Addr} {n c : Nat} {B : Option Addr} {m d : Nat} {dn : Bool} {C : Option Addr} {g e : Nat} {cs fs : List Cl} {w : World} (h : BaAt w0 b A n c B m d dn C g e cs fs w) {w1 : World} {B' : Option Addr} {d' : Nat} {fs' : List Cl}
    (hg : w.grownBy w1 (Value.slice B m d).ownBlock) (ho : w1.ownsRow w0.heap.size 43 2 (.slice B' (m + 1) d') (m + 1) (clc fs')) (hl : (Value.slice B' (m + 1) d').ownBlock = (Value.slice B m d).ownBlock ∨ (Value.slice B' (m + 1) d').ownBlock = some w.heap.size) :
    BaAt w0 b A n c B' (m + 1) d' dn C g e cs fs' (w1.setCell ⟨b, 1, none⟩ (.slice B' (m + 1) d')) := by
  have hb1 : Lies b #[.slice A n c, .slice B m d, .bool dn, .slice C g e] 60 w1 := lies_grownO h.bt hg h.nb
  have ha1 : w1.ownsRow w0.heap.size 43 2 (.slice A n c) n (clc cs) := Gen.ownsRow_block h.oa fun k hk hlt => hg.block k hlt fun e => h.ap k hk e.symm
  have hn1 : (Value.slice B' (m + 1) d').ownBlock ≠ some b := Gen.own_apart ho hb1 (by decide)
  have ha2 : (Value.slice A n c).ownBlock ≠ some b := h.na
  have hbl : Below w0.heap.size w0 w1 := h.below.grown hg h.below.size fun q hq => (h.ob.lt q hq).1
  refine ⟨by have := hb1.set 1 (.slice B' (m + 1) d'); simpa using this, own_setO ha1 _ ha2 _, own_setO ho _ hn1 _, fun k hk e => ?_, h.kb, hbl.setCell (p := ⟨b, 1, none⟩) h.kb _⟩
  rcases hl with hl | hl
  · rw [hl] at e; exact h.ap k hk e
  · rw [hl] at e
    have := (h.oa.lt k hk).2
    cases e
    omega
theorem BaAt.set_cells {w0 : World} {b : Nat} {A : Option Addr} {n c : Nat} {B : Option Addr} {m d : Nat} {dn : Bool} {C : Option Addr} {g e : Nat} {cs fs : List Cl} {w : World} (h : BaAt w0 b A n c B m d dn C g e cs fs w) (C' : Option Addr) (g' e' : Nat) : BaAt w0 b A n c B m d dn C' g' e' cs fs (w.setCell ⟨b, 3, none⟩ (.slice C' g' e')) :=
  ⟨by have := h.bt.set 3 (.slice C' g' e'); simpa using this, own_setO h.oa _ h.na _, own_setO h.ob _ h.nb _, h.ap, h.kb, h.below.setCell (p := ⟨b, 3, none⟩) h.kb _⟩
set_option maxRecDepth 100000 in
set_option maxHeartbeats 2000000 in
theorem ckWriteB_ok {w0 : World} {b : Nat} {A : Option Addr} {n c : Nat} {B : Option Addr} {m d : Nat} {dn : Bool} {C : Option Addr} {g e : Nat} {cs fs : List Cl} {w : World} {x : Cl} {r : List Cl} (h : BaAt w0 b A n c B m d dn C (g + 1) e cs fs w) (hm : m ≠ 64) (hml : m ≤ 100000) (hfs : m = fs.length) (hC : Row w0 C (clc (x :: r))) (hgr : g = r.length) (hg : g + 1 ≤ e) :
    Calls Try.prog 27 #[.pointer (some ⟨b, 0, none⟩)] w (GivesWb w0 b A n c (m + 1) dn g cs (fs ++ [x]) r) := by
  obtain ⟨q, off, hA, c0, c1⟩ := cell_row (hC.below h.below) (k := 0) (x := x) rfl
  subst hA
  simp only [Nat.zero_mul, Nat.add_zero] at c0 c1
  have HT := Lib.hid (row_tail hC)
  have AT := Lib.hid h
  have g1 : ((m : Int) == (64 : Int)) = false := ne_b (by omega)
  have HGE := Lib.hid hg
  have HFS := Lib.hid hfs
  have HGR := Lib.hid hgr
  obtain ⟨i0, hi0, hz0, hz1, hz2⟩ := Gen.info_of CInfo
  have HI0 := Lib.hid hi0; have HZ0 := Lib.hid hz0; have HZ1 := Lib.hid hz1; have HZ2 := Lib.hid hz2
  obtain ⟨xn, xb⟩ := x
  simp only at c0 c1
  have A1 := Lib.hid (h.next (below_al (o := .cells #[.string (kS xn), .string (kS xb)] 43) (below_drewOf (Below.refl w.heap.size w))))
  have HNEW : Hid (∀ j u, (clL ⟨xn, xb⟩)[j]? = some u → (w.drew.alloc (.cells #[.string (kS xn), .string (kS xb)] 43)).cell? ((⟨w.drew.heap.size, 0, none⟩ : Addr).add j) = some u) := Lib.hid (fun j u hu => by
    rw [Go.WideShapes.add_plain]
    refine (Lies.new w.drew #[.string (kS xn), .string (kS xb)] 43).cell ?_
    rw [Nat.zero_add, ← hu]
    simp)
  have x0 := h.bt.cell (j := 0) rfl; have x1 := h.bt.cell (j := 1) rfl; have x3 := h.bt.cell (j := 3) rfl
  have hpos : (0 : Int) < ((g + 1 : Nat) : Int) := by omega
  have hlt := lt_of_block h.bt
  clear h hm hfs hC hg hgr hi0 hz0 hz1 hz2
  go_enter Try.func27, Try.ntmps27
  go_wp2_with fail
  go_region_law (refine Gen.step_append_own rfl (.tmp 15) (.tmp 22) 22 rfl w0.heap.size 43 i0 _ 2 32 Try.underlying22 HI0.out HZ0.out HZ1.out HZ2.out rfl (by omega) (.slice B m d) m (clc fs) (by simp [Act.eval]) A1.out.ob ⟨w.drew.heap.size, 0, none⟩ 1 1 (clL ⟨xn, xb⟩) (by simp [Act.eval]) rfl HNEW.out (by intro u hu; exact clL_ones ⟨xn, xb⟩ u hu) (by unfold maxLen; omega) (by omega) A1.out.below.size ?_; intro v' w' hown' hgrow hloc; obtain ⟨B', d', rfl, _⟩ := own_form hown' (by omega); have HL' := Lib.hid (lies_grownO A1.out.bt hgrow A1.out.nb); have q1 := HL'.out.cell (j := 1) rfl; have f1 := HL'.out.free 1; have HP := Lib.hid (A1.out.push (fs' := fs ++ [⟨xn, xb⟩]) hgrow (by rw [clc_app, clc_one]; exact hown') hloc); clear hown' hgrow hloc)
  all_goals (
    clear x0 x1 x3 c0 c1 A1 HNEW hlt hpos g1
    go_upto_region 4 with fail
    obtain ⟨W5, hW5⟩ : ∃ W, W = World.setCell w' ⟨b, 1, none⟩ (.slice B' (m + 1) d') := ⟨_, rfl⟩
    rw [← hW5] at HP ⊢
    clear hW5 HL' q1 f1
    have x3 := HP.out.bt.cell (j := 3) rfl; have f3 := HP.out.bt.free 3
    have h1e : 1 ≤ e := by have := HGE.out; omega
    have h1g : (1 : Int) ≤ ((g + 1 : Nat) : Int) := by omega
    by_cases he : e = 1
    · have hg0 : g = 0 := by have := HGE.out; omega
      have hr0 : r = [] := List.eq_nil_of_length_eq_zero (by rw [← HGR.out, hg0])
      subst he hg0 hr0
      have HS := Lib.hid (HP.out.set_cells (some ⟨q, off, none⟩) 0 0)
      go_wp2_with fail
      go_ret
      exact ⟨B', d', _, _, rfl, HS.out, .inl rfl, Nat.le_refl _⟩
    · have HS := Lib.hid (HP.out.set_cells (some ⟨q, off + 2, none⟩) g (e - 1))
      have HGE2 : Hid (g ≤ e - 1) := Lib.hid (by have := HGE.out; omega)
      go_wp2_with fail
      go_ret
      exact ⟨B', d', _, _, rfl, HS.out, HT.out, HGE2.out⟩)
end So
end Go.Proofs.Ytpjgdpdgfchhkaa
