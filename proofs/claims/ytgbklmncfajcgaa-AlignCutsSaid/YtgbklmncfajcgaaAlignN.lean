/- The reference's New of an aligner. -/
import Derived.Test.YtgbklmncfajcgaaAlignW
namespace Go.Proofs.Ytgbklmncfajcgaa
open Go.ChangeShapes Go.WideShapes Go.ChangeAt Go.RowKit
set_option linter.unusedVariables false
set_option maxRecDepth 8000
namespace Aln
open Gen (TellsB row_one flat_len flat_get)
open Itm
def zA : Al := ⟨0, [], []⟩
def anew (n : Nat) : Al := ⟨0, List.replicate n false, List.replicate n []⟩
def newO (n : Int) : Al × Int := if n < 1 ∨ 8 < n then (zA, 1) else (anew n.toNat, 0)
abbrev noHd : Hd := (none, 0, [])
/-- An aligner, an error. -/
def GivesA (o : Al) (ng : Nat) (z : Int) (w : World) (e : Ending) (w' : World) : Prop :=
  ∃ (G : Option Addr) (cG : Nat) (H : Option Addr) (cH : Nat) (hs : List Hd), e = .returned (.tuple #[alV o.n G ng cG H ng cH, .int .i64 z]) ∧ Row w' G (gcs o.got) ∧ HAt w' H hs ∧ hs.map (fun x => x.2.2) = o.held ∧ ng ≤ cG ∧ ng ≤ cH ∧ (∀ x ∈ hs, x.2.2.length ≤ x.2.1) ∧ Below w.heap.size w w'
/-- An aligner, an error; its rows are the call's own. -/
def GivesNO (o : Al) (ng : Nat) (z : Int) (w : World) (e : Ending) (w' : World) : Prop :=
  ∃ (G : Option Addr) (cG : Nat) (H : Option Addr) (cH : Nat) (hs : List Hd), e = .returned (.tuple #[alV o.n G ng cG H ng cH, .int .i64 z]) ∧ OwnA w' w.heap.size o.got hs ng G cG H cH ∧ hs.map (fun x => x.2.2) = o.held ∧ Below w.heap.size w w'
theorem new_ret {w wF : World} {R ng : Nat} {o : Al} {z : Int} {G : Option Addr} {cG : Nat} {H : Option Addr} {cH : Nat} {hs : List Hd} {act : Act} (ht : act.tmps.getD 2 undef = .pointer (some ⟨R, 0, none⟩)) (he : act.tmps.getD 3 undef = .int .i64 z) (hd : act.defers = [])
    (hL : Lies R (alC o.n G ng cG H ng cH) 25 wF) (h1 : OwnA wF w.heap.size o.got hs ng G cG H cH) (h3 : hs.map (fun x => x.2.2) = o.held) (hB : Below w.heap.size w wF) :
    bodyPost Try.prog Try.f11 (GivesNO o ng z w) .ret act wF := by
  have c0 := hL.cell (j := 0) rfl
  have c1 := hL.cell (j := 1) rfl
  have c2 := hL.cell (j := 2) rfl
  refine bodyPost_ret (v := .tuple #[alV o.n G ng cG H ng cH, .int .i64 z]) ?_ hd ⟨G, cG, H, cH, hs, rfl, h1, h3, hB⟩
  have ht2 : act.tmps[2]?.getD undef = .pointer (some ⟨R, 0, none⟩) := by simpa using ht
  have he2 : act.tmps[3]?.getD undef = .int .i64 z := by simpa using he
  simp [results, Try.results11, go_sem, ht2, he2, c0, c1, c2]
def set3A (w : World) (b : Nat) (v0 v1 v2 : Value) : World := ((w.setCell ⟨b, 0, none⟩ v0).setCell ⟨b, 1, none⟩ v1).setCell ⟨b, 2, none⟩ v2
theorem lies_set3A {w : World} {b : Nat} {u0 u1 u2 : Value} {T : TypeId} (h : Lies b #[u0, u1, u2] T w) (v0 v1 v2 : Value) : Lies b #[v0, v1, v2] T (set3A w b v0 v1 v2) := by
  have := ((h.set 0 v0).set 1 v1).set 2 v2
  unfold set3A
  simpa using this
theorem below_set3A {w0 w : World} {b : Nat} (h : Below w0.heap.size w0 w) (hb : w0.heap.size ≤ b) (v0 v1 v2 : Value) : Below w0.heap.size w0 (set3A w b v0 v1 v2) :=
  ((h.setCell (p := ⟨b, 0, none⟩) hb v0).setCell (p := ⟨b, 1, none⟩) hb v1).setCell (p := ⟨b, 2, none⟩) hb v2
theorem own_set3A {B size n b : Nat} {e : TypeId} {w : World} {u : Value} {cs : List Value} (h : w.ownsRow B e size u n cs) (hp : u.ownBlock ≠ some b) (v0 v1 v2 : Value) : (set3A w b v0 v1 v2).ownsRow B e size u n cs :=
  own_setA (own_setA (own_setA h ⟨b, 0, none⟩ hp v0) ⟨b, 1, none⟩ hp v1) ⟨b, 2, none⟩ hp v2
theorem bool_rows : (4 : TypeId) ≠ 30 := by decide
/-- The blocks of New. -/
structure NwAt (w0 : World) (k : Nat) (vG vH : Value) (w : World) : Prop where
  res : Lies w0.heap.size (alC 0 none 0 0 none 0 0) 25 w
  box : Lies (w0.heap.size + 1) #[.int .i64 0, vG, vH] 25 w
  got : w.ownsRow (w0.heap.size + 2) 4 1 vG k (gcs (List.replicate k false))
  held : w.ownsRow (w0.heap.size + 2) 30 1 vH k (hsc (List.replicate k noHd))
  below : Below w0.heap.size w0 w
  size : w0.heap.size + 2 ≤ w.heap.size
theorem NwAt.next {w0 : World} {k : Nat} {vG vH : Value} {a b : World} (h : NwAt w0 k vG vH a) (hb : Below a.heap.size a b) : NwAt w0 k vG vH b :=
  ⟨h.res.below hb, h.box.below hb, own_upA h.got hb, own_upA h.held hb, below_next h.below hb, Nat.le_trans h.size hb.size⟩
/-- Half a round: a bool is put behind. -/
structure NwHalf (w0 : World) (k : Nat) (vG vH : Value) (w : World) : Prop where
  res : Lies w0.heap.size (alC 0 none 0 0 none 0 0) 25 w
  box : Lies (w0.heap.size + 1) #[.int .i64 0, vG, vH] 25 w
  got : w.ownsRow (w0.heap.size + 2) 4 1 vG (k + 1) (gcs (List.replicate (k + 1) false))
  held : w.ownsRow (w0.heap.size + 2) 30 1 vH k (hsc (List.replicate k noHd))
  below : Below w0.heap.size w0 w
  size : w0.heap.size + 2 ≤ w.heap.size
theorem NwHalf.next {w0 : World} {k : Nat} {vG vH : Value} {a b : World} (h : NwHalf w0 k vG vH a) (hb : Below a.heap.size a b) : NwHalf w0 k vG vH b :=
  ⟨h.res.below hb, h.box.below hb, own_upA h.got hb, own_upA h.held hb, below_next h.below hb, Nat.le_trans h.size hb.size⟩
theorem NwAt.putG {w0 : World} {k : Nat} {vG vH v' : Value} {a b : World} (h : NwAt w0 k vG vH a) (hg : a.grownBy b vG.ownBlock) (ho : b.ownsRow (w0.heap.size + 2) 4 1 v' (k + 1) (gcs (List.replicate k false ++ [false]))) :
    NwHalf w0 k v' vH (b.setCell ⟨w0.heap.size + 1, 1, none⟩ v') := by
  have hf : ∀ q, vG.ownBlock = some q → w0.heap.size + 2 ≤ q := fun q hq => (h.got.lt q hq).1
  have hf' : v'.ownBlock ≠ some (w0.heap.size + 1) := fun e => by have := (ho.lt _ e).1; omega
  have hH := own_grownA h.held hg (own_kindA h.held h.got (Ne.symm bool_rows))
  have hf2 : vH.ownBlock ≠ some (w0.heap.size + 1) := fun e => by have := (h.held.lt _ e).1; omega
  refine ⟨(lies_grownA h.res hg fun e => by have := hf _ e; omega).other (by omega) _ _, by have := (lies_grownA h.box hg fun e => by have := hf _ e; omega).set 1 v'; simpa using this, own_setA (by rw [List.replicate_succ']; exact ho) ⟨_, 1, none⟩ hf' v', own_setA hH ⟨_, 1, none⟩ hf2 v',
    (h.below.grown hg (by have := h.size; omega) fun q hq => by have := hf q hq; omega).setCell (p := ⟨w0.heap.size + 1, 1, none⟩) (show w0.heap.size ≤ w0.heap.size + 1 by omega) _, ?_⟩
  have := h.size
  have h2 := hg.size
  simp
  omega
theorem NwHalf.putH {w0 : World} {k : Nat} {vG vH v' : Value} {a b : World} (h : NwHalf w0 k vG vH a) (hg : a.grownBy b vH.ownBlock) (ho : b.ownsRow (w0.heap.size + 2) 30 1 v' (k + 1) (hsc (List.replicate k noHd ++ [noHd]))) :
    NwAt w0 (k + 1) vG v' (b.setCell ⟨w0.heap.size + 1, 2, none⟩ v') := by
  have hf : ∀ q, vH.ownBlock = some q → w0.heap.size + 2 ≤ q := fun q hq => (h.held.lt q hq).1
  have hf' : v'.ownBlock ≠ some (w0.heap.size + 1) := fun e => by have := (ho.lt _ e).1; omega
  have hG := own_grownA h.got hg (own_kindA h.got h.held bool_rows)
  have hf2 : vG.ownBlock ≠ some (w0.heap.size + 1) := fun e => by have := (h.got.lt _ e).1; omega
  refine ⟨(lies_grownA h.res hg fun e => by have := hf _ e; omega).other (by omega) _ _, by have := (lies_grownA h.box hg fun e => by have := hf _ e; omega).set 2 v'; simpa using this, own_setA hG ⟨_, 2, none⟩ hf2 v', own_setA (by rw [List.replicate_succ' (n := k)]; exact ho) ⟨_, 2, none⟩ hf' v',
    (h.below.grown hg (by have := h.size; omega) fun q hq => by have := hf q hq; omega).setCell (p := ⟨w0.heap.size + 1, 2, none⟩) (show w0.heap.size ≤ w0.heap.size + 1 by omega) _, ?_⟩
  have := h.size
  have h2 := hg.size
  simp
  omega
theorem NwAt.box_grown {w0 : World} {k : Nat} {vG vH : Value} {a b : World} (h : NwAt w0 k vG vH a) (hg : a.grownBy b vG.ownBlock) : Lies (w0.heap.size + 1) #[.int .i64 0, vG, vH] 25 b :=
  lies_grownA h.box hg fun e => by have := (h.got.lt _ e).1; omega
theorem NwHalf.box_grown {w0 : World} {k : Nat} {vG vH : Value} {a b : World} (h : NwHalf w0 k vG vH a) (hg : a.grownBy b vH.ownBlock) : Lies (w0.heap.size + 1) #[.int .i64 0, vG, vH] 25 b :=
  lies_grownA h.box hg fun e => by have := (h.held.lt _ e).1; omega
set_option maxRecDepth 100000 in
set_option maxHeartbeats 2000000 in
theorem rfNewO (n : Int) (o : Al × Int) (ho : o = newO n) (ng : Nat) (hng : ng = o.1.got.length) (w : World) : Calls Try.prog 11 #[.int .i64 n] w (GivesNO o.1 ng o.2 w) := by
  have HO := Lib.hid ho
  have HNG := Lib.hid hng
  have NW : Hid (NwAt w 0 (.slice none 0 0) (.slice none 0 0) ((w.alloc (.cells (alC 0 none 0 0 none 0 0) 25)).alloc (.cells (alC 0 none 0 0 none 0 0) 25))) := Lib.hid
    ⟨(Lies.new w _ _).al, Gen.lies_new1 w _ _ _, own_none, own_none, below_al (below_al (Below.refl _ _)), by simp⟩
  clear ho hng
  go_enter Try.func11, Try.ntmps11
  go_upto_region 2 with fail
  obtain ⟨W, hW⟩ : ∃ W, W = (w.alloc (.cells (alC 0 none 0 0 none 0 0) 25)).alloc (.cells (alC 0 none 0 0 none 0 0) 25) := ⟨_, rfl⟩
  rw [← hW] at NW ⊢
  clear hW
  by_cases h1 : n < 1
  · have g1 : decide (n < (1 : Int)) = true := decide_eq_true h1
    have e1 : o = (zA, 1) := HO.out.trans (if_pos (.inl h1))
    have e2 : ng = 0 := by rw [HNG.out, e1]; rfl
    subst e1 e2
    clear HO HNG
    have x0 := NW.out.box.cell (j := 0) rfl; have x1 := NW.out.box.cell (j := 1) rfl; have x2 := NW.out.box.cell (j := 2) rfl
    have y0 := NW.out.res.cell (j := 0) rfl; have y1 := NW.out.res.cell (j := 1) rfl; have y2 := NW.out.res.cell (j := 2) rfl
    have z0 := NW.out.res.free 0; have z1 := NW.out.res.free 1; have z2 := NW.out.res.free 2
    go_wp2_with fail
    refine new_ret (o := zA) (R := w.heap.size) (hs := []) ?_ ?_ ?_ (lies_set3A NW.out.res _ _ _) ⟨own_none, own_none, fun x hx => by cases hx⟩ rfl (below_set3A NW.out.below (Nat.le_refl _) _ _ _) <;> rfl
  · have g1 : decide (n < (1 : Int)) = false := decide_eq_false h1
    by_cases h2 : 8 < n
    · have g2 : decide ((8 : Int) < n) = true := decide_eq_true h2
      have e1 : o = (zA, 1) := HO.out.trans (if_pos (.inr h2))
      have e2 : ng = 0 := by rw [HNG.out, e1]; rfl
      subst e1 e2
      clear HO HNG
      have x0 := NW.out.box.cell (j := 0) rfl; have x1 := NW.out.box.cell (j := 1) rfl; have x2 := NW.out.box.cell (j := 2) rfl
      have y0 := NW.out.res.cell (j := 0) rfl; have y1 := NW.out.res.cell (j := 1) rfl; have y2 := NW.out.res.cell (j := 2) rfl
      have z0 := NW.out.res.free 0; have z1 := NW.out.res.free 1; have z2 := NW.out.res.free 2
      go_wp2_with fail
      refine new_ret (o := zA) (R := w.heap.size) (hs := []) ?_ ?_ ?_ (lies_set3A NW.out.res _ _ _) ⟨own_none, own_none, fun x hx => by cases hx⟩ rfl (below_set3A NW.out.below (Nat.le_refl _) _ _ _) <;> rfl
    · have g2 : decide ((8 : Int) < n) = false := decide_eq_false h2
      obtain ⟨m, hm⟩ : ∃ m : Nat, n = (m : Int) := ⟨n.toNat, by omega⟩
      subst hm
      have e1 : o = (anew m, 0) := by rw [HO.out]; unfold newO; rw [if_neg (by omega)]; rfl
      have e2 : ng = m := by rw [HNG.out, e1]; exact List.length_replicate
      subst e1 e2
      have HM8 : Hid (ng ≤ 8) := Lib.hid (by omega)
      clear h1 h2 HO HNG
      go_wp2_with fail
      go_loopw [5] (fun i wr => ∃ (k : Nat) (vG vH : Value), i = .int .i64 k ∧ k ≤ ng ∧ NwAt w k vG vH wr) (fun i _ => ng - (intOf i).toNat)
      case atStart => exact ⟨0, _, _, rfl, Nat.zero_le _, NW.out⟩
      case round =>
        clear NW
        obtain ⟨k, vG, vH, rfl, hk, hAT⟩ := hrel
        have AT := Lib.hid hAT
        clear hAT
        by_cases hlt : k < ng
        · have hki : (k : Int) < (ng : Int) := by omega
          have hw := wrapKA (k := k) (by have := HM8.out; omega)
          have HKM := Lib.hid hlt
          clear hlt hk
          have x1 := AT.out.box.cell (j := 1) rfl
          go_wp2_with (at_builtin; refine hold_mk ?_)
          refine hold_out ?_
          have hro := one_rowG wr false
          have A2 := Lib.hid (AT.out.next (below_al (o := .cells #[.bool false] 4) (Below.refl wr.heap.size wr)))
          refine wpPushG rfl _ _ rfl vG (List.replicate k false) rfl (by simp) A2.out.got A2.out.size _ 1 false rfl hro (by have := HKM.out; have := HM8.out; omega) ?_
          intro v9 w9 bt9 hg9
          obtain ⟨V9, c9, rfl, _⟩ := own_form bt9 (by omega)
          have A9 := Lib.hid (A2.out.putG hg9 bt9)
          have LO := Lib.hid (A2.out.box_grown hg9)
          clear bt9 hg9 hro x1 A2 AT
          have f1 := LO.out.free 1
          have o1 := LO.out.cell (j := 1) rfl
          go_upto_region 8 with fail
          clear f1 o1 LO
          obtain ⟨W5, hW5⟩ : ∃ W, W = w9.setCell ⟨w.heap.size + 1, 1, none⟩ (.slice V9 (k + 1) c9) := ⟨_, rfl⟩
          rw [← hW5] at A9 ⊢
          clear hW5
          have x2 := A9.out.box.cell (j := 2) rfl
          go_wp2_with (at_builtin; refine hold_mk ?_)
          refine hold_out ?_
          have hro := one_rowH W5 noHd
          have A2 := Lib.hid (A9.out.next (below_al (o := .cells #[.slice none 0 0] 30) (Below.refl W5.heap.size W5)))
          refine wpPushH rfl _ _ rfl vH (List.replicate k noHd) rfl (by simp) A2.out.held A2.out.size _ 1 noHd rfl hro (by have := HKM.out; have := HM8.out; omega) ?_
          intro v8 w8 bt8 hg8
          obtain ⟨V8, c8, rfl, _⟩ := own_form bt8 (by omega)
          have A8 := Lib.hid (A2.out.putH hg8 bt8)
          have LO := Lib.hid (A2.out.box_grown hg8)
          clear bt8 hg8 hro x2 A2 A9
          have f2 := LO.out.free 2
          have o2 := LO.out.cell (j := 2) rfl
          go_wp2_with fail
          go_roundw
          case rel => exact ⟨k + 1, _, _, rfl, HKM.out, A8.out⟩
          case measure => simp [intOf]; have := HKM.out; omega
        · have hki : ¬ (k : Int) < (ng : Int) := by omega
          have hkn : k = ng := by omega
          subst hkn
          obtain ⟨VG, cG, rfl, _⟩ := own_form AT.out.got (by omega)
          obtain ⟨VH, cH, rfl, _⟩ := own_form AT.out.held (by omega)
          have HRG := Lib.hid (own_rowG AT.out.got)
          have HFR : Hid (∀ q, (Value.slice VG k cG).ownBlock = some q → w.heap.size + 2 ≤ q) := Lib.hid fun q hq => (AT.out.got.lt q hq).1
          have OG := Lib.hid (own_set3A AT.out.got (b := w.heap.size) (fun e => by have := (AT.out.got.lt _ e).1; omega) (.int .i64 0) (.slice VG k cG) (.slice VH k cH))
          have OH := Lib.hid (own_set3A AT.out.held (b := w.heap.size) (fun e => by have := (AT.out.held.lt _ e).1; omega) (.int .i64 0) (.slice VG k cG) (.slice VH k cH))
          have x0 := AT.out.box.cell (j := 0) rfl; have x1 := AT.out.box.cell (j := 1) rfl; have x2 := AT.out.box.cell (j := 2) rfl
          have y0 := AT.out.res.cell (j := 0) rfl; have y1 := AT.out.res.cell (j := 1) rfl; have y2 := AT.out.res.cell (j := 2) rfl
          have z0 := AT.out.res.free 0; have z1 := AT.out.res.free 1; have z2 := AT.out.res.free 2
          go_wp2_with fail
          have hL := lies_set3A AT.out.res (.int .i64 0) (.slice VG k cG) (.slice VH k cH)
          have hB := below_set3A AT.out.below (Nat.le_refl _) (.int .i64 0) (.slice VG k cG) (.slice VH k cH)
          refine new_ret (o := anew k) (R := w.heap.size) (hs := List.replicate k noHd) ?_ ?_ ?_ hL ⟨own_baseA OG.out (by omega), own_baseA OH.out (by omega), fun x hx => by rw [(List.mem_replicate.1 hx).2]; exact own_none⟩ (by simp [anew]) hB <;> rfl
theorem rfNewA (n : Int) (o : Al × Int) (ho : o = newO n) (ng : Nat) (hng : ng = o.1.got.length) (w : World) : Calls Try.prog 11 #[.int .i64 n] w (GivesA o.1 ng o.2 w) :=
  (rfNewO n o ho ng hng w).mono fun e w' ⟨G, cG, H, cH, hs, h1, h2, h3, h4⟩ => ⟨G, cG, H, cH, hs, h1, h2.rows.1, h2.rows.2.1, h3, h2.rows.2.2.1, h2.rows.2.2.2.1, h2.rows.2.2.2.2.1, h4⟩
end Aln
end Go.Proofs.Ytgbklmncfajcgaa
