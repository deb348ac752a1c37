/- The reference's behind: an aligner with a barrier got, or an item more held. -/
import Derived.Test.YtgbklmncfajcgaaAlignMath
namespace Go.Proofs.Ytgbklmncfajcgaa
open Go.ChangeShapes Go.WideShapes Go.ChangeAt Go.RowKit
set_option linter.unusedVariables false
set_option maxRecDepth 8000
namespace Aln
open Gen (TellsB row_one flat_len flat_get)
open Itm
theorem it_al : (42 : TypeId) ≠ 25 := by decide
theorem it_bool : (42 : TypeId) ≠ 4 := by decide
theorem it_rows : (42 : TypeId) ≠ 30 := by decide
/-- The blocks of behind. -/
structure BhAt (w0 : World) (C : Array Value) (i : It) (n : Int) (vG vH : Value) (kg kh : Nat) (gs : List Bool) (us : List Hd) (w : World) : Prop where
  arg : Lies w0.heap.size C 25 w
  it : Lies (w0.heap.size + 1) (itC i) 42 w
  res : Lies (w0.heap.size + 2) (alC 0 none 0 0 none 0 0) 25 w
  box : Lies (w0.heap.size + 3) #[.int .i64 n, vG, vH] 25 w
  got : w.ownsRow (w0.heap.size + 4) 4 1 vG kg (gcs gs)
  held : w.ownsRow (w0.heap.size + 4) 30 1 vH kh (hsc us)
  each : ∀ x ∈ us, OwnI w (w0.heap.size + 4) x
  below : Below w0.heap.size w0 w
  size : w0.heap.size + 4 ≤ w.heap.size
theorem BhAt.next {w0 : World} {C : Array Value} {i : It} {n : Int} {vG vH : Value} {kg kh : Nat} {gs : List Bool} {us : List Hd} {a b : World} (h : BhAt w0 C i n vG vH kg kh gs us a) (hb : Below a.heap.size a b) : BhAt w0 C i n vG vH kg kh gs us b :=
  ⟨h.arg.below hb, h.it.below hb, h.res.below hb, h.box.below hb, own_upA h.got hb, own_upA h.held hb, fun x hx => own_upA (h.each x hx) hb, below_next h.below hb, Nat.le_trans h.size hb.size⟩
theorem BhAt.putN {w0 : World} {C : Array Value} {i : It} {n : Int} {vG vH : Value} {kg kh : Nat} {gs : List Bool} {us : List Hd} {a : World} (h : BhAt w0 C i n vG vH kg kh gs us a) (m : Int) : BhAt w0 C i m vG vH kg kh gs us (a.setCell ⟨w0.heap.size + 3, 0, none⟩ (.int .i64 m)) := by
  have lt : ∀ {B size n : Nat} {e : TypeId} {v : Value} {xs : List Value}, a.ownsRow B e size v n xs → w0.heap.size + 4 ≤ B → v.ownBlock ≠ some (w0.heap.size + 3) := fun ho hB e => by have := (ho.lt _ e).1; omega
  exact ⟨h.arg.other (by omega) _ _, h.it.other (by omega) _ _, h.res.other (by omega) _ _, by have := h.box.set 0 (.int .i64 m); simpa using this, own_setA h.got ⟨_, 0, none⟩ (lt h.got (Nat.le_refl _)) _, own_setA h.held ⟨_, 0, none⟩ (lt h.held (Nat.le_refl _)) _,
    fun x hx => own_setA (h.each x hx) ⟨_, 0, none⟩ (lt (h.each x hx) (Nat.le_refl _)) _, h.below.setCell (p := ⟨w0.heap.size + 3, 0, none⟩) (show w0.heap.size ≤ w0.heap.size + 3 by omega) _, by have := h.size; simp; omega⟩
/-- What one append leaves. -/
theorem BhAt.box_grown {w0 : World} {C : Array Value} {i : It} {n : Int} {vG vH : Value} {kg kh : Nat} {gs : List Bool} {us : List Hd} {a b : World} (h : BhAt w0 C i n vG vH kg kh gs us a) {v : Value} (hg : a.grownBy b v.ownBlock) (hv : ∀ q, v.ownBlock = some q → w0.heap.size + 4 ≤ q) : Lies (w0.heap.size + 3) #[.int .i64 n, vG, vH] 25 b :=
  lies_grownA h.box hg fun e => by have := hv _ e; omega
theorem BhAt.putG {w0 : World} {C : Array Value} {i : It} {n : Int} {vG vH v' : Value} {kg kh : Nat} {gs : List Bool} {g : Bool} {us : List Hd} {a b : World} (h : BhAt w0 C i n vG vH kg kh gs us a) (hg : a.grownBy b vG.ownBlock) (ho : b.ownsRow (w0.heap.size + 4) 4 1 v' (kg + 1) (gcs (gs ++ [g]))) :
    BhAt w0 C i n v' vH (kg + 1) kh (gs ++ [g]) us (b.setCell ⟨w0.heap.size + 3, 1, none⟩ v') := by
  have hf : ∀ q, vG.ownBlock = some q → w0.heap.size + 4 ≤ q := fun q hq => (h.got.lt q hq).1
  have lt : ∀ {B size n : Nat} {e : TypeId} {v : Value} {xs : List Value}, b.ownsRow B e size v n xs → w0.heap.size + 4 ≤ B → v.ownBlock ≠ some (w0.heap.size + 3) := fun ho hB e => by have := (ho.lt _ e).1; omega
  have hH := own_grownA h.held hg (own_kindA h.held h.got (Ne.symm bool_rows))
  have hE : ∀ x ∈ us, OwnI b (w0.heap.size + 4) x := fun x hx => own_grownA (h.each x hx) hg (own_kindA (h.each x hx) h.got it_bool)
  have ne : ∀ k, k < 4 → vG.ownBlock ≠ some (w0.heap.size + k) := fun k hk e => by have := hf _ e; omega
  refine ⟨(lies_grownA h.arg hg (ne 0 (by omega))).other (by omega) _ _, (lies_grownA h.it hg (ne 1 (by omega))).other (by omega) _ _, (lies_grownA h.res hg (ne 2 (by omega))).other (by omega) _ _, by have := (h.box_grown hg hf).set 1 v'; simpa using this,
    own_setA ho ⟨_, 1, none⟩ (lt ho (Nat.le_refl _)) v', own_setA hH ⟨_, 1, none⟩ (lt hH (Nat.le_refl _)) v', fun x hx => own_setA (hE x hx) ⟨_, 1, none⟩ (lt (hE x hx) (Nat.le_refl _)) v',
    (h.below.grown hg (by have := h.size; omega) fun q hq => by have := hf q hq; omega).setCell (p := ⟨w0.heap.size + 3, 1, none⟩) (show w0.heap.size ≤ w0.heap.size + 3 by omega) _, ?_⟩
  have := h.size
  have h2 := hg.size
  simp
  omega
theorem BhAt.putH {w0 : World} {C : Array Value} {i : It} {n : Int} {vG vH v' : Value} {kg kh : Nat} {gs : List Bool} {us : List Hd} {y : Hd} {a b : World} (h : BhAt w0 C i n vG vH kg kh gs us a) (hy : OwnI a (w0.heap.size + 4) y) (hg : a.grownBy b vH.ownBlock) (ho : b.ownsRow (w0.heap.size + 4) 30 1 v' (kh + 1) (hsc (us ++ [y]))) :
    BhAt w0 C i n vG v' kg (kh + 1) gs (us ++ [y]) (b.setCell ⟨w0.heap.size + 3, 2, none⟩ v') := by
  have hf : ∀ q, vH.ownBlock = some q → w0.heap.size + 4 ≤ q := fun q hq => (h.held.lt q hq).1
  have lt : ∀ {B size n : Nat} {e : TypeId} {v : Value} {xs : List Value}, b.ownsRow B e size v n xs → w0.heap.size + 4 ≤ B → v.ownBlock ≠ some (w0.heap.size + 3) := fun ho hB e => by have := (ho.lt _ e).1; omega
  have hG := own_grownA h.got hg (own_kindA h.got h.held bool_rows)
  have hE : ∀ x ∈ us ++ [y], OwnI b (w0.heap.size + 4) x := fun x hx => by
    rcases List.mem_append.1 hx with hx | hx
    · exact own_grownA (h.each x hx) hg (own_kindA (h.each x hx) h.held it_rows)
    · rw [List.mem_singleton.1 hx]; exact own_grownA hy hg (own_kindA hy h.held it_rows)
  have ne : ∀ k, k < 4 → vH.ownBlock ≠ some (w0.heap.size + k) := fun k hk e => by have := hf _ e; omega
  refine ⟨(lies_grownA h.arg hg (ne 0 (by omega))).other (by omega) _ _, (lies_grownA h.it hg (ne 1 (by omega))).other (by omega) _ _, (lies_grownA h.res hg (ne 2 (by omega))).other (by omega) _ _, by have := (h.box_grown hg hf).set 2 v'; simpa using this,
    own_setA hG ⟨_, 2, none⟩ (lt hG (Nat.le_refl _)) v', own_setA ho ⟨_, 2, none⟩ (lt ho (Nat.le_refl _)) v', fun x hx => own_setA (hE x hx) ⟨_, 2, none⟩ (lt (hE x hx) (Nat.le_refl _)) v',
    (h.below.grown hg (by have := h.size; omega) fun q hq => by have := hf q hq; omega).setCell (p := ⟨w0.heap.size + 3, 2, none⟩) (show w0.heap.size ≤ w0.heap.size + 3 by omega) _, ?_⟩
  have := h.size
  have h2 := hg.size
  simp
  omega
/-- An aligner; its rows are the call's own. -/
def GivesA1 (o : Al) (ng : Nat) (w : World) (e : Ending) (w' : World) : Prop :=
  ∃ (G : Option Addr) (cG : Nat) (H : Option Addr) (cH : Nat) (hs : List Hd), e = .returned (alV o.n G ng cG H ng cH) ∧ OwnA w' w.heap.size o.got hs ng G cG H cH ∧ hs.map (fun x => x.2.2) = o.held ∧ Below w.heap.size w w'
theorem behind_ret {w wF : World} {R ng : Nat} {o : Al} {G : Option Addr} {cG : Nat} {H : Option Addr} {cH : Nat} {hs : List Hd} {act : Act} (ht : act.tmps.getD 6 undef = .pointer (some ⟨R, 0, none⟩)) (hd : act.defers = [])
    (hL : Lies R (alC o.n G ng cG H ng cH) 25 wF) (h1 : OwnA wF w.heap.size o.got hs ng G cG H cH) (h3 : hs.map (fun x => x.2.2) = o.held) (hB : Below w.heap.size w wF) :
    bodyPost Try.prog Try.f33 (GivesA1 o ng w) .ret act wF := by
  have c0 := hL.cell (j := 0) rfl
  have c1 := hL.cell (j := 1) rfl
  have c2 := hL.cell (j := 2) rfl
  refine bodyPost_ret (v := alV o.n G ng cG H ng cH) ?_ hd ⟨G, cG, H, cH, hs, rfl, h1, h3, hB⟩
  have ht2 : act.tmps[6]?.getD undef = .pointer (some ⟨R, 0, none⟩) := by simpa using ht
  simp [results, Try.results33, go_sem, ht2, c0, c1, c2]
/-- What stands behind k rounds. -/
def nOf (a : Al) (j : Nat) (i : It) (k : Nat) : Int := if j < k ∧ a.got[j]? = some false then i.n else a.n
theorem n_end (a : Al) (j : Nat) (i : It) (hj : j < a.got.length) : nOf a j i a.got.length = (behindA a j i).n := by
  unfold nOf behindA
  simp only [hj, true_and]
theorem n_same {a : Al} {j k : Nat} {i : It} (h : ¬ k = j) : nOf a j i k = nOf a j i (k + 1) := by
  unfold nOf
  by_cases hk : j < k
  · have h2 : j < k + 1 := by omega
    simp only [hk, h2]
  · have h2 : ¬ j < k + 1 := by omega
    simp only [hk, h2]
theorem gs_next {a : Al} {j k : Nat} {g g' : Bool} (hg : a.got[k]? = some g) (h : g' = if k = j then true else g) : (a.got.set j true).take (k + 1) = (a.got.set j true).take k ++ [g'] := by
  have hk := (List.getElem?_eq_some_iff.1 hg).1
  have e : (a.got.set j true)[k]? = some g' := by
    by_cases he : k = j
    · subst he; rw [List.getElem?_set_self hk, h, if_pos rfl]
    · rw [List.getElem?_set_ne (Ne.symm he), hg, h, if_neg he]
  rw [List.take_add_one, e]; rfl
theorem hs_next {a : Al} {j k : Nat} {i : It} {l l' : List It} (hl : a.held[k]? = some l) (h : l' = if k = j ∧ a.got[j]? = some true then l ++ [i] else l) : (behindA a j i).held.take (k + 1) = (behindA a j i).held.take k ++ [l'] := by
  have hk := (List.getElem?_eq_some_iff.1 hl).1
  have e : (behindA a j i).held[k]? = some l' := by
    unfold behindA
    simp only
    by_cases hg : a.got[j]? = some true
    · rw [if_pos hg]
      by_cases he : k = j
      · subst he; rw [List.getElem?_set_self hk, hl, h, if_pos ⟨rfl, hg⟩]; rfl
      · rw [List.getElem?_set_ne (Ne.symm he), hl, h, if_neg (fun e => he e.1)]
    · rw [if_neg hg, hl, h, if_neg (fun e => hg e.2)]
  rw [List.take_add_one, e]; rfl
set_option maxRecDepth 100000 in
set_option maxHeartbeats 4000000 in
theorem rfBehind (a : Al) (hs : List Hd) (hh : hs.map (fun x => x.2.2) = a.held) (ng nh j : Nat) (hng : ng = a.got.length) (hnh : nh = ng) (hhl : nh = a.held.length) (hj : j < ng) (hl8 : ng ≤ 8) (hl16 : ∀ x ∈ hs, x.2.2.length ≤ 16) (i : It) (o : Al) (ho : o = behindA a j i) (G : Option Addr) (cG : Nat) (H : Option Addr) (cH : Nat) (w : World) (hG : Row w G (gcs a.got)) (hH : HAt w H hs) :
    Calls Try.prog 33 #[alV a.n G ng cG H nh cH, .int .i64 j, itV i] w (GivesA1 o ng w) := by
  have BH : Hid (BhAt w (alC a.n G ng cG H nh cH) i a.n (.slice none 0 0) (.slice none 0 0) 0 0 [] [] ((((w.alloc (.cells (alC a.n G ng cG H nh cH) 25)).alloc (.cells (itC i) 42)).alloc (.cells (alC 0 none 0 0 none 0 0) 25)).alloc (.cells #[.int .i64 a.n, .slice none 0 0, .slice none 0 0] 25))) := Lib.hid
    ⟨(((Lies.new w _ _).al).al).al, ((Gen.lies_new1 w _ _ _).al).al, (Gen.lies_new2 w _ _ _ _).al, by have h := Gen.lies_new2 (w.alloc (.cells (alC a.n G ng cG H nh cH) 25)) (.cells (itC i) 42) (.cells (alC 0 none 0 0 none 0 0) 25) #[.int .i64 a.n, .slice none 0 0, .slice none 0 0] 25; simpa using h,
      own_none, own_none, fun x hx => (by cases hx), below_al (below_al (below_al (below_al (Below.refl _ _)))), by simp⟩
  have HG0 := Lib.hid hG
  have HH0 := Lib.hid hH
  have HHS := Lib.hid hh
  have HNG := Lib.hid hng
  have HNH := Lib.hid hnh
  have HHL : Hid (hs.length = ng) := Lib.hid (by have := congrArg List.length hh; rw [List.length_map] at this; omega)
  have H8 := Lib.hid hl8
  have H16 := Lib.hid hl16
  have HJ := Lib.hid hj
  have HO := Lib.hid ho
  have HN0 : Hid (a.n = nOf a j i 0) := Lib.hid (by unfold nOf; rw [if_neg (by omega)])
  clear hG hH hh hng hnh hhl hj hl8 hl16 ho
  go_enter Try.func33, Try.ntmps33
  go_upto_region 1 with fail
  have x0 := (Lies.new w (alC a.n G ng cG H nh cH) 25).al (o := .cells (itC i) 42) |>.al (o := .cells (alC 0 none 0 0 none 0 0) 25) |>.cell (j := 0) rfl
  have hsz : w.heap.size < ((w.alloc (.cells (alC a.n G ng cG H nh cH) 25)).alloc (.cells (itC i) 42)).heap.size := by simp; omega
  go_upto_region 2 with fail
  clear x0 hsz
  obtain ⟨W, hW⟩ : ∃ W, W = (((w.alloc (.cells (alC a.n G ng cG H nh cH) 25)).alloc (.cells (itC i) 42)).alloc (.cells (alC 0 none 0 0 none 0 0) 25)).alloc (.cells #[.int .i64 a.n, .slice none 0 0, .slice none 0 0] 25) := ⟨_, rfl⟩
  rw [← hW] at BH ⊢
  clear hW
  have x1 := BH.out.arg.cell (j := 1) rfl
  go_wp2_with fail
  clear x1
  go_loopw [19] (fun s19 wr => ∃ (k : Nat) (vG vH : Value) (us : List Hd), s19 = .int .i64 k ∧ k ≤ ng ∧ us.map (fun x => x.2.2) = (behindA a j i).held.take k ∧ (∀ x ∈ us, x.2.2.length ≤ x.2.1) ∧ us.length = k ∧ BhAt w (alC a.n G ng cG H nh cH) i (nOf a j i k) vG vH k k ((a.got.set j true).take k) us wr) (fun s19 _ => ng - (intOf s19).toNat)
  case atStart => exact ⟨0, _, _, [], rfl, Nat.zero_le _, rfl, fun x hx => (by cases hx), rfl, by rw [← HN0.out]; exact BH.out⟩
  case round =>
    clear BH HN0
    obtain ⟨k, vG, vH, us, rfl, hk, hus, hcap, hul, hat⟩ := hrel
    have AT := Lib.hid hat
    have HUS := Lib.hid hus
    have HCAP := Lib.hid hcap
    have HUL := Lib.hid hul
    clear hat hus hcap hul
    by_cases hlt : k < ng
    · obtain ⟨g, hg⟩ : ∃ g, a.got[k]? = some g := ⟨_, List.getElem?_eq_getElem (by rw [← HNG.out]; exact hlt)⟩
      obtain ⟨⟨A, c, l⟩, hx⟩ : ∃ x, hs[k]? = some x := ⟨_, List.getElem?_eq_getElem (by rw [HHL.out]; exact hlt)⟩
      obtain ⟨q, off, hG1, c0⟩ := got_row (HG0.out.below AT.out.below) hg
      obtain ⟨q', off', hH1, d0⟩ := head_row (HH0.out.row.below AT.out.below) hx
      subst hG1 hH1
      have HIT := Lib.hid (HH0.out.each _ (List.mem_of_getElem? hx))
      have HL16 := Lib.hid (H16.out _ (List.mem_of_getElem? hx))
      have HLK : Hid (a.held[k]? = some l) := Lib.hid (by rw [← HHS.out, List.getElem?_map, hx]; rfl)
      have HGK := Lib.hid hg
      have HKM := Lib.hid hlt
      have hki : (k : Int) < (ng : Int) := by omega
      have hkh : (k : Int) < (nh : Int) := by rw [HNH.out]; exact hki
      have hw := wrapKA (k := k) (by have := H8.out; omega)
      simp only at d0 HIT HL16
      obtain ⟨m, hm⟩ : ∃ m, m = l.length := ⟨_, rfl⟩
      rw [← hm] at d0 HL16
      have HML := Lib.hid hm
      have x2 := AT.out.arg.cell (j := 2) rfl
      clear hg hx hlt hk hm
      go_upto_region 6 with fail
      clear c0
      have hb5 := below_al (o := .cells #[] 42) (Below.refl wr.heap.size wr)
      have OW0 : Hid ((wr.alloc (.cells #[] 42)).ownsRow wr.heap.size 42 11 (.slice (some ⟨wr.heap.size, 0, none⟩) 0 0) 0 (itc [])) := Lib.hid (own_new (Nat.le_refl _))
      have B5 := Lib.hid hb5
      have d0 := Gen.cell_below d0 hb5
      have x2 := Gen.cell_below x2 hb5
      obtain ⟨W5, hW5⟩ : ∃ W, W = wr.alloc (.cells #[] 42) := ⟨_, rfl⟩
      obtain ⟨v5, hv5⟩ : ∃ v, v = Value.slice (some ⟨wr.heap.size, 0, none⟩) 0 0 := ⟨_, rfl⟩
      rw [← hW5] at OW0 B5 d0 x2 ⊢
      rw [← hv5] at OW0 ⊢
      clear hW5 hv5 hb5
      obtain ⟨wo, hwo⟩ : ∃ wo, wo = wr := ⟨_, rfl⟩
      subst hwo
      go_wp2_with fail
      clear d0 x2
      go_loopw [10, 31] (fun s10 s31 wr => ∃ (t : Nat) (v : Value) (ms : List It), s10 = v ∧ s31 = .int .i64 t ∧ t ≤ m ∧ ms = l.take t ∧ wr.ownsRow wo.heap.size 42 11 v t (itc ms) ∧ Below wo.heap.size wo wr) (fun _ s31 _ => m - (intOf s31).toNat)
      case atStart => exact ⟨0, _, [], rfl, rfl, Nat.zero_le _, rfl, OW0.out, B5.out⟩
      case round =>
        clear OW0 B5
        obtain ⟨t, v, ms, hv, rfl, ht, hms, how, hbw⟩ := hrel
        have hv2 := hv.symm
        clear hv
        subst hv2
        have OW := Lib.hid how
        have BW := Lib.hid hbw
        have HMS := Lib.hid hms
        clear how hbw hms
        by_cases htm : t < m
        · obtain ⟨y, hy⟩ : ∃ y, l[t]? = some y := ⟨_, List.getElem?_eq_getElem (by rw [← HML.out]; exact htm)⟩
          obtain ⟨q2, off2, hA2, e0⟩ := item_row ((HIT.out.below AT.out.below).below BW.out) hy
          subst hA2
          have hti : (t : Int) < (m : Int) := by omega
          have hwt := wrapKA (k := t) (by have := HL16.out; omega)
          have HTM := Lib.hid htm
          have HNX : Hid (ms ++ [y] = l.take (t + 1)) := Lib.hid (by rw [HMS.out, List.take_add_one, hy]; rfl)
          have HTL : Hid (t = ms.length) := Lib.hid (by rw [HMS.out, List.length_take, ← HML.out]; omega)
          have e00 := e0 0 _ rfl; have e01 := e0 1 _ rfl; have e02 := e0 2 _ rfl; have e03 := e0 3 _ rfl; have e04 := e0 4 _ rfl; have e05 := e0 5 _ rfl; have e06 := e0 6 _ rfl; have e07 := e0 7 _ rfl; have e08 := e0 8 _ rfl; have e09 := e0 9 _ rfl; have e10 := e0 10 _ rfl
          rw [Nat.add_zero] at e00
          clear hy e0 htm ht
          go_upto_region 9 with fail
          clear e00 e01 e02 e03 e04 e05 e06 e07 e08 e09 e10
          have hb6 := below_al (o := .cells (itC y) 42) (Below.refl wr.heap.size wr)
          have B6 := Lib.hid (BW.out.trans (hb6.mono BW.out.size))
          have O6 := Lib.hid (own_upA OW.out hb6)
          have LY := Lib.hid (Lies.new wr (itC y) 42)
          obtain ⟨by6, hby6⟩ : ∃ b, b = wr.heap.size := ⟨_, rfl⟩
          obtain ⟨W6, hW6⟩ : ∃ W, W = wr.alloc (.cells (itC y) 42) := ⟨_, rfl⟩
          rw [← hW6] at B6 O6 LY ⊢
          rw [← hby6] at LY ⊢
          clear hW6 hby6 hb6 OW BW
          have y00 := LY.out.cell (j := 0) rfl; have y01 := LY.out.cell (j := 1) rfl; have y02 := LY.out.cell (j := 2) rfl; have y03 := LY.out.cell (j := 3) rfl; have y04 := LY.out.cell (j := 4) rfl; have y05 := LY.out.cell (j := 5) rfl; have y06 := LY.out.cell (j := 6) rfl; have y07 := LY.out.cell (j := 7) rfl; have y08 := LY.out.cell (j := 8) rfl; have y09 := LY.out.cell (j := 9) rfl; have y10 := LY.out.cell (j := 10) rfl
          go_wp2_with (at_builtin; refine hold_mk ?_)
          refine hold_out ?_
          have hb7 := below_al (o := .cells (itC y) 42) (Below.refl W6.heap.size W6)
          have hro := one_rowI W6 y
          refine wpPushI rfl _ _ rfl v ms rfl HTL.out (own_upA O6.out hb7) (Nat.le_trans B6.out.size hb7.size) _ 1 y rfl hro (by have := HTM.out; have := HL16.out; omega) ?_
          intro v9 w9 bt9 hg9
          have O9 := Lib.hid bt9
          have B9 := Lib.hid ((B6.out.trans (hb7.mono B6.out.size)).grown hg9 (Nat.le_trans B6.out.size hb7.size) fun q hq => (O6.out.lt q hq).1)
          clear bt9 hg9 hro hb7 O6 B6 LY y00 y01 y02 y03 y04 y05 y06 y07 y08 y09 y10
          go_wp2_with fail
          go_roundw
          case rel => exact ⟨t + 1, _, _, rfl, rfl, HTM.out, HNX.out, O9.out, B9.out⟩
          case measure => simp [intOf]; have := HTM.out; omega
        · have htm2 : ¬ (t : Int) < (m : Int) := by omega
          have hms2 : l = ms := by symm; rw [HMS.out, List.take_of_length_le (by rw [← HML.out]; omega)]
          have htm3 : t = m := by omega
          subst hms2 htm3
          obtain ⟨wi, hwi⟩ : ∃ wi, wi = wr := ⟨_, rfl⟩
          subst hwi
          have A1 := Lib.hid (BhAt.next AT.out BW.out)
          have ATO := Lib.hid AT.out
          have HSZ : Hid (w.heap.size + 4 ≤ wo.heap.size) := Lib.hid AT.out.size
          clear AT HMS ht htm
          have hway : (k = j ∧ g = true) ∨ (k = j ∧ g = false) ∨ (¬ k = j) := by
            by_cases h : k = j
            · cases g
              · exact .inr (.inl ⟨h, rfl⟩)
              · exact .inl ⟨h, rfl⟩
            · exact .inr (.inr h)
          rcases hway with ⟨hkj, hgt⟩ | ⟨hkj, hgf⟩ | hkj
          · subst hkj hgt
            have g1 : ((k : Int) == (k : Int)) = true := eq_b rfl
            have HHN := Lib.hid (hs_next (i := i) (l' := l ++ [i]) HLK.out (by rw [if_pos ⟨rfl, HGK.out⟩]))
            have HGN := Lib.hid (gs_next (j := k) (g' := true) HGK.out (by rw [if_pos rfl]))
            have HNN : Hid (nOf a k i k = nOf a k i (k + 1)) := Lib.hid (by unfold nOf; rw [if_neg (by omega), if_neg (by rw [HGK.out]; simp)])
            have HGL : Hid (k = ((a.got.set k true).take k).length) := Lib.hid (by rw [List.length_take, List.length_set, ← HNG.out]; have := HKM.out; omega)
            have HLEN : Hid (t + 1 = (l ++ [i]).length) := Lib.hid (by rw [List.length_append, ← HML.out]; rfl)
            have i00 := A1.out.it.cell (j := 0) rfl; have i01 := A1.out.it.cell (j := 1) rfl; have i02 := A1.out.it.cell (j := 2) rfl; have i03 := A1.out.it.cell (j := 3) rfl; have i04 := A1.out.it.cell (j := 4) rfl; have i05 := A1.out.it.cell (j := 5) rfl; have i06 := A1.out.it.cell (j := 6) rfl; have i07 := A1.out.it.cell (j := 7) rfl; have i08 := A1.out.it.cell (j := 8) rfl; have i09 := A1.out.it.cell (j := 9) rfl; have i10 := A1.out.it.cell (j := 10) rfl
            go_wp2_with (at_builtin; refine hold_mk ?_)
            refine hold_out ?_
            have hro := one_rowI wi i
            have hb6 := below_al (o := .cells (itC i) 42) (Below.refl wi.heap.size wi)
            refine wpPushI rfl _ _ rfl v l rfl HML.out (own_upA OW.out hb6) (Nat.le_trans BW.out.size hb6.size) _ 1 i rfl hro (by have := HL16.out; omega) ?_
            intro v7 w7 bt7 hg7
            have O7 := Lib.hid bt7
            have B7 := Lib.hid ((BW.out.trans (hb6.mono BW.out.size)).grown hg7 (Nat.le_trans BW.out.size hb6.size) fun q hq => (OW.out.lt q hq).1)
            have A7 := Lib.hid (BhAt.next ATO.out B7.out)
            clear bt7 hg7 hro hb6 OW BW A1 i00 i01 i02 i03 i04 i05 i06 i07 i08 i09 i10
            have x1 := A7.out.box.cell (j := 1) rfl
            go_wp2_with (at_builtin; refine hold_mk ?_)
            refine hold_out ?_
            have hro := one_rowG w7 true
            have hb8 := below_al (o := .cells #[.bool true] 4) (Below.refl w7.heap.size w7)
            have A2 := Lib.hid (A7.out.next hb8)
            have O2 := Lib.hid (own_upA O7.out hb8)
            refine wpPushG rfl _ _ rfl vG _ rfl HGL.out A2.out.got A2.out.size _ 1 true rfl hro (by have := HKM.out; have := H8.out; omega) ?_
            intro v9 w9 bt9 hg9
            obtain ⟨V9, c9, rfl, _⟩ := own_form bt9 (by omega)
            have A3 := Lib.hid (A2.out.putG hg9 bt9)
            have LO := Lib.hid (A2.out.box_grown hg9 fun q hq => (A2.out.got.lt q hq).1)
            have O3 := Lib.hid (own_setA (own_grownA O2.out hg9 (own_kindA O2.out A2.out.got it_bool)) ⟨w.heap.size + 3, 1, none⟩ (fun e => by have := (O2.out.lt _ e).1; have := A7.out.size; have := HSZ.out; simp only at *; omega) (.slice V9 (k + 1) c9))
            clear bt9 hg9 hro x1 A2 O2 hb8
            have f1 := LO.out.free 1
            have o1 := LO.out.cell (j := 1) rfl
            go_upto_region 17 with fail
            clear f1 o1 LO
            obtain ⟨W6, hW6⟩ : ∃ W, W = w9.setCell ⟨w.heap.size + 3, 1, none⟩ (.slice V9 (k + 1) c9) := ⟨_, rfl⟩
            rw [← hW6] at A3 O3 ⊢
            clear hW6
            have x2 := A3.out.box.cell (j := 2) rfl
            obtain ⟨AL, cL, rfl, hcL, _⟩ := own_form O3.out (by omega)
            go_wp2_with (at_builtin; refine hold_mk ?_)
            refine hold_out ?_
            have hro := one_rowH W6 (AL, cL, l ++ [i])
            have hb8 := below_al (o := .cells #[.slice AL (t + 1) cL] 30) (Below.refl W6.heap.size W6)
            have A4 := Lib.hid (A3.out.next hb8)
            have O4 : Hid (OwnI (W6.alloc (.cells #[.slice AL (t + 1) cL] 30)) (w.heap.size + 4) (AL, cL, l ++ [i])) := Lib.hid (by
              have h := own_upA O3.out hb8
              have h2 := own_baseA h (show w.heap.size + 4 ≤ wo.heap.size from HSZ.out)
              unfold OwnI
              simp only
              rw [← HLEN.out]
              exact h2)
            simp only at hro
            rw [← HLEN.out] at hro
            refine wpPushH rfl _ _ rfl vH us rfl HUL.out.symm A4.out.held A4.out.size _ 1 (AL, cL, l ++ [i]) rfl hro (by have := HKM.out; have := H8.out; omega) ?_
            intro v8 w8 bt8 hg8
            obtain ⟨V8, c8, rfl, _⟩ := own_form bt8 (by omega)
            have A5 := Lib.hid (A4.out.putH O4.out hg8 bt8)
            have LO := Lib.hid (A4.out.box_grown hg8 fun q hq => (A4.out.held.lt q hq).1)
            clear bt8 hg8 hro x2 A4 O4 hb8
            have f2 := LO.out.free 2
            have o2 := LO.out.cell (j := 2) rfl
            go_wp2_with fail
            go_roundw
            case rel =>
              refine ⟨k + 1, .slice V9 (k + 1) c9, .slice V8 (k + 1) c8, us ++ [(AL, cL, l ++ [i])], rfl, HKM.out, ?_, ?_, by rw [List.length_append, HUL.out]; rfl, ?_⟩
              · rw [List.map_append, HUS.out, HHN.out]; rfl
              · intro x hx
                rcases List.mem_append.1 hx with hx | hx
                · exact HCAP.out x hx
                · rw [List.mem_singleton.1 hx]; simp only; have e : (t + 1) = (l ++ [i]).length := HLEN.out; omega
              · rw [HGN.out, ← HNN.out]
                exact A5.out
            case measure => simp [intOf]; have := HKM.out; omega
          · subst hkj hgf
            have g1 : ((k : Int) == (k : Int)) = true := eq_b rfl
            have HHN := Lib.hid (hs_next (i := i) (l' := l) HLK.out (by rw [if_neg (by rw [HGK.out]; simp)]))
            have HGN := Lib.hid (gs_next (j := k) (g' := true) HGK.out (by rw [if_pos rfl]))
            have HNN : Hid (i.n = nOf a k i (k + 1)) := Lib.hid (by unfold nOf; rw [if_pos ⟨by omega, HGK.out⟩])
            have HGL : Hid (k = ((a.got.set k true).take k).length) := Lib.hid (by rw [List.length_take, List.length_set, ← HNG.out]; have := HKM.out; omega)
            have HLEN : Hid (t = l.length) := Lib.hid HML.out
            have A7 := Lib.hid (A1.out.putN i.n)
            have O7 := Lib.hid (own_setA OW.out ⟨w.heap.size + 3, 0, none⟩ (fun e => by have := (OW.out.lt _ e).1; have := HSZ.out; simp only at *; omega) (.int .i64 i.n))
            have i05 := A1.out.it.cell (j := 5) rfl
            have f0 := A1.out.box.free 0; have o0 := A1.out.box.cell (j := 0) rfl
            go_upto_region 16 with fail
            clear i05 f0 o0
            obtain ⟨w7, hw7⟩ : ∃ W, W = World.setCell wi ⟨w.heap.size + 3, 0, none⟩ (.int .i64 i.n) := ⟨_, rfl⟩
            rw [← hw7] at A7 O7 ⊢
            clear hw7 OW BW A1
            have x1 := A7.out.box.cell (j := 1) rfl
            go_wp2_with (at_builtin; refine hold_mk ?_)
            refine hold_out ?_
            have hro := one_rowG w7 true
            have hb8 := below_al (o := .cells #[.bool true] 4) (Below.refl w7.heap.size w7)
            have A2 := Lib.hid (A7.out.next hb8)
            have O2 := Lib.hid (own_upA O7.out hb8)
            refine wpPushG rfl _ _ rfl vG _ rfl HGL.out A2.out.got A2.out.size _ 1 true rfl hro (by have := HKM.out; have := H8.out; omega) ?_
            intro v9 w9 bt9 hg9
            obtain ⟨V9, c9, rfl, _⟩ := own_form bt9 (by omega)
            have A3 := Lib.hid (A2.out.putG hg9 bt9)
            have LO := Lib.hid (A2.out.box_grown hg9 fun q hq => (A2.out.got.lt q hq).1)
            have O3 := Lib.hid (own_setA (own_grownA O2.out hg9 (own_kindA O2.out A2.out.got it_bool)) ⟨w.heap.size + 3, 1, none⟩ (fun e => by have := (O2.out.lt _ e).1; have := A7.out.size; have := HSZ.out; simp only at *; omega) (.slice V9 (k + 1) c9))
            clear bt9 hg9 hro x1 A2 O2 hb8
            have f1 := LO.out.free 1
            have o1 := LO.out.cell (j := 1) rfl
            go_upto_region 17 with fail
            clear f1 o1 LO
            obtain ⟨W6, hW6⟩ : ∃ W, W = w9.setCell ⟨w.heap.size + 3, 1, none⟩ (.slice V9 (k + 1) c9) := ⟨_, rfl⟩
            rw [← hW6] at A3 O3 ⊢
            clear hW6
            have x2 := A3.out.box.cell (j := 2) rfl
            obtain ⟨AL, cL, rfl, hcL, _⟩ := own_form O3.out (by omega)
            go_wp2_with (at_builtin; refine hold_mk ?_)
            refine hold_out ?_
            have hro := one_rowH W6 (AL, cL, l)
            have hb8 := below_al (o := .cells #[.slice AL t cL] 30) (Below.refl W6.heap.size W6)
            have A4 := Lib.hid (A3.out.next hb8)
            have O4 : Hid (OwnI (W6.alloc (.cells #[.slice AL t cL] 30)) (w.heap.size + 4) (AL, cL, l)) := Lib.hid (by
              have h := own_upA O3.out hb8
              have h2 := own_baseA h (show w.heap.size + 4 ≤ wo.heap.size from HSZ.out)
              unfold OwnI
              simp only
              rw [← HLEN.out]
              exact h2)
            simp only at hro
            rw [← HLEN.out] at hro
            refine wpPushH rfl _ _ rfl vH us rfl HUL.out.symm A4.out.held A4.out.size _ 1 (AL, cL, l) rfl hro (by have := HKM.out; have := H8.out; omega) ?_
            intro v8 w8 bt8 hg8
            obtain ⟨V8, c8, rfl, _⟩ := own_form bt8 (by omega)
            have A5 := Lib.hid (A4.out.putH O4.out hg8 bt8)
            have LO := Lib.hid (A4.out.box_grown hg8 fun q hq => (A4.out.held.lt q hq).1)
            clear bt8 hg8 hro x2 A4 O4 hb8
            have f2 := LO.out.free 2
            have o2 := LO.out.cell (j := 2) rfl
            go_wp2_with fail
            go_roundw
            case rel =>
              refine ⟨k + 1, .slice V9 (k + 1) c9, .slice V8 (k + 1) c8, us ++ [(AL, cL, l)], rfl, HKM.out, ?_, ?_, by rw [List.length_append, HUL.out]; rfl, ?_⟩
              · rw [List.map_append, HUS.out, HHN.out]; rfl
              · intro x hx
                rcases List.mem_append.1 hx with hx | hx
                · exact HCAP.out x hx
                · rw [List.mem_singleton.1 hx]; simp only; have e : t = (l).length := HLEN.out; omega
              · rw [HGN.out, ← HNN.out]
                exact A5.out
            case measure => simp [intOf]; have := HKM.out; omega
          · have g1 : ((k : Int) == (j : Int)) = false := ne_b (by omega)
            have HHN := Lib.hid (hs_next (j := j) (i := i) (l' := l) HLK.out (by rw [if_neg (fun e => hkj e.1)]))
            have HGN := Lib.hid (gs_next (j := j) (g' := g) HGK.out (by rw [if_neg hkj]))
            have HNN : Hid (nOf a j i k = nOf a j i (k + 1)) := Lib.hid (n_same hkj)
            have HGL : Hid (k = ((a.got.set j true).take k).length) := Lib.hid (by rw [List.length_take, List.length_set, ← HNG.out]; have := HKM.out; omega)
            have HLEN : Hid (t = l.length) := Lib.hid HML.out
            obtain ⟨w7, hw7⟩ : ∃ W, W = wi := ⟨_, rfl⟩
            subst hw7
            have A7 := Lib.hid A1.out
            have O7 := Lib.hid OW.out
            clear OW BW A1 hkj
            have x1 := A7.out.box.cell (j := 1) rfl
            go_wp2_with (at_builtin; refine hold_mk ?_)
            refine hold_out ?_
            have hro := one_rowG w7 g
            have hb8 := below_al (o := .cells #[.bool g] 4) (Below.refl w7.heap.size w7)
            have A2 := Lib.hid (A7.out.next hb8)
            have O2 := Lib.hid (own_upA O7.out hb8)
            refine wpPushG rfl _ _ rfl vG _ rfl HGL.out A2.out.got A2.out.size _ 1 g rfl hro (by have := HKM.out; have := H8.out; omega) ?_
            intro v9 w9 bt9 hg9
            obtain ⟨V9, c9, rfl, _⟩ := own_form bt9 (by omega)
            have A3 := Lib.hid (A2.out.putG hg9 bt9)
            have LO := Lib.hid (A2.out.box_grown hg9 fun q hq => (A2.out.got.lt q hq).1)
            have O3 := Lib.hid (own_setA (own_grownA O2.out hg9 (own_kindA O2.out A2.out.got it_bool)) ⟨w.heap.size + 3, 1, none⟩ (fun e => by have := (O2.out.lt _ e).1; have := A7.out.size; have := HSZ.out; simp only at *; omega) (.slice V9 (k + 1) c9))
            clear bt9 hg9 hro x1 A2 O2 hb8
            have f1 := LO.out.free 1
            have o1 := LO.out.cell (j := 1) rfl
            go_upto_region 17 with fail
            clear f1 o1 LO
            obtain ⟨W6, hW6⟩ : ∃ W, W = w9.setCell ⟨w.heap.size + 3, 1, none⟩ (.slice V9 (k + 1) c9) := ⟨_, rfl⟩
            rw [← hW6] at A3 O3 ⊢
            clear hW6
            have x2 := A3.out.box.cell (j := 2) rfl
            obtain ⟨AL, cL, rfl, hcL, _⟩ := own_form O3.out (by omega)
            go_wp2_with (at_builtin; refine hold_mk ?_)
            refine hold_out ?_
            have hro := one_rowH W6 (AL, cL, l)
            have hb8 := below_al (o := .cells #[.slice AL t cL] 30) (Below.refl W6.heap.size W6)
            have A4 := Lib.hid (A3.out.next hb8)
            have O4 : Hid (OwnI (W6.alloc (.cells #[.slice AL t cL] 30)) (w.heap.size + 4) (AL, cL, l)) := Lib.hid (by
              have h := own_upA O3.out hb8
              have h2 := own_baseA h (show w.heap.size + 4 ≤ wo.heap.size from HSZ.out)
              unfold OwnI
              simp only
              rw [← HLEN.out]
              exact h2)
            simp only at hro
            rw [← HLEN.out] at hro
            refine wpPushH rfl _ _ rfl vH us rfl HUL.out.symm A4.out.held A4.out.size _ 1 (AL, cL, l) rfl hro (by have := HKM.out; have := H8.out; omega) ?_
            intro v8 w8 bt8 hg8
            obtain ⟨V8, c8, rfl, _⟩ := own_form bt8 (by omega)
            have A5 := Lib.hid (A4.out.putH O4.out hg8 bt8)
            have LO := Lib.hid (A4.out.box_grown hg8 fun q hq => (A4.out.held.lt q hq).1)
            clear bt8 hg8 hro x2 A4 O4 hb8
            have f2 := LO.out.free 2
            have o2 := LO.out.cell (j := 2) rfl
            go_wp2_with fail
            go_roundw
            case rel =>
              refine ⟨k + 1, .slice V9 (k + 1) c9, .slice V8 (k + 1) c8, us ++ [(AL, cL, l)], rfl, HKM.out, ?_, ?_, by rw [List.length_append, HUL.out]; rfl, ?_⟩
              · rw [List.map_append, HUS.out, HHN.out]; rfl
              · intro x hx
                rcases List.mem_append.1 hx with hx | hx
                · exact HCAP.out x hx
                · rw [List.mem_singleton.1 hx]; simp only; have e : t = (l).length := HLEN.out; omega
              · rw [HGN.out, ← HNN.out]
                exact A5.out
            case measure => simp [intOf]; have := HKM.out; omega
    · have hki : ¬ (k : Int) < (ng : Int) := by omega
      have hkn : k = ng := by omega
      subst hkn
      have HNF : Hid (nOf a j i k = (behindA a j i).n) := Lib.hid (by
        have h := n_end a j i (by rw [← HNG.out]; exact HJ.out)
        rw [← HNG.out] at h
        exact h)
      rw [HNF.out] at AT
      have x0 := AT.out.box.cell (j := 0) rfl; have x1 := AT.out.box.cell (j := 1) rfl; have x2 := AT.out.box.cell (j := 2) rfl
      have y0 := AT.out.res.cell (j := 0) rfl; have y1 := AT.out.res.cell (j := 1) rfl; have y2 := AT.out.res.cell (j := 2) rfl
      have z0 := AT.out.res.free 0; have z1 := AT.out.res.free 1; have z2 := AT.out.res.free 2
      obtain ⟨VG, cG2, rfl, _⟩ := own_form AT.out.got (by omega)
      obtain ⟨VH, cH2, rfl, _⟩ := own_form AT.out.held (by omega)
      have GOT := Lib.hid AT.out.got
      have HELD := Lib.hid AT.out.held
      have HGF : Hid ((a.got.set j true).take k = (behindA a j i).got) := Lib.hid (by rw [List.take_of_length_le (by rw [List.length_set, ← HNG.out]; exact Nat.le_refl _)]; rfl)
      have HHF : Hid (us.map (fun x => x.2.2) = (behindA a j i).held) := Lib.hid (by
        rw [HUS.out]
        refine List.take_of_length_le ?_
        have e1 := congrArg List.length HHS.out
        rw [List.length_map] at e1
        unfold behindA
        simp only
        split
        · rw [List.length_set, ← e1, HHL.out]; exact Nat.le_refl _
        · rw [← e1, HHL.out]; exact Nat.le_refl _)
      have OG := Lib.hid (own_set3A GOT.out (b := w.heap.size + 2) (fun e => by have := (GOT.out.lt _ e).1; omega) (.int .i64 (behindA a j i).n) (.slice VG k cG2) (.slice VH k cH2))
      have OH := Lib.hid (own_set3A HELD.out (b := w.heap.size + 2) (fun e => by have := (HELD.out.lt _ e).1; omega) (.int .i64 (behindA a j i).n) (.slice VG k cG2) (.slice VH k cH2))
      have OE := Lib.hid (fun x hx => own_set3A (AT.out.each x hx) (b := w.heap.size + 2) (fun e => by have := ((AT.out.each x hx).lt _ e).1; omega) (.int .i64 (behindA a j i).n) (.slice VG k cG2) (.slice VH k cH2))
      have OL := Lib.hid (lies_set3A AT.out.res (.int .i64 (behindA a j i).n) (.slice VG k cG2) (.slice VH k cH2))
      have OB := Lib.hid (below_set3A AT.out.below (show w.heap.size ≤ w.heap.size + 2 by omega) (.int .i64 (behindA a j i).n) (.slice VG k cG2) (.slice VH k cH2))
      clear hlt hk
      go_wp2_with fail
      have ho := HO.out
      subst ho
      have hg2 := OG.out
      rw [HGF.out] at hg2
      refine behind_ret (R := w.heap.size + 2) (hs := us) ?_ ?_ OL.out ⟨own_baseA hg2 (by omega), own_baseA OH.out (by omega), fun x hx => own_baseA (OE.out x hx) (by omega)⟩ HHF.out OB.out <;> rfl
end Aln
end Go.Proofs.Ytgbklmncfajcgaa
