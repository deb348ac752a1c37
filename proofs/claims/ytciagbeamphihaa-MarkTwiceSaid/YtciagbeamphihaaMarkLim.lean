/- The code's limit: what delays, folded; what is permitted. -/
import Derived.Test.YtciagbeamphihaaMarkSetR
import Derived.Lib.MinMax
import Derived.Deep.RegionWith
namespace Go.Proofs.Ytciagbeamphihaa
open Go.RowKit
set_option linter.unusedVariables false
set_option maxRecDepth 8000
namespace Wm
structure Lim where
  t : Int
  is : Bool
abbrev limC (l : Lim) : Array Value := #[.int .i64 l.t, .bool l.is]
abbrev limV (l : Lim) : Value := .agg #[.int .i64 l.t, .bool l.is]
def lower (l : Lim) (a : Int) : Lim := if l.is then ⟨min l.t a, true⟩ else ⟨a, true⟩
def inL (l : Lim) (x : In) : Lim := if x.idle then l else lower l x.mark
def hoL (l : Lim) (x : Ho) : Lim := lower l x.at_
def TellsL (l : Lim) (w : World) (e : Ending) (w' : World) : Prop := e = .returned (limV l) ∧ Below w.heap.size w w'
theorem foldl_next {α β : Type} (f : β → α → β) (a : β) {xs : List α} {k : Nat} {x : α} (h : xs[k]? = some x) : (xs.take (k + 1)).foldl f a = f ((xs.take k).foldl f a) x := by
  rw [List.take_add_one, h, List.foldl_append]; rfl
def setL2 (w : World) (R : Nat) (l : Lim) : World := (w.setCell ⟨R, 0, none⟩ (.int .i64 l.t)).setCell ⟨R, 1, none⟩ (.bool l.is)
theorem lies_setL2 {R : Nat} {l0 : Lim} {w : World} (h : Lies R (limC l0) 67 w) (l : Lim) : Lies R (limC l) 67 (setL2 w R l) := (h.set 0 _).set 1 _
theorem below_setL2 {w0 w : World} {R B : Nat} (h : Below B w0 w) (hB : B ≤ R) (l : Lim) : Below B w0 (setL2 w R l) :=
  (h.setCell (p := ⟨R, 0, none⟩) hB _).setCell (p := ⟨R, 1, none⟩) hB _
theorem lies_up {b : Nat} {C : Array Value} {T : TypeId} {w w' : World} (h : Lies b C T w) (hb : Below w.heap.size w w') : Lies b C T w' := (hb.block _ (lt_of_block h)).trans h
theorem lies_off {b : Nat} {C : Array Value} {T : TypeId} {w : World} (h : Lies b C T w) {R : Nat} (hne : b ≠ R) (l : Lim) : Lies b C T (setL2 w R l) := (h.other hne _ _).other hne _ _
theorem lower_ret {w wF : World} {R : Nat} {l : Lim} {act : Act} (ht : act.tmps.getD 4 undef = .pointer (some ⟨R, 0, none⟩)) (hd : act.defers = []) (hL : Lies R (limC l) 67 wF) (hB : Below w.heap.size w wF) :
    bodyPost Try.prog Try.f53 (TellsL l w) .ret act wF := by
  have c0 := hL.cell (j := 0) rfl
  have c1 := hL.cell (j := 1) rfl
  refine bodyPost_ret (v := limV l) ?_ hd ⟨rfl, hB⟩
  have ht2 : act.tmps[4]?.getD undef = .pointer (some ⟨R, 0, none⟩) := by simpa using ht
  simp [results, Try.results53, go_sem, ht2, c0, c1]
theorem ckLower (l : Lim) (a : Int) (w : World) : Calls Try.prog 53 #[limV l, .int .i64 a] w (TellsL (lower l a) w) := by
  obtain ⟨t, is⟩ := l
  have hway : (is = false ∧ lower ⟨t, is⟩ a = ⟨a, true⟩) ∨ (is = true ∧ lower ⟨t, is⟩ a = ⟨min t a, true⟩) := by
    cases is
    · left; exact ⟨rfl, rfl⟩
    · right; exact ⟨rfl, rfl⟩
  rcases hway with ⟨rfl, e⟩ | ⟨rfl, e⟩
  all_goals (
    rw [e]
    clear e
    go_enter Try.func53, Try.ntmps53
    go_wp2_with fail
    all_goals (
      refine lower_ret (R := w.heap.size + 1) rfl rfl ?_ (below_al (al_below _ _))
      exact lies_at (by simp) _ _))
theorem input_ret {w wF : World} {R : Nat} {l : Lim} {act : Act} (ht : act.tmps.getD 4 undef = .pointer (some ⟨R, 0, none⟩)) (hd : act.defers = []) (hL : Lies R (limC l) 67 wF) (hB : Below w.heap.size w wF) :
    bodyPost Try.prog Try.f45 (TellsL l w) .ret act wF := by
  have c0 := hL.cell (j := 0) rfl
  have c1 := hL.cell (j := 1) rfl
  refine bodyPost_ret (v := limV l) ?_ hd ⟨rfl, hB⟩
  have ht2 : act.tmps[4]?.getD undef = .pointer (some ⟨R, 0, none⟩) := by simpa using ht
  simp [results, Try.results45, go_sem, ht2, c0, c1]
theorem ckInput (l : Lim) (x : In) (w : World) : Calls Try.prog 45 #[limV l, inV x] w (TellsL (inL l x) w) := by
  obtain ⟨mark, idle⟩ := x
  cases idle
  · have HL := Lib.hid (fun w => ckLower l mark w)
    have e : inL l ⟨mark, false⟩ = lower l mark := rfl
    rw [e]
    obtain ⟨r, hr⟩ : ∃ r, r = lower l mark := ⟨_, rfl⟩
    rw [← hr] at HL ⊢
    have L0 := Lib.hid (show Lies (w.heap.size + 2) (limC ⟨0, false⟩) 67 (((w.alloc (.cells (limC l) 67)).alloc (.cells (inC ⟨mark, false⟩) 42)).alloc (.cells (limC ⟨0, false⟩) 67)) from lies_at (by simp) _ _)
    clear e hr
    go_enter Try.func45, Try.ntmps45
    go_wp2_with fail
    refine (HL.out _).mono ?_
    rintro e w1 ⟨rfl, hb1⟩
    have L1 := Lib.hid (lies_up L0.out hb1)
    have HB1 := Lib.hid (below_next (below_al (below_al (al_below _ _))) hb1)
    have r0 := L1.out.cell (j := 0) rfl
    have r1 := L1.out.cell (j := 1) rfl
    have f0 := L1.out.free 0
    have f1 := L1.out.free 1
    clear hb1
    go_wp2_with fail
    exact input_ret rfl rfl (lies_setL2 L1.out r) (below_setL2 HB1.out (by omega) r)
  · have e : inL l ⟨mark, true⟩ = l := rfl
    rw [e]
    clear e
    go_enter Try.func45, Try.ntmps45
    go_wp2_with fail
    refine input_ret (R := w.heap.size + 2) rfl rfl ?_ (below_al (below_al (al_below _ _)))
    exact lies_at (by simp) _ _
theorem hold_ret {w wF : World} {R : Nat} {l : Lim} {act : Act} (ht : act.tmps.getD 4 undef = .pointer (some ⟨R, 0, none⟩)) (hd : act.defers = []) (hL : Lies R (limC l) 67 wF) (hB : Below w.heap.size w wF) :
    bodyPost Try.prog Try.f46 (TellsL l w) .ret act wF := by
  have c0 := hL.cell (j := 0) rfl
  have c1 := hL.cell (j := 1) rfl
  refine bodyPost_ret (v := limV l) ?_ hd ⟨rfl, hB⟩
  have ht2 : act.tmps[4]?.getD undef = .pointer (some ⟨R, 0, none⟩) := by simpa using ht
  simp [results, Try.results46, go_sem, ht2, c0, c1]
theorem ckHoldL (l : Lim) (x : Ho) (w : World) : Calls Try.prog 46 #[limV l, hoV x] w (TellsL (hoL l x) w) := by
  obtain ⟨no, t⟩ := x
  have HL := Lib.hid (fun w => ckLower l t w)
  have e : hoL l ⟨no, t⟩ = lower l t := rfl
  rw [e]
  obtain ⟨r, hr⟩ : ∃ r, r = lower l t := ⟨_, rfl⟩
  rw [← hr] at HL ⊢
  have L0 := Lib.hid (show Lies (w.heap.size + 2) (limC ⟨0, false⟩) 67 (((w.alloc (.cells (limC l) 67)).alloc (.cells (hoC ⟨no, t⟩) 44)).alloc (.cells (limC ⟨0, false⟩) 67)) from lies_at (by simp) _ _)
  clear e hr
  go_enter Try.func46, Try.ntmps46
  go_wp2_with fail
  refine (HL.out _).mono ?_
  rintro e w1 ⟨rfl, hb1⟩
  have L1 := Lib.hid (lies_up L0.out hb1)
  have HB1 := Lib.hid (below_next (below_al (below_al (al_below _ _))) hb1)
  have r0 := L1.out.cell (j := 0) rfl
  have r1 := L1.out.cell (j := 1) rfl
  have f0 := L1.out.free 0
  have f1 := L1.out.free 1
  clear hb1
  go_wp2_with fail
  exact hold_ret rfl rfl (lies_setL2 L1.out r) (below_setL2 HB1.out (by omega) r)
/-- A fold's blocks: the limit, the answer. -/
structure FoAt (w0 : World) (l : Lim) (w : World) : Prop where
  bx : Lies w0.heap.size (limC l) 67 w
  res : Lies (w0.heap.size + 1) (limC ⟨0, false⟩) 67 w
  below : Below w0.heap.size w0 w
theorem FoAt.next {w0 w w' : World} {l : Lim} (h : FoAt w0 l w) (hb : Below w.heap.size w w') : FoAt w0 l w' := ⟨lies_up h.bx hb, lies_up h.res hb, below_next h.below hb⟩
theorem FoAt.start (w : World) (l : Lim) : FoAt w l ((w.alloc (.cells (limC l) 67)).alloc (.cells (limC ⟨0, false⟩) 67)) := ⟨(Lies.new w _ _).al, lies_at (by simp) _ _, below_al (al_below _ _)⟩
theorem FoAt.put {w0 w : World} {l : Lim} (h : FoAt w0 l w) (l' : Lim) : FoAt w0 l' (setL2 w w0.heap.size l') := ⟨lies_setL2 h.bx l', lies_off h.res (by omega) l', below_setL2 h.below (Nat.le_refl _) l'⟩
theorem ckFoldI_ret {w wF : World} {R : Nat} {l : Lim} {act : Act} (ht : act.tmps.getD 6 undef = .pointer (some ⟨R, 0, none⟩)) (hd : act.defers = []) (hL : Lies R (limC l) 67 wF) (hB : Below w.heap.size w wF) :
    bodyPost Try.prog Try.f44 (TellsL l w) .ret act wF := by
  have c0 := hL.cell (j := 0) rfl
  have c1 := hL.cell (j := 1) rfl
  refine bodyPost_ret (v := limV l) ?_ hd ⟨rfl, hB⟩
  have ht2 : act.tmps[6]?.getD undef = .pointer (some ⟨R, 0, none⟩) := by simpa using ht
  simp [results, Try.results44, go_sem, ht2, c0, c1]
set_option maxRecDepth 100000 in
set_option maxHeartbeats 1000000 in
theorem ckFoldI (l : Lim) (xs : List In) (A : Option Addr) (c : Nat) (w : World) (h : Row w A (ic xs)) (hl : xs.length ≤ 9223372036854775807) : Calls Try.prog 44 #[limV l, .slice A xs.length c, .func (.func 45) #[] #[]] w (TellsL (xs.foldl inL l) w) := by
  have H := Lib.hid h
  obtain ⟨r, hr⟩ : ∃ r, r = xs.foldl inL l := ⟨_, rfl⟩
  have HR := Lib.hid hr
  rw [← hr]
  have F0 := Lib.hid (FoAt.start w l)
  clear h hr
  go_enter Try.func44, Try.ntmps44
  go_wp2_with fail
  go_loopw [11] (fun i wr => ∃ (k : Nat) (y : Lim), i = .int .i64 k ∧ k ≤ xs.length ∧ y = (xs.take k).foldl inL l ∧ FoAt w y wr) (fun i _ => xs.length - (intOf i).toNat)
  case atStart => exact ⟨0, l, rfl, Nat.zero_le _, rfl, F0.out⟩
  case round =>
    obtain ⟨k, y, rfl, hk, hy, hF⟩ := hrel
    have HF := Lib.hid hF
    have HY := Lib.hid hy
    clear hF hy F0
    by_cases hlt : k < xs.length
    · obtain ⟨x, hx⟩ : ∃ x, xs[k]? = some x := ⟨_, List.getElem?_eq_getElem hlt⟩
      obtain ⟨b, off, rfl, c0, c1⟩ := row_in (H.out.below HF.out.below) hx
      have HN := Lib.hid (show inL y x = (xs.take (k + 1)).foldl inL l from by rw [foldl_next inL l hx, HY.out])
      have HC := Lib.hid (fun w => ckInput y x w)
      have F1 := Lib.hid (HF.out.next (al_below wr (.cells (inC x) 42)))
      have b0 := F1.out.bx.cell (j := 0) rfl
      have b1 := F1.out.bx.cell (j := 1) rfl
      obtain ⟨z, hz⟩ : ∃ z, z = inL y x := ⟨_, rfl⟩
      rw [← hz] at HN HC
      have d0 := HF.out.bx.cell (j := 0) rfl
      have d1 := HF.out.bx.cell (j := 1) rfl
      have hq := lt_of_block HF.out.bx
      clear hx hz
      go_wp2_with fail
      refine (HC.out _).mono ?_
      rintro e w1 ⟨rfl, hb1⟩
      have F2 := Lib.hid (F1.out.next hb1)
      clear hb1 b0 b1 d0 d1 c0 c1
      have b0 := F2.out.bx.cell (j := 0) rfl
      have b1 := F2.out.bx.cell (j := 1) rfl
      have f0 := F2.out.bx.free 0
      have f1 := F2.out.bx.free 1
      go_wp2_with fail
      go_roundw
      case rel => exact ⟨k + 1, z, by go_num, by omega, HN.out, F2.out.put z⟩
      case measure => simp [intOf]; omega
    · have HE := Lib.hid (show y = r by rw [HY.out, List.take_of_length_le (by omega), HR.out])
      have b0 := HF.out.bx.cell (j := 0) rfl
      have b1 := HF.out.bx.cell (j := 1) rfl
      have q0 := HF.out.res.cell (j := 0) rfl
      have q1 := HF.out.res.cell (j := 1) rfl
      have f0 := HF.out.res.free 0
      have f1 := HF.out.res.free 1
      go_wp2_with fail
      rw [← HE.out]
      exact ckFoldI_ret rfl rfl (lies_setL2 HF.out.res y) (below_setL2 HF.out.below (by omega) y)
theorem ckFoldH_ret {w wF : World} {R : Nat} {l : Lim} {act : Act} (ht : act.tmps.getD 6 undef = .pointer (some ⟨R, 0, none⟩)) (hd : act.defers = []) (hL : Lies R (limC l) 67 wF) (hB : Below w.heap.size w wF) :
    bodyPost Try.prog Try.f43 (TellsL l w) .ret act wF := by
  have c0 := hL.cell (j := 0) rfl
  have c1 := hL.cell (j := 1) rfl
  refine bodyPost_ret (v := limV l) ?_ hd ⟨rfl, hB⟩
  have ht2 : act.tmps[6]?.getD undef = .pointer (some ⟨R, 0, none⟩) := by simpa using ht
  simp [results, Try.results43, go_sem, ht2, c0, c1]
set_option maxRecDepth 100000 in
set_option maxHeartbeats 1000000 in
theorem ckFoldH (l : Lim) (xs : List Ho) (A : Option Addr) (c : Nat) (w : World) (h : Row w A (hc xs)) (hl : xs.length ≤ 9223372036854775807) : Calls Try.prog 43 #[limV l, .slice A xs.length c, .func (.func 46) #[] #[]] w (TellsL (xs.foldl hoL l) w) := by
  have H := Lib.hid h
  obtain ⟨r, hr⟩ : ∃ r, r = xs.foldl hoL l := ⟨_, rfl⟩
  have HR := Lib.hid hr
  rw [← hr]
  have F0 := Lib.hid (FoAt.start w l)
  clear h hr
  go_enter Try.func43, Try.ntmps43
  go_wp2_with fail
  go_loopw [11] (fun i wr => ∃ (k : Nat) (y : Lim), i = .int .i64 k ∧ k ≤ xs.length ∧ y = (xs.take k).foldl hoL l ∧ FoAt w y wr) (fun i _ => xs.length - (intOf i).toNat)
  case atStart => exact ⟨0, l, rfl, Nat.zero_le _, rfl, F0.out⟩
  case round =>
    obtain ⟨k, y, rfl, hk, hy, hF⟩ := hrel
    have HF := Lib.hid hF
    have HY := Lib.hid hy
    clear hF hy F0
    by_cases hlt : k < xs.length
    · obtain ⟨x, hx⟩ : ∃ x, xs[k]? = some x := ⟨_, List.getElem?_eq_getElem hlt⟩
      obtain ⟨b, off, rfl, c0, c1⟩ := row_ho (H.out.below HF.out.below) hx
      have HN := Lib.hid (show hoL y x = (xs.take (k + 1)).foldl hoL l from by rw [foldl_next hoL l hx, HY.out])
      have HC := Lib.hid (fun w => ckHoldL y x w)
      have F1 := Lib.hid (HF.out.next (al_below wr (.cells (hoC x) 44)))
      have b0 := F1.out.bx.cell (j := 0) rfl
      have b1 := F1.out.bx.cell (j := 1) rfl
      obtain ⟨z, hz⟩ : ∃ z, z = hoL y x := ⟨_, rfl⟩
      rw [← hz] at HN HC
      have d0 := HF.out.bx.cell (j := 0) rfl
      have d1 := HF.out.bx.cell (j := 1) rfl
      have hq := lt_of_block HF.out.bx
      clear hx hz
      go_wp2_with fail
      refine (HC.out _).mono ?_
      rintro e w1 ⟨rfl, hb1⟩
      have F2 := Lib.hid (F1.out.next hb1)
      clear hb1 b0 b1 d0 d1 c0 c1
      have b0 := F2.out.bx.cell (j := 0) rfl
      have b1 := F2.out.bx.cell (j := 1) rfl
      have f0 := F2.out.bx.free 0
      have f1 := F2.out.bx.free 1
      go_wp2_with fail
      go_roundw
      case rel => exact ⟨k + 1, z, by go_num, by omega, HN.out, F2.out.put z⟩
      case measure => simp [intOf]; omega
    · have HE := Lib.hid (show y = r by rw [HY.out, List.take_of_length_le (by omega), HR.out])
      have b0 := HF.out.bx.cell (j := 0) rfl
      have b1 := HF.out.bx.cell (j := 1) rfl
      have q0 := HF.out.res.cell (j := 0) rfl
      have q1 := HF.out.res.cell (j := 1) rfl
      have f0 := HF.out.res.free 0
      have f1 := HF.out.res.free 1
      go_wp2_with fail
      rw [← HE.out]
      exact ckFoldH_ret rfl rfl (lies_setL2 HF.out.res y) (below_setL2 HF.out.below (by omega) y)
end Wm
end Go.Proofs.Ytciagbeamphihaa
