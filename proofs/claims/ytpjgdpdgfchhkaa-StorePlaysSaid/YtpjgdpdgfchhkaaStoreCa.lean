/- The code's rightCell, rightCells, counting, Right. -/
import Derived.Test.YtpjgdpdgfchhkaaStoreZ
import Derived.Test.YtpjgdpdgfchhkaaGenOwn
namespace Go.Proofs.Ytpjgdpdgfchhkaa
open Go.ChangeShapes Go.WideShapes Go.ChangeAt Go.RowKit
set_option linter.unusedVariables false
set_option maxRecDepth 8000
namespace So
open Gen (TellsB row_one flat_len flat_get)
theorem ckCell (x : Cl) (r : Bool) (hr : r = mayB x) (w : World) : Calls Try.prog 44 #[.agg (clC x)] w (TellsB r w) := by
  obtain ⟨n, b⟩ := x
  have HB := Lib.hid (below_al (o := .cells (clC ⟨n, b⟩) 43) (Below.refl w.heap.size w))
  obtain ⟨nl, hnl⟩ : ∃ k, k = n.length := ⟨_, rfl⟩
  obtain ⟨bl, hbl⟩ : ∃ k, k = b.length := ⟨_, rfl⟩
  have e1 : (kS n).size = nl := by rw [kS_size, hnl]
  have e2 : (kS b).size = bl := by rw [kS_size, hbl]
  have HR : Hid (r = (decide (1 ≤ nl) && (decide (nl ≤ 16) && decide (bl ≤ 4096)))) := Lib.hid (by rw [hr, mayB_as, hnl, hbl])
  clear hr hnl hbl
  by_cases h1 : 1 ≤ nl
  · have g1 : decide ((1 : Int) ≤ (nl : Int)) = true := decide_eq_true (by omega)
    by_cases h2 : nl ≤ 16
    · have g2 : decide ((nl : Int) ≤ 16) = true := decide_eq_true (by omega)
      by_cases h3 : bl ≤ 4096
      · have g3 : decide ((bl : Int) ≤ 4096) = true := decide_eq_true (by omega)
        have e : r = true := by rw [HR.out, decide_eq_true h1, decide_eq_true h2, decide_eq_true h3]; rfl
        clear h1 h2 h3
        go_enter Try.func44, Try.ntmps44
        go_wp2_with fail
        go_ret
        exact ⟨by (try rw [e]); rfl, HB.out⟩
      · have g3 : decide ((bl : Int) ≤ 4096) = false := decide_eq_false (by omega)
        have e : r = false := by rw [HR.out, decide_eq_true h1, decide_eq_true h2, decide_eq_false h3]; rfl
        clear h1 h2 h3
        go_enter Try.func44, Try.ntmps44
        go_wp2_with fail
        go_ret
        exact ⟨by (try rw [e]); rfl, HB.out⟩
    · have g2 : decide ((nl : Int) ≤ 16) = false := decide_eq_false (by omega)
      have e : r = false := by rw [HR.out, decide_eq_true h1, decide_eq_false h2]; rfl
      clear h1 h2
      go_enter Try.func44, Try.ntmps44
      go_wp2_with fail
      go_ret
      exact ⟨by (try rw [e]); rfl, HB.out⟩
  · have g1 : decide ((1 : Int) ≤ (nl : Int)) = false := decide_eq_false (by omega)
    have e : r = false := by rw [HR.out, decide_eq_false h1]; rfl
    clear h1
    go_enter Try.func44, Try.ntmps44
    go_wp2_with fail
    go_ret
    exact ⟨by (try rw [e]); rfl, HB.out⟩
theorem ckNotCell (x : Cl) (r : Bool) (hr : r = mayB x) (w : World) : Calls Try.prog 43 #[.agg (clC x)] w (TellsB (!r) w) := by
  have HC := Lib.hid (fun w' => ckCell x r hr w')
  have hb0 := below_al (o := .cells (clC x) 43) (Below.refl w.heap.size w)
  have HB := Lib.hid hb0
  have L := Lib.hid (Lies.new w (clC x) 43)
  obtain ⟨n, b⟩ := x
  simp only [clC] at HC HB L ⊢
  clear hb0 hr
  go_enter Try.func43, Try.ntmps43
  go_upto_region 1 with fail
  obtain ⟨tb, htb⟩ : ∃ b, b = w.heap.size := ⟨_, rfl⟩
  obtain ⟨W, hW⟩ : ∃ W, W = w.alloc (.cells #[.string (kS n), .string (kS b)] 43) := ⟨_, rfl⟩
  rw [← hW] at L HB ⊢
  rw [← htb] at L ⊢
  clear hW htb
  have x0 := L.out.cell (j := 0) rfl; have x1 := L.out.cell (j := 1) rfl
  go_wp2_with fail
  refine (HC.out _).mono ?_
  rintro e w1 ⟨rfl, hb1⟩
  have HB1 := Lib.hid (below_next HB.out hb1)
  clear hb1
  go_wp2_with fail
  go_ret
  exact ⟨rfl, HB1.out⟩
/-- The place of one that is not right, or none. -/
def AtBad (r : Bool) (w : World) (e : Ending) (w' : World) : Prop := Below w.heap.size w w' ∧ ((∃ p : Nat, e = .returned (.int .i64 p) ∧ r = false) ∨ (e = .returned (.int .i64 (-1)) ∧ r = true))
theorem all_of {l : List Cl} {n : Nat} (hn : n = l.length) (h : UpF l n) : l.all mayB = true := by
  rw [List.all_eq_true]
  intro x hx
  obtain ⟨i, hi⟩ := List.getElem?_of_mem hx
  exact h i x (by rw [hn]; exact (List.getElem?_eq_some_iff.1 hi).1) hi
theorem all_not {l : List Cl} {i : Nat} {x : Cl} (hx : l[i]? = some x) (h : mayB x = false) : l.all mayB = false := by
  cases e : l.all mayB
  · rfl
  · rw [List.all_eq_true] at e
    have := e x (List.mem_of_getElem? hx)
    rw [h] at this; cases this
theorem up_all {l : List Cl} (h : l.all mayB = true) : UpF l l.length := fun i x _ hx => List.all_eq_true.1 h x (List.mem_of_getElem? hx)
set_option maxRecDepth 100000 in
theorem ckIdxF (l : List Cl) (n : Nat) (A : Option Addr) (c : Nat) (r : Bool) (hn : n = l.length) (hr : r = l.all mayB) (w : World) (h : Row w A (clc l)) (hl : n ≤ 4611686018427387904) :
    Calls Try.prog 48 #[.slice A n c, .func (.func 43) #[] #[]] w (AtBad r w) := by
  have HR := Lib.hid h
  have HN := Lib.hid hn
  have HRR := Lib.hid hr
  clear h hn hr
  go_enter Try.func48, Try.ntmps48
  go_wp2_with fail
  go_loopw [8] (fun s8 wr => ∃ j : Nat, s8 = .int .i64 j ∧ j ≤ n ∧ UpF l j ∧ Below w.heap.size w wr) (fun s8 _ => n - (intOf s8).toNat)
  case atStart => exact ⟨0, rfl, Nat.zero_le _, fun i x hi => absurd hi (Nat.not_lt_zero _), Below.refl _ _⟩
  case round =>
    obtain ⟨j, rfl, hk, hno, hb⟩ := hrel
    have HB := Lib.hid hb
    have HNO := Lib.hid hno
    clear hb hno
    by_cases hlt : j < n
    · obtain ⟨x, hx⟩ : ∃ x, l[j]? = some x := ⟨_, List.getElem?_eq_getElem (by rw [← HN.out]; exact hlt)⟩
      obtain ⟨b, off, rfl, c0, c1⟩ := cell_row (HR.out.below HB.out) hx
      have HX := Lib.hid hx
      have hki : (j : Int) < (n : Int) := by omega
      have HW := wrapKO (k := j) (by omega)
      have HK := Lib.hid hlt
      clear hx hlt hk
      obtain ⟨q, hq⟩ : ∃ q, q = mayB x := ⟨_, rfl⟩
      have HD := Lib.hid (ckNotCell x q hq wr)
      have HQ := Lib.hid hq
      clear hq
      obtain ⟨xn, xb⟩ := x
      simp only [clC] at HD
      simp only at c0 c1
      cases q with
      | false =>
        go_wp2_with (go_at_call 43; refine HD.out.mono ?_; rintro e w1 ⟨rfl, hb1⟩; have HB1 := Lib.hid (below_next HB.out hb1); clear hb1)
        go_ret
        exact ⟨HB1.out, .inl ⟨j, rfl, HRR.out.trans (all_not HX.out HQ.out.symm)⟩⟩
      | true =>
        go_wp2_with (go_at_call 43; refine HD.out.mono ?_; rintro e w1 ⟨rfl, hb1⟩; have HB1 := Lib.hid (below_next HB.out hb1); clear hb1)
        go_roundw
        case rel => exact ⟨j + 1, rfl, HK.out, HNO.out.next HX.out HQ.out.symm, HB1.out⟩
        case measure => simp [intOf]; have := HK.out; omega
    · have hge : ¬ (j : Int) < (n : Int) := by omega
      have HU : Hid (UpF l n) := Lib.hid (by rw [show n = j by omega]; exact HNO.out)
      clear hlt hk
      go_wp2_with fail
      go_ret
      exact ⟨HB.out, .inr ⟨rfl, HRR.out.trans (all_of HN.out HU.out)⟩⟩
theorem ckContF (l : List Cl) (n : Nat) (A : Option Addr) (c : Nat) (r : Bool) (hn : n = l.length) (hr : r = l.all mayB) (w : World) (h : Row w A (clc l)) (hl : n ≤ 4611686018427387904) :
    Calls Try.prog 42 #[.slice A n c, .func (.func 43) #[] #[]] w (TellsB (!r) w) := by
  have HI := Lib.hid (ckIdxF l n A c r hn hr w h hl)
  clear h hn hr hl
  go_enter Try.func42, Try.ntmps42
  go_wp2_with fail
  refine HI.out.mono ?_
  rintro e w1 ⟨hb1, ⟨p, rfl, rfl⟩ | ⟨rfl, rfl⟩⟩
  · have HB := Lib.hid hb1
    have hp : decide ((0 : Int) ≤ (p : Int)) = true := decide_eq_true (by omega)
    clear hb1
    go_wp2_with fail
    go_ret
    exact ⟨rfl, HB.out⟩
  · have HB := Lib.hid hb1
    clear hb1
    go_wp2_with fail
    go_ret
    exact ⟨rfl, HB.out⟩
theorem ckCells (l : List Cl) (n : Nat) (A : Option Addr) (c : Nat) (r : Bool) (hn : n = l.length) (hr : r = l.all mayB) (w : World) (h : Row w A (clc l)) (hl : n ≤ 4611686018427387904) :
    Calls Try.prog 33 #[.slice A n c] w (TellsB r w) := by
  have HI := Lib.hid (ckContF l n A c r hn hr w h hl)
  clear h hn hr hl
  go_enter Try.func33, Try.ntmps33
  go_wp2_with fail
  refine HI.out.mono ?_
  rintro e w1 ⟨rfl, hb1⟩
  have HB := Lib.hid hb1
  clear hb1
  go_wp2_with fail
  go_ret
  exact ⟨by cases r <;> rfl, HB.out⟩
/-- What the first ones keep: none is empty, they rise. -/
def UpN (cs : List Cl) (k : Nat) : Prop := (∀ (i : Nat) (x : Cl), i < k → cs[i]? = some x → x.b ≠ []) ∧ ∀ (i : Nat) (x y : Cl), i + 1 < k → cs[i]? = some x → cs[i + 1]? = some y → less x.n y.n = true
theorem UpN.next {cs : List Cl} {k : Nat} (h : UpN cs k) {x : Cl} (hx : cs[k]? = some x) (ho : x.b ≠ []) (hs : ∀ (j : Nat) (y : Cl), k = j + 1 → cs[j]? = some y → less y.n x.n = true) : UpN cs (k + 1) := by
  refine ⟨fun i z hi hz => ?_, fun i y z hi hy hz => ?_⟩
  · by_cases e : i = k
    · subst e; rw [hx] at hz; cases hz; exact ho
    · exact h.1 i z (by omega) hz
  · by_cases e : i + 1 = k
    · subst e; rw [hx] at hz; cases hz; exact hs i y rfl hy
    · exact h.2 i y z (by omega) hy hz
def countB (cs : List Cl) : Bool := (cs.all cellOk && rise cs) && decide (cs.length ≤ 64)
theorem countB_iff (cs : List Cl) : countB cs = true ↔ UpN cs cs.length ∧ cs.length ≤ 64 ∧ cs.all mayB = true := by
  unfold countB UpN
  rw [Bool.and_eq_true, Bool.and_eq_true, List.all_eq_true, List.all_eq_true, decide_eq_true_eq, rise_iff]
  constructor
  · rintro ⟨⟨h1, h2⟩, h3⟩
    refine ⟨⟨fun i x _ hx => ?_, fun i x y _ => h2 i x y⟩, h3, fun x hx => ?_⟩
    · have := h1 x (List.mem_of_getElem? hx)
      unfold cellOk at this
      rw [Bool.and_eq_true] at this
      simpa using this.2
    · have := h1 x hx
      unfold cellOk at this
      rw [Bool.and_eq_true] at this
      exact this.1
  · rintro ⟨⟨h1, h2⟩, h3, h4⟩
    refine ⟨⟨fun x hx => ?_, fun i x y hx hy => h2 i x y (List.getElem?_eq_some_iff.1 hy).1 hx hy⟩, h3⟩
    obtain ⟨i, hi⟩ := List.getElem?_of_mem hx
    unfold cellOk
    rw [h4 x hx, Bool.true_and]
    simpa using h1 i x (List.getElem?_eq_some_iff.1 hi).1 hi
theorem right_as (cs fs : List Cl) (dn : Bool) : rightS ⟨cs, fs, dn⟩ = (countB cs && (decide (fs.length ≤ 64) && fs.all mayB)) := by
  unfold rightS countB
  rw [Bool.decide_and]
  cases cs.all cellOk <;> cases rise cs <;> cases fs.all mayB <;> cases decide (cs.length ≤ 64) <;> cases decide (fs.length ≤ 64) <;> rfl
/-- The blocks of counting's round: the cell; .. and the one ahead. -/
structure CtA (w0 : World) (bk : Nat) (x : Cl) (w : World) : Prop where
  cl : Lies bk #[.string (kS x.n), .string (kS x.b)] 43 w
  below : Below w0.heap.size w0 w
structure CtB (w0 : World) (bk : Nat) (x : Cl) (p : Addr) (yn : List UInt8) (w : World) : Prop where
  cl : Lies bk #[.string (kS x.n), .string (kS x.b)] 43 w
  below : Below w0.heap.size w0 w
  pr : w.cell? p = some (.string (kS yn))
set_option maxRecDepth 100000 in
set_option maxHeartbeats 2000000 in
theorem ckCount (cs : List Cl) (n : Nat) (A : Option Addr) (c : Nat) (r : Bool) (hn : n = cs.length) (hr : r = countB cs) (w : World) (h : Row w A (clc cs)) (hl : n ≤ 4611686018427387904) :
    Calls Try.prog 32 #[.slice A n c] w (TellsB r w) := by
  obtain ⟨g, hg⟩ : ∃ g, g = cs.all mayB := ⟨_, rfl⟩
  have HALL := Lib.hid (fun w' (hb : Below w.heap.size w w') => ckCells cs n A c g hn hg w' (h.below hb) hl)
  have HRA := Lib.hid h
  have HN := Lib.hid hn
  have HNO : Hid (r = true → UpN cs n ∧ n ≤ 64 ∧ g = true) := Lib.hid (fun e => by rw [hr] at e; rw [hn, hg]; exact (countB_iff _).1 e)
  have HYES : Hid (UpN cs n ∧ n ≤ 64 ∧ g = true → r = true) := Lib.hid (fun e => hr.trans ((countB_iff _).2 (by rw [← hn, ← hg]; exact e)))
  clear h hn hr hg
  go_enter Try.func32, Try.ntmps32
  go_wp2_with fail
  go_loopw [7] (fun i wr => ∃ k : Nat, i = .int .i64 k ∧ k ≤ n ∧ UpN cs k ∧ Below w.heap.size w wr) (fun i _ => n - (intOf i).toNat)
  case atStart => exact ⟨0, rfl, Nat.zero_le _, ⟨fun i x h => by omega, fun i x y h => by omega⟩, Below.refl _ _⟩
  case round =>
    obtain ⟨k, rfl, hk, hto, hb⟩ := hrel
    have HB := Lib.hid hb
    have HTO := Lib.hid hto
    clear hb hto
    by_cases hlt : k < n
    · obtain ⟨x, hx⟩ : ∃ x, cs[k]? = some x := ⟨_, List.getElem?_eq_getElem (by rw [← HN.out]; exact hlt)⟩
      obtain ⟨b, off, hA1, c0, c1⟩ := cell_row (HRA.out.below HB.out) hx
      subst hA1
      have HX := Lib.hid hx
      have HK := Lib.hid hlt
      have hki : (k : Int) < (n : Int) := by omega
      have hw := wrapKO (k := k) (by omega)
      clear hx
      have W0 := Lib.hid (show CtA w wr.heap.size x (wr.alloc (.cells (clC x) 43)).drew from ⟨(Lies.new wr _ _).drew, below_drewOf (below_al HB.out)⟩)
      have hz0 : ByteArray.toList { data := #[] } = [] := by rw [ByteArray.toList_eq]
      obtain ⟨xn, xb⟩ := x
      simp only [clC] at W0
      simp only at c0 c1
      go_upto_region 4 with fail
      clear c0 c1
      by_cases hxb : xb = []
      · have g1 : ((kS xb).toList == []) = true := by rw [kS_list, hxb]; rfl
        have e : r = false := no_rO HNO.out (fun hh => hh.1.1 k _ HK.out HX.out hxb)
        clear hxb
        refine wide_all (CtA w wr.heap.size ⟨xn, xb⟩) (by kernel_rfl) (by kernel_rfl) W0.out ?_
        (try simp only [List.append_eq, List.cons_append, List.nil_append])
        repeat (first
          | go_big_quiet_skip
          | (go_big_quiet_want
             apply wide_op
             · (intro w5 h5; have z0 := h5.cl.cell (j := 0) rfl; have z1 := h5.cl.cell (j := 1) rfl; go_simp; first | done | with_reducible rfl)
             (try simp only [Act.put, List.setIfInBounds_toArray, List.set_cons_zero, List.set_cons_succ])
             go_big_quiet_on))
        refine wpQuiet_nil ?_
        intro w6 h6
        have H6 := Lib.hid h6
        clear h6
        go_wp2_with fail
        go_ret
        exact ⟨by (try rw [e]); rfl, H6.out.below⟩
      · have g1 : ((kS xb).toList == []) = false := by rw [kS_list]; simpa using hxb
        have HOK := Lib.hid hxb
        clear hxb
        rcases k with _ | j
        · refine wide_all (CtA w wr.heap.size ⟨xn, xb⟩) (by kernel_rfl) (by kernel_rfl) W0.out ?_
          (try simp only [List.append_eq, List.cons_append, List.nil_append])
          repeat (first
            | go_big_quiet_skip
            | (go_big_quiet_want
               apply wide_op
               · (intro w5 h5; have z0 := h5.cl.cell (j := 0) rfl; have z1 := h5.cl.cell (j := 1) rfl; go_simp; first | done | with_reducible rfl)
               (try simp only [Act.put, List.setIfInBounds_toArray, List.set_cons_zero, List.set_cons_succ])
               go_big_quiet_on))
          refine wpQuiet_nil ?_
          intro w6 h6
          have H6 := Lib.hid h6
          clear h6
          go_wp2_with fail
          go_roundw
          case rel => exact ⟨1, rfl, by omega, HTO.out.next HX.out HOK.out (fun j y e => by omega), H6.out.below⟩
          case measure => simp [intOf]; omega
        · obtain ⟨y, hy⟩ : ∃ y, cs[j]? = some y := ⟨_, List.getElem?_eq_getElem (by have := HN.out; omega)⟩
          obtain ⟨b', off', hA2, d0, d1⟩ := cell_row (HRA.out.below HB.out) hy
          cases hA2
          have HY := Lib.hid hy
          have hj1 : IntKind.i64.wrap (((j + 1 : Nat) : Int) - 1) = (j : Int) := by rw [wrapO (by omega) (by omega)]; omega
          have hj5 : IntKind.i64.wrap (j : Int) = (j : Int) := wrapO (by omega) (by omega)
          have hj2 : (0 : Int) ≤ (j : Int) := by omega
          have hj3 : (j : Int) < (n : Int) := by omega
          have hj4 : decide ((0 : Int) < ((j + 1 : Nat) : Int)) = true := decide_eq_true (by omega)
          obtain ⟨yn, yb⟩ := y
          simp only at d0
          have V0 : Hid (CtB w wr.heap.size ⟨xn, xb⟩ ⟨b, off + j * 2, none⟩ yn (wr.alloc (.cells #[.string (kS xn), .string (kS xb)] 43)).drew) := Lib.hid ⟨W0.out.cl, W0.out.below, Gen.cell_below d0 (below_drewOf (below_al (Below.refl _ _)))⟩
          clear hy d0 d1
          by_cases hle : less yn xn = true
          · have hq : ∀ w : World, (binOp .geq 9 (.string (kS yn)) (.string (kS xn))).run Try.prog w = .ok (.bool false) w := fun w => run_geqS yn xn false (by rw [hle]; rfl) w
            have HLE := Lib.hid hle
            clear hle
            refine wide_all (CtB w wr.heap.size ⟨xn, xb⟩ ⟨b, off + j * 2, none⟩ yn) (by kernel_rfl) (by kernel_rfl) V0.out ?_
            (try simp only [List.append_eq, List.cons_append, List.nil_append])
            repeat (first
              | go_big_quiet_skip
              | (go_big_quiet_want
                 apply wide_op
                 · (intro w5 h5; have z0 := h5.cl.cell (j := 0) rfl; have z1 := h5.cl.cell (j := 1) rfl; have y0 := h5.pr; go_simp; first | done | with_reducible rfl)
                 (try simp only [Act.put, List.setIfInBounds_toArray, List.set_cons_zero, List.set_cons_succ])
                 go_big_quiet_on))
            refine wpQuiet_nil ?_
            intro w6 h6
            have H6 := Lib.hid h6
            clear h6
            go_wp2_with fail
            go_roundw
            case rel => exact ⟨j + 2, rfl, by omega, HTO.out.next HX.out HOK.out (fun j' y' e hy' => by
              have e2 : j = j' := by omega
              subst e2
              rw [HY.out] at hy'
              cases hy'
              exact HLE.out), H6.out.below⟩
            case measure => simp [intOf]; omega
          · have e : r = false := no_rO HNO.out (fun hh => hle (hh.1.2 j _ _ HK.out HY.out HX.out))
            have hq : ∀ w : World, (binOp .geq 9 (.string (kS yn)) (.string (kS xn))).run Try.prog w = .ok (.bool true) w := fun w => run_geqS yn xn true (by simpa using hle) w
            clear hle
            refine wide_all (CtB w wr.heap.size ⟨xn, xb⟩ ⟨b, off + j * 2, none⟩ yn) (by kernel_rfl) (by kernel_rfl) V0.out ?_
            (try simp only [List.append_eq, List.cons_append, List.nil_append])
            repeat (first
              | go_big_quiet_skip
              | (go_big_quiet_want
                 apply wide_op
                 · (intro w5 h5; have z0 := h5.cl.cell (j := 0) rfl; have z1 := h5.cl.cell (j := 1) rfl; have y0 := h5.pr; go_simp; first | done | with_reducible rfl)
                 (try simp only [Act.put, List.setIfInBounds_toArray, List.set_cons_zero, List.set_cons_succ])
                 go_big_quiet_on))
            refine wpQuiet_nil ?_
            intro w6 h6
            have H6 := Lib.hid h6
            clear h6
            go_wp2_with fail
            go_ret
            exact ⟨by (try rw [e]); rfl, H6.out.below⟩
    · have hki : ¬ (k : Int) < (n : Int) := by omega
      have HUC : Hid (UpN cs n) := Lib.hid (by rw [show n = k by omega]; exact HTO.out)
      clear HTO hlt hk
      by_cases h1 : n ≤ 64
      · have g1 : decide ((n : Int) ≤ 64) = true := decide_eq_true (by omega)
        have HA1 := Lib.hid (HALL.out _ HB.out)
        have HE : Hid (r = g) := Lib.hid (by
          cases g
          · exact no_rO HNO.out (fun hh => by cases hh.2.2)
          · exact HYES.out ⟨HUC.out, h1, rfl⟩)
        clear h1
        go_wp2_with fail
        refine HA1.out.mono ?_
        rintro e w1 ⟨rfl, hb1⟩
        have HB1 := Lib.hid (below_next HB.out hb1)
        clear hb1
        go_wp2_with fail
        go_ret
        exact ⟨by rw [HE.out]; cases g <;> rfl, HB1.out⟩
      · have g1 : decide ((n : Int) ≤ 64) = false := decide_eq_false (by omega)
        have e : r = false := no_rO HNO.out (fun hh => h1 hh.2.1)
        clear h1
        go_wp2_with fail
        go_ret
        exact ⟨by (try rw [e]); rfl, HB.out⟩
set_option maxHeartbeats 1000000 in
theorem ckRight (cs fs : List Cl) (n m : Nat) (dn : Bool) (r : Bool) (hn : n = cs.length) (hm : m = fs.length) (hr : r = rightS ⟨cs, fs, dn⟩) (A : Option Addr) (c : Nat) (B : Option Addr) (d : Nat) (w : World) (hA : Row w A (clc cs)) (hB : Row w B (clc fs)) (hl : n ≤ 4611686018427387904) (hl2 : m ≤ 4611686018427387904) :
    Calls Try.prog 17 #[srV A n c B m d dn] w (TellsB r w) := by
  obtain ⟨q, hq⟩ : ∃ q, q = countB cs := ⟨_, rfl⟩
  obtain ⟨g, hg⟩ : ∃ g, g = fs.all mayB := ⟨_, rfl⟩
  have hb0 := below_al (o := .cells (srC A n c B m d dn) 24) (Below.refl w.heap.size w)
  have HCN := Lib.hid (fun w' (hb : Below w.heap.size w w') => ckCount cs n A c q hn hq w' (hA.below hb) hl)
  have HCF := Lib.hid (fun w' (hb : Below w.heap.size w w') => ckCells fs m B d g hm hg w' (hB.below hb) hl2)
  have HRR : Hid (r = (q && (decide (m ≤ 64) && g))) := Lib.hid (by rw [hr, hq, hg, hm]; exact right_as cs fs dn)
  have HB := Lib.hid hb0
  have L := Lib.hid (Lies.new w (srC A n c B m d dn) 24)
  clear hA hB hn hm hr hq hg hb0
  simp only [srC] at L HB
  go_enter Try.func17, Try.ntmps17
  go_upto_region 1 with fail
  obtain ⟨tb, htb⟩ : ∃ b, b = w.heap.size := ⟨_, rfl⟩
  obtain ⟨W, hW⟩ : ∃ W, W = w.alloc (.cells #[.slice A n c, .slice B m d, .bool dn] 24) := ⟨_, rfl⟩
  rw [← hW] at L HB ⊢
  rw [← htb] at L ⊢
  clear hW htb
  have x0 := L.out.cell (j := 0) rfl; have x1 := L.out.cell (j := 1) rfl
  go_wp2_with fail
  refine (HCN.out _ HB.out).mono ?_
  rintro e w1 ⟨rfl, hb1⟩
  have HB1 := Lib.hid (below_next HB.out hb1)
  have L1 := Lib.hid (L.out.below hb1)
  clear hb1 x0 x1
  have x1 := L1.out.cell (j := 1) rfl
  cases q
  · have e : r = false := HRR.out
    go_wp2_with fail
    go_ret
    exact ⟨by (try rw [e]); rfl, HB1.out⟩
  · by_cases h1 : m ≤ 64
    · have g1 : decide ((m : Int) ≤ 64) = true := decide_eq_true (by omega)
      have e : r = g := by rw [HRR.out, decide_eq_true h1, Bool.true_and, Bool.true_and]
      clear h1
      go_wp2_with fail
      refine (HCF.out _ HB1.out).mono ?_
      rintro e1 w2 ⟨rfl, hb2⟩
      have HB2 := Lib.hid (below_next HB1.out hb2)
      clear hb2
      go_wp2_with fail
      go_ret
      exact ⟨by rw [e]; cases g <;> rfl, HB2.out⟩
    · have g1 : decide ((m : Int) ≤ 64) = false := decide_eq_false (by omega)
      have e : r = false := by rw [HRR.out, decide_eq_false h1]; rfl
      clear h1
      go_wp2_with fail
      go_ret
      exact ⟨by (try rw [e]); rfl, HB1.out⟩
end So
end Go.Proofs.Ytpjgdpdgfchhkaa
