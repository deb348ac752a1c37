/- The reference's Right. -/
import Derived.Test.YtpjgdpdgfchhkaaStore
namespace Go.Proofs.Ytpjgdpdgfchhkaa
open Go.ChangeShapes Go.WideShapes Go.ChangeAt Go.RowKit
set_option linter.unusedVariables false
set_option maxRecDepth 8000
namespace So
open Gen (TellsB row_one flat_len flat_get)
/-- What the first ones keep. -/
def UpC (cs : List Cl) (k : Nat) : Prop := (∀ (i : Nat) (x : Cl), i < k → cs[i]? = some x → cellOk x = true) ∧ ∀ (i : Nat) (x y : Cl), i + 1 < k → cs[i]? = some x → cs[i + 1]? = some y → less x.n y.n = true
def UpF (fs : List Cl) (k : Nat) : Prop := ∀ (i : Nat) (x : Cl), i < k → fs[i]? = some x → mayB x = true
theorem right_ix (cs fs : List Cl) (dn : Bool) : rightS ⟨cs, fs, dn⟩ = true ↔ UpC cs cs.length ∧ UpF fs fs.length ∧ cs.length ≤ 64 ∧ fs.length ≤ 64 := by
  unfold rightS UpC UpF
  rw [Bool.and_eq_true, Bool.and_eq_true, Bool.and_eq_true, List.all_eq_true, List.all_eq_true, decide_eq_true_eq, rise_iff]
  constructor
  · rintro ⟨⟨h1, h2⟩, h3, h4⟩
    exact ⟨⟨fun i x _ hx => h1 x (List.mem_of_getElem? hx), fun i x y _ => h2 i x y⟩, fun i x _ hx => h3 x (List.mem_of_getElem? hx), h4⟩
  · rintro ⟨⟨h1, h2⟩, h3, h4⟩
    exact ⟨⟨fun x hx => by obtain ⟨i, hi⟩ := List.getElem?_of_mem hx; exact h1 i x (List.getElem?_eq_some_iff.1 hi).1 hi, fun i x y hx hy => h2 i x y (List.getElem?_eq_some_iff.1 hy).1 hx hy⟩,
      fun x hx => by obtain ⟨i, hi⟩ := List.getElem?_of_mem hx; exact h3 i x (List.getElem?_eq_some_iff.1 hi).1 hi, h4⟩
theorem UpC.next {cs : List Cl} {k : Nat} (h : UpC cs k) {x : Cl} (hx : cs[k]? = some x) (ho : cellOk x = true) (hs : ∀ (j : Nat) (y : Cl), k = j + 1 → cs[j]? = some y → less y.n x.n = true) : UpC cs (k + 1) := by
  refine ⟨fun i z hi hz => ?_, fun i y z hi hy hz => ?_⟩
  · by_cases e : i = k
    · subst e; rw [hx] at hz; cases hz; exact ho
    · exact h.1 i z (by omega) hz
  · by_cases e : i + 1 = k
    · subst e; rw [hx] at hz; cases hz; exact hs i y rfl hy
    · exact h.2 i y z (by omega) hy hz
theorem UpF.next {fs : List Cl} {k : Nat} (h : UpF fs k) {x : Cl} (hx : fs[k]? = some x) (ho : mayB x = true) : UpF fs (k + 1) := by
  intro i z hi hz
  by_cases e : i = k
  · subst e; rw [hx] at hz; cases hz; exact ho
  · exact h i z (by omega) hz
/-- The call's block. -/
structure StAt (w0 : World) (tb : Nat) (A : Option Addr) (n c : Nat) (B : Option Addr) (m d : Nat) (dn : Bool) (w : World) : Prop where
  st : Lies tb #[.slice A n c, .slice B m d, .bool dn] 24 w
  below : Below w0.heap.size w0 w
theorem StAt.next {w0 : World} {tb : Nat} {A : Option Addr} {n c : Nat} {B : Option Addr} {m d : Nat} {dn : Bool} {w w' : World} (h : StAt w0 tb A n c B m d dn w) (hb : Below w.heap.size w w') : StAt w0 tb A n c B m d dn w' :=
  ⟨h.st.below hb, below_next h.below hb⟩
/-- The blocks of Right's first loop. -/
structure RsAt (w0 : World) (tb bk : Nat) (A : Option Addr) (n c : Nat) (B : Option Addr) (m d : Nat) (dn : Bool) (x : Cl) (w : World) : Prop where
  st : Lies tb #[.slice A n c, .slice B m d, .bool dn] 24 w
  cl : Lies bk #[.string (kS x.n), .string (kS x.b)] 43 w
  below : Below w0.heap.size w0 w
theorem RsAt.next {w0 : World} {tb bk : Nat} {A : Option Addr} {n c : Nat} {B : Option Addr} {m d : Nat} {dn : Bool} {x : Cl} {w w' : World} (h : RsAt w0 tb bk A n c B m d dn x w) (hb : Below w.heap.size w w') : RsAt w0 tb bk A n c B m d dn x w' :=
  ⟨h.st.below hb, h.cl.below hb, below_next h.below hb⟩
/-- .. with the cell ahead. -/
structure Rs2 (w0 : World) (tb bk : Nat) (A : Option Addr) (n c : Nat) (B : Option Addr) (m d : Nat) (dn : Bool) (x : Cl) (p : Addr) (yn : List UInt8) (w : World) : Prop where
  rs : RsAt w0 tb bk A n c B m d dn x w
  pr : w.cell? p = some (.string (kS yn))
theorem Rs2.next {w0 : World} {tb bk : Nat} {A : Option Addr} {n c : Nat} {B : Option Addr} {m d : Nat} {dn : Bool} {x : Cl} {p : Addr} {yn : List UInt8} {w w' : World} (h : Rs2 w0 tb bk A n c B m d dn x p yn w) (hb : Below w.heap.size w w') : Rs2 w0 tb bk A n c B m d dn x p yn w' :=
  ⟨h.rs.next hb, Gen.cell_below h.pr hb⟩
theorem cellOk_as (x : Cl) : cellOk x = (mayB x && !decide (x.b = [])) := rfl
set_option maxRecDepth 100000 in
set_option maxHeartbeats 2000000 in
theorem rfRight (cs fs : List Cl) (n m : Nat) (dn : Bool) (r : Bool) (hn : n = cs.length) (hm : m = fs.length) (hr : r = rightS ⟨cs, fs, dn⟩) (A : Option Addr) (c : Nat) (B : Option Addr) (d : Nat) (w : World) (hA : Row w A (clc cs)) (hB : Row w B (clc fs)) (hl : n ≤ 4611686018427387904) (hl2 : m ≤ 4611686018427387904) :
    Calls Try.prog 18 #[srV A n c B m d dn] w (TellsB r w) := by
  have HMY := Lib.hid (fun x q hq w' => rfMay x q hq w')
  have HRA := Lib.hid hA
  have HRB := Lib.hid hB
  have T0 : Hid (StAt w w.heap.size A n c B m d dn (w.alloc (.cells (srC A n c B m d dn) 24))) := Lib.hid ⟨Lies.new w _ _, below_al (Below.refl _ _)⟩
  have HN := Lib.hid hn
  have HM := Lib.hid hm
  have HNO : Hid (r = true → UpC cs n ∧ UpF fs m ∧ n ≤ 64 ∧ m ≤ 64) := Lib.hid (fun e => by rw [hr] at e; rw [hn, hm]; exact (right_ix _ _ _).1 e)
  have HYES : Hid (UpC cs n ∧ UpF fs m ∧ n ≤ 64 ∧ m ≤ 64 → r = true) := Lib.hid (fun e => hr.trans ((right_ix _ _ _).2 (by rw [← hn, ← hm]; exact e)))
  clear hA hB hn hm hr
  simp only [srC] at T0
  go_enter Try.func18, Try.ntmps18
  go_upto_region 1 with fail
  obtain ⟨tb, htb⟩ : ∃ b, b = w.heap.size := ⟨_, rfl⟩
  obtain ⟨W, hW⟩ : ∃ W, W = w.alloc (.cells #[.slice A n c, .slice B m d, .bool dn] 24) := ⟨_, rfl⟩
  rw [← hW] at T0 ⊢
  rw [← htb] at T0 ⊢
  clear hW htb
  have x0 := T0.out.st.cell (j := 0) rfl
  go_wp2_with fail
  clear x0
  go_loopw [10] (fun i wr => ∃ k : Nat, i = .int .i64 k ∧ k ≤ n ∧ UpC cs k ∧ StAt w tb A n c B m d dn wr) (fun i _ => n - (intOf i).toNat)
  case atStart => exact ⟨0, rfl, Nat.zero_le _, ⟨fun i x h => by omega, fun i x y h => by omega⟩, T0.out⟩
  case round =>
    clear T0
    obtain ⟨k, rfl, hk, hto, hb⟩ := hrel
    have T := Lib.hid hb
    have HTO := Lib.hid hto
    clear hb hto
    by_cases hlt : k < n
    · obtain ⟨x, hx⟩ : ∃ x, cs[k]? = some x := ⟨_, List.getElem?_eq_getElem (by rw [← HN.out]; exact hlt)⟩
      obtain ⟨b, off, hA1, c0, c1⟩ := cell_row (HRA.out.below T.out.below) hx
      subst hA1
      have HX := Lib.hid hx
      have HK := Lib.hid hlt
      have hki : (k : Int) < (n : Int) := by omega
      have hw := wrapKO (k := k) (by omega)
      clear hx
      obtain ⟨q, hq⟩ : ∃ q, q = mayB x := ⟨_, rfl⟩
      have HMX := Lib.hid (fun w' => HMY.out x q hq w')
      have HQ := Lib.hid hq
      clear hq
      have W0 := Lib.hid (show RsAt w tb wr.heap.size (some ⟨b, off, none⟩) n c B m d dn x (wr.alloc (.cells (clC x) 43)).drew from ⟨(T.out.st.al).drew, (Lies.new wr _ _).drew, below_drewOf (below_al T.out.below)⟩)
      have hz0 : ByteArray.toList { data := #[] } = [] := by rw [ByteArray.toList_eq]
      obtain ⟨xn, xb⟩ := x
      simp only [clC] at W0 HMX
      simp only at c0 c1
      go_upto_region 4 with fail
      clear c0 c1
      cases q
      · have e : r = false := no_rO HNO.out (fun hh => by have := hh.1.1 k _ HK.out HX.out; rw [cellOk_as, ← HQ.out] at this; cases this)
        refine wide_all (RsAt w tb wr.heap.size (some ⟨b, off, none⟩) n c B m d dn ⟨xn, xb⟩) (by kernel_rfl) (by kernel_rfl) W0.out ?_
        (try simp only [List.append_eq, List.cons_append, List.nil_append])
        repeat (first
          | go_big_quiet_skip
          | (go_big_quiet_want
             apply wide_op
             · (intro w5 h5; have x0 := h5.st.cell (j := 0) rfl; have z0 := h5.cl.cell (j := 0) rfl; have z1 := h5.cl.cell (j := 1) rfl; go_simp; first | done | with_reducible rfl | (go_at_call 28; refine (HMX.out _).mono ?_; rintro e w6 ⟨rfl, hb6⟩; exact ⟨rfl, h5.next hb6⟩))
             (try simp only [Act.put, List.setIfInBounds_toArray, List.set_cons_zero, List.set_cons_succ])
             go_big_quiet_on))
        refine wpQuiet_nil ?_
        intro w6 h6
        have H6 := Lib.hid h6
        clear h6
        go_wp2_with fail
        go_ret
        exact ⟨by (try rw [e]); rfl, H6.out.below⟩
      · by_cases hxb : xb = []
        · have g1 : ((kS xb).toList == []) = true := by rw [kS_list, hxb]; rfl
          have e : r = false := no_rO HNO.out (fun hh => by have := hh.1.1 k _ HK.out HX.out; rw [cellOk_as, ← HQ.out] at this; simp [hxb] at this)
          clear hxb
          refine wide_all (RsAt w tb wr.heap.size (some ⟨b, off, none⟩) n c B m d dn ⟨xn, xb⟩) (by kernel_rfl) (by kernel_rfl) W0.out ?_
          (try simp only [List.append_eq, List.cons_append, List.nil_append])
          repeat (first
            | go_big_quiet_skip
            | (go_big_quiet_want
               apply wide_op
               · (intro w5 h5; have x0 := h5.st.cell (j := 0) rfl; have z0 := h5.cl.cell (j := 0) rfl; have z1 := h5.cl.cell (j := 1) rfl; go_simp; first | done | with_reducible rfl | (go_at_call 28; refine (HMX.out _).mono ?_; rintro e w6 ⟨rfl, hb6⟩; exact ⟨rfl, h5.next hb6⟩))
               (try simp only [Act.put, List.setIfInBounds_toArray, List.set_cons_zero, List.set_cons_succ])
               go_big_quiet_on))
          refine wpQuiet_nil ?_
          intro w6 h6
          have H6 := Lib.hid h6
          clear h6
          go_wp2_with fail
          go_ret
          exact ⟨by (try rw [e]); rfl, H6.out.below⟩
        · have g1 : ((kS xb).toList == []) = false := by rw [kS_list]; simpa using hxb
          have HOK : Hid (cellOk ⟨xn, xb⟩ = true) := Lib.hid (by rw [cellOk_as, ← HQ.out]; simp [hxb])
          clear hxb
          rcases k with _ | j
          · refine wide_all (RsAt w tb wr.heap.size (some ⟨b, off, none⟩) n c B m d dn ⟨xn, xb⟩) (by kernel_rfl) (by kernel_rfl) W0.out ?_
            (try simp only [List.append_eq, List.cons_append, List.nil_append])
            repeat (first
              | go_big_quiet_skip
              | (go_big_quiet_want
                 apply wide_op
                 · (intro w5 h5; have x0 := h5.st.cell (j := 0) rfl; have z0 := h5.cl.cell (j := 0) rfl; have z1 := h5.cl.cell (j := 1) rfl; go_simp; first | done | with_reducible rfl | (go_at_call 28; refine (HMX.out _).mono ?_; rintro e w6 ⟨rfl, hb6⟩; exact ⟨rfl, h5.next hb6⟩))
                 (try simp only [Act.put, List.setIfInBounds_toArray, List.set_cons_zero, List.set_cons_succ])
                 go_big_quiet_on))
            refine wpQuiet_nil ?_
            intro w6 h6
            have H6 := Lib.hid h6
            clear h6
            go_wp2_with fail
            go_roundw
            case rel => exact ⟨1, rfl, by omega, HTO.out.next HX.out HOK.out (fun j y e => by omega), ⟨H6.out.st, H6.out.below⟩⟩
            case measure => simp [intOf]; omega
          · obtain ⟨y, hy⟩ : ∃ y, cs[j]? = some y := ⟨_, List.getElem?_eq_getElem (by have := HN.out; omega)⟩
            obtain ⟨b', off', hA2, d0, d1⟩ := cell_row (HRA.out.below T.out.below) hy
            cases hA2
            have HY := Lib.hid hy
            have hj1 : IntKind.i64.wrap (((j + 1 : Nat) : Int) - 1) = (j : Int) := by rw [wrapO (by omega) (by omega)]; omega
            have hj5 : IntKind.i64.wrap (j : Int) = (j : Int) := wrapO (by omega) (by omega)
            have hj2 : (0 : Int) ≤ (j : Int) := by omega
            have hj3 : (j : Int) < (n : Int) := by omega
            have hj4 : decide ((0 : Int) < ((j + 1 : Nat) : Int)) = true := decide_eq_true (by omega)
            obtain ⟨yn, yb⟩ := y
            simp only at d0
            have V0 : Hid (Rs2 w tb wr.heap.size (some ⟨b, off, none⟩) n c B m d dn ⟨xn, xb⟩ ⟨b, off + j * 2, none⟩ yn (wr.alloc (.cells #[.string (kS xn), .string (kS xb)] 43)).drew) := Lib.hid ⟨W0.out, Gen.cell_below d0 (below_drewOf (below_al (Below.refl _ _)))⟩
            clear hy d0 d1
            by_cases hle : less yn xn = true
            · have hq : ∀ w : World, (binOp .leq 9 (.string (kS xn)) (.string (kS yn))).run Try.prog w = .ok (.bool false) w := fun w => run_leqS xn yn false (by
                have h1 : less xn yn = false := by
                  cases h : less xn yn
                  · rfl
                  · have := less_trans _ _ _ hle h; rw [less_irrefl] at this; cases this
                rw [h1, Bool.false_or, beq_eq_false_iff_ne]
                exact fun e => less_ne hle e.symm) w
              have HLE := Lib.hid hle
              clear hle
              refine wide_all (Rs2 w tb wr.heap.size (some ⟨b, off, none⟩) n c B m d dn ⟨xn, xb⟩ ⟨b, off + j * 2, none⟩ yn) (by kernel_rfl) (by kernel_rfl) V0.out ?_
              (try simp only [List.append_eq, List.cons_append, List.nil_append])
              repeat (first
                | go_big_quiet_skip
                | (go_big_quiet_want
                   apply wide_op
                   · (intro w5 h5; have x0 := h5.rs.st.cell (j := 0) rfl; have z0 := h5.rs.cl.cell (j := 0) rfl; have z1 := h5.rs.cl.cell (j := 1) rfl; have y0 := h5.pr; go_simp; first | done | with_reducible rfl | (go_at_call 28; refine (HMX.out _).mono ?_; rintro e w6 ⟨rfl, hb6⟩; exact ⟨rfl, h5.next hb6⟩))
                   (try simp only [Act.put, List.setIfInBounds_toArray, List.set_cons_zero, List.set_cons_succ])
                   go_big_quiet_on))
              refine wpQuiet_nil ?_
              intro w6 h6
              have H6 := Lib.hid h6
              clear h6
              go_wp2_with fail
              go_roundw
              case rel => exact ⟨j + 2, rfl, by omega, HTO.out.next HX.out HOK.out (fun j' y' e hy' => by
                have e2 : j = j' := by omega
                subst e2
                rw [HY.out] at hy'
                cases hy'
                exact HLE.out), ⟨H6.out.rs.st, H6.out.rs.below⟩⟩
              case measure => simp [intOf]; omega
            · have e : r = false := no_rO HNO.out (fun hh => hle (hh.1.2 j _ _ HK.out HY.out HX.out))
              have hq : ∀ w : World, (binOp .leq 9 (.string (kS xn)) (.string (kS yn))).run Try.prog w = .ok (.bool true) w := fun w => run_leqS xn yn true (by
                rcases less_total xn yn with h | h | h
                · rw [h]; rfl
                · rw [h]; simp
                · exact absurd h hle) w
              clear hle
              refine wide_all (Rs2 w tb wr.heap.size (some ⟨b, off, none⟩) n c B m d dn ⟨xn, xb⟩ ⟨b, off + j * 2, none⟩ yn) (by kernel_rfl) (by kernel_rfl) V0.out ?_
              (try simp only [List.append_eq, List.cons_append, List.nil_append])
              repeat (first
                | go_big_quiet_skip
                | (go_big_quiet_want
                   apply wide_op
                   · (intro w5 h5; have x0 := h5.rs.st.cell (j := 0) rfl; have z0 := h5.rs.cl.cell (j := 0) rfl; have z1 := h5.rs.cl.cell (j := 1) rfl; have y0 := h5.pr; go_simp; first | done | with_reducible rfl | (go_at_call 28; refine (HMX.out _).mono ?_; rintro e w6 ⟨rfl, hb6⟩; exact ⟨rfl, h5.next hb6⟩))
                   (try simp only [Act.put, List.setIfInBounds_toArray, List.set_cons_zero, List.set_cons_succ])
                   go_big_quiet_on))
              refine wpQuiet_nil ?_
              intro w6 h6
              have H6 := Lib.hid h6
              clear h6
              go_wp2_with fail
              go_ret
              exact ⟨by (try rw [e]); rfl, H6.out.rs.below⟩
    · have hki : ¬ (k : Int) < (n : Int) := by omega
      have HUC : Hid (UpC cs n) := Lib.hid (by rw [show n = k by omega]; exact HTO.out)
      have x1 := T.out.st.cell (j := 1) rfl
      clear HTO hlt hk
      obtain ⟨wo, hwo⟩ : ∃ wo, wo = wr := ⟨_, rfl⟩
      subst hwo
      go_wp2_with fail
      clear x1
      go_loopw [43] (fun i wr => ∃ k : Nat, i = .int .i64 k ∧ k ≤ m ∧ UpF fs k ∧ StAt w tb A n c B m d dn wr) (fun i _ => m - (intOf i).toNat)
      case atStart => exact ⟨0, rfl, Nat.zero_le _, fun i x h => by omega, T.out⟩
      case round =>
        clear T hki
        obtain ⟨k, rfl, hk, hto, hb⟩ := hrel
        have T := Lib.hid hb
        have HTO := Lib.hid hto
        clear hb hto
        by_cases hlt : k < m
        · obtain ⟨x, hx⟩ : ∃ x, fs[k]? = some x := ⟨_, List.getElem?_eq_getElem (by rw [← HM.out]; exact hlt)⟩
          obtain ⟨b, off, hA1, c0, c1⟩ := cell_row (HRB.out.below T.out.below) hx
          subst hA1
          have HX := Lib.hid hx
          have HK := Lib.hid hlt
          have hki : (k : Int) < (m : Int) := by omega
          have hw := wrapKO (k := k) (by omega)
          clear hx
          obtain ⟨q, hq⟩ : ∃ q, q = mayB x := ⟨_, rfl⟩
          have HMX := Lib.hid (fun w' => HMY.out x q hq w')
          have HQ := Lib.hid hq
          clear hq
          obtain ⟨xn, xb⟩ := x
          simp only [clC] at HMX
          simp only at c0 c1
          go_upto_region 10 with fail
          clear c0 c1
          have T2 := Lib.hid (T.out.next (below_al (o := .cells #[.string (kS xn), .string (kS xb)] 43) (Below.refl wr.heap.size wr)))
          have L2 := Lib.hid (Lies.new wr #[.string (kS xn), .string (kS xb)] 43)
          obtain ⟨b9, hb9⟩ : ∃ b, b = wr.heap.size := ⟨_, rfl⟩
          obtain ⟨W2, hW2⟩ : ∃ W, W = wr.alloc (.cells #[.string (kS xn), .string (kS xb)] 43) := ⟨_, rfl⟩
          rw [← hW2] at T2 L2 ⊢
          rw [← hb9] at L2 ⊢
          clear hW2 hb9 T
          have z0 := L2.out.cell (j := 0) rfl; have z1 := L2.out.cell (j := 1) rfl
          go_wp2_with fail
          refine (HMX.out _).mono ?_
          rintro e w3 ⟨rfl, hb3⟩
          have T3 := Lib.hid (T2.out.next hb3)
          clear hb3 z0 z1 T2 L2
          cases q
          · have e : r = false := no_rO HNO.out (fun hh => by have := hh.2.1 k _ HK.out HX.out; rw [← HQ.out] at this; cases this)
            go_wp2_with fail
            go_ret
            exact ⟨by (try rw [e]); rfl, T3.out.below⟩
          · go_wp2_with fail
            go_roundw
            case rel => exact ⟨k + 1, rfl, HK.out, HTO.out.next HX.out HQ.out.symm, T3.out⟩
            case measure => simp [intOf]; omega
        · have hki : ¬ (k : Int) < (m : Int) := by omega
          have HUF : Hid (UpF fs m) := Lib.hid (by rw [show m = k by omega]; exact HTO.out)
          have x0 := T.out.st.cell (j := 0) rfl
          have x1 := T.out.st.cell (j := 1) rfl
          clear HTO hlt hk
          by_cases h1 : n ≤ 64
          · have g1 : decide ((n : Int) ≤ 64) = true := decide_eq_true (by omega)
            by_cases h2 : m ≤ 64
            · have g2 : decide ((m : Int) ≤ 64) = true := decide_eq_true (by omega)
              have e : r = true := HYES.out ⟨HUC.out, HUF.out, h1, h2⟩
              clear h1 h2
              go_wp2_with fail
              go_ret
              exact ⟨by (try rw [e]); rfl, T.out.below⟩
            · have g2 : decide ((m : Int) ≤ 64) = false := decide_eq_false (by omega)
              have e : r = false := no_rO HNO.out (fun hh => h2 hh.2.2.2)
              clear h1 h2
              go_wp2_with fail
              go_ret
              exact ⟨by (try rw [e]); rfl, T.out.below⟩
          · have g1 : decide ((n : Int) ≤ 64) = false := decide_eq_false (by omega)
            have e : r = false := no_rO HNO.out (fun hh => h1 hh.2.2.1)
            clear h1
            go_wp2_with fail
            go_ret
            exact ⟨by (try rw [e]); rfl, T.out.below⟩
end So
end Go.Proofs.Ytpjgdpdgfchhkaa
