/- The code's find: a binary search by name. -/
import Derived.Test.YtpjgdpdgfchhkaaStoreCa
namespace Go.Proofs.Ytpjgdpdgfchhkaa
open Go.ChangeShapes Go.WideShapes Go.ChangeAt Go.RowKit
set_option linter.unusedVariables false
set_option maxRecDepth 8000
namespace So
open Gen (TellsB TellsI row_one flat_len flat_get)
theorem run_gtrS (a b : List UInt8) (q : Bool) (hq : (!(less a b) && !(a == b)) = q) (w : World) : (binOp .gtr 9 (.string (kS a)) (.string (kS b))).run Try.prog w = .ok (.bool q) w := by
  subst hq
  have e : ∀ (a b : ByteArray), binOp .gtr 9 (.string a) (.string b) = pure (.bool (!Op.bytesLess a.toList b.toList && !(a.toList == b.toList))) := fun a b => by simp [binOp, Op.stringOp]
  rw [e, kS_list, kS_list]
  rfl
theorem ckNaN (a : List UInt8) (w : World) : Calls Try.prog 47 #[.string (kS a)] w fun e w' => e = .returned (.bool false) ∧ w' = w := by
  have hq : ∀ w : World, (binOp .neq 9 (.string (kS a)) (.string (kS a))).run Try.prog w = .ok (.bool false) w := fun w => run_neqS a a false (by simp) w
  go_enter Try.func47, Try.ntmps47
  go_wp2_with fail
  go_ret
  exact ⟨by first | rfl | simp, rfl⟩
def cmpS (a b : List UInt8) : Int := if less a b then -1 else if less b a then 1 else 0
theorem ckCmp (a b : List UInt8) (w : World) : Calls Try.prog 41 #[.string (kS a), .string (kS b)] w fun e w' => e = .returned (.int .i64 (cmpS a b)) ∧ w' = w := by
  obtain ⟨p, hp⟩ : ∃ p, less a b = p := ⟨_, rfl⟩
  obtain ⟨q, hq⟩ : ∃ q, (a == b) = q := ⟨_, rfl⟩
  have e : cmpS a b = if p then -1 else if q then 0 else 1 := by
    unfold cmpS
    rw [hp]
    cases p
    · cases q
      · have hne : a ≠ b := by simpa using hq
        rcases less_total a b with h | h | h
        · rw [h] at hp; cases hp
        · exact absurd h hne
        · rw [h]; rfl
      · have hne : a = b := by simpa using hq
        subst hne; rw [less_irrefl]; rfl
    · rfl
  have e1 : Op.bytesLess (kS a).toList (kS b).toList = p := by rw [kS_list, kS_list]; exact hp
  have e2 : ∀ w : World, (binOp .gtr 9 (.string (kS a)) (.string (kS b))).run Try.prog w = .ok (.bool (!p && !q)) w := fun w => run_gtrS a b _ (by rw [hp, hq]) w
  have HN := Lib.hid (fun a w => ckNaN a w)
  rw [e]
  clear hp hq e
  cases p <;> cases q
  all_goals (
    simp only [Bool.not_true, Bool.not_false, Bool.and_true, Bool.and_false] at e2
    go_enter Try.func41, Try.ntmps41
    go_wp2_with fail
    refine (HN.out _ _).mono ?_
    rintro e w1 ⟨rfl, rfl⟩
    go_wp2_with fail
    refine (HN.out _ _).mono ?_
    rintro e w2 ⟨rfl, rfl⟩
    go_wp2_with fail
    go_ret
    exact ⟨rfl, rfl⟩)
theorem ckCmpC (x : Cl) (nm : List UInt8) (w : World) : Calls Try.prog 40 #[.agg (clC x), .string (kS nm)] w (TellsI (cmpS x.n nm) w) := by
  have HC := Lib.hid (fun w => ckCmp x.n nm w)
  have HB := Lib.hid (below_al (o := .cells (clC x) 43) (Below.refl w.heap.size w))
  obtain ⟨r, hr⟩ : ∃ r, r = cmpS x.n nm := ⟨_, rfl⟩
  rw [← hr] at HC ⊢
  clear hr
  obtain ⟨xn, xb⟩ := x
  simp only at HC
  go_enter Try.func40, Try.ntmps40
  go_wp2_with fail
  refine (HC.out _).mono ?_
  rintro e w1 ⟨rfl, rfl⟩
  go_wp2_with fail
  go_ret
  exact ⟨rfl, HB.out⟩
abbrev Up (l : List Cl) : Prop := l.Pairwise fun x y => less x.n y.n = true
theorem up_lt {l : List Cl} (h : Up l) {a b : Nat} {x y : Cl} (hab : a < b) (hx : l[a]? = some x) (hy : l[b]? = some y) : less x.n y.n = true := by
  obtain ⟨h1, rfl⟩ := List.getElem?_eq_some_iff.1 hx
  obtain ⟨h2, rfl⟩ := List.getElem?_eq_some_iff.1 hy
  exact List.pairwise_iff_getElem.1 h a b h1 h2 hab
/-- Where the search stands: below i all are less, from j on none is. -/
structure Bs (l : List Cl) (nm : List UInt8) (i j : Nat) : Prop where
  ij : i ≤ j
  jn : j ≤ l.length
  lo : ∀ k x, k < i → l[k]? = some x → less x.n nm = true
  hi : ∀ k x, j ≤ k → l[k]? = some x → less x.n nm = false
theorem Bs.start (l : List Cl) (nm : List UInt8) : Bs l nm 0 l.length := ⟨Nat.zero_le _, Nat.le_refl _, fun k x h => absurd h (Nat.not_lt_zero _), fun k x h hx => by have := (List.getElem?_eq_some_iff.1 hx).1; omega⟩
theorem Bs.up {l : List Cl} {nm : List UInt8} {i j h : Nat} {x : Cl} (H : Bs l nm i j) (hu : Up l) (hj : h < j) (hx : l[h]? = some x) (hl : less x.n nm = true) : Bs l nm (h + 1) j := by
  refine ⟨hj, H.jn, fun k y hk hy => ?_, H.hi⟩
  by_cases e : k = h
  · subst e; rw [hx] at hy; cases hy; exact hl
  · exact less_trans _ _ _ (up_lt hu (a := k) (b := h) (by omega) hy hx) hl
theorem Bs.down {l : List Cl} {nm : List UInt8} {i j h : Nat} {x : Cl} (H : Bs l nm i j) (hu : Up l) (hi : i ≤ h) (hj : h < j) (hx : l[h]? = some x) (hl : less x.n nm = false) : Bs l nm i h := by
  refine ⟨hi, by have := H.jn; omega, H.lo, fun k y hk hy => ?_⟩
  by_cases e : k = h
  · subst e; rw [hx] at hy; cases hy; exact hl
  · cases e2 : less y.n nm
    · rfl
    · rw [less_trans _ _ _ (up_lt hu (a := h) (b := k) (by omega) hx hy) e2] at hl; cases hl
/-- The place p: all ahead are less, none from there on is; is tells whether it is there. -/
structure PlAt (l : List Cl) (nm : List UInt8) (p : Nat) (is : Bool) : Prop where
  le : p ≤ l.length
  lo : ∀ k x, k < p → l[k]? = some x → less x.n nm = true
  at_ : is = true → ∃ x, l[p]? = some x ∧ x.n = nm
  hi : ∀ k x, (if is then p < k else p ≤ k) → l[k]? = some x → less nm x.n = true
theorem Bs.done_eq {l : List Cl} {nm : List UInt8} {i : Nat} {x : Cl} (H : Bs l nm i i) (hu : Up l) (hx : l[i]? = some x) (he : x.n = nm) : PlAt l nm i true :=
  ⟨H.jn, H.lo, fun _ => ⟨x, hx, he⟩, fun k y hk hy => by rw [← he]; exact up_lt hu (by simpa using hk) hx hy⟩
theorem Bs.done_ne {l : List Cl} {nm : List UInt8} {i : Nat} {x : Cl} (H : Bs l nm i i) (hu : Up l) (hx : l[i]? = some x) (he : x.n ≠ nm) : PlAt l nm i false := by
  have h0 : less nm x.n = true := by
    rcases less_total nm x.n with h | h | h
    · exact h
    · exact absurd h.symm he
    · rw [H.hi i x (Nat.le_refl _) hx] at h; cases h
  refine ⟨H.jn, H.lo, fun h => (by cases h), fun k y hk hy => ?_⟩
  have hk : i ≤ k := by simpa using hk
  by_cases e : k = i
  · subst e; rw [hx] at hy; cases hy; exact h0
  · exact less_trans _ _ _ h0 (up_lt hu (a := i) (b := k) (by omega) hx hy)
theorem Bs.done_end {l : List Cl} {nm : List UInt8} {i : Nat} (H : Bs l nm i i) (he : i = l.length) : PlAt l nm i false :=
  ⟨H.jn, H.lo, fun h => (by cases h), fun k y hk hy => by have hk : i ≤ k := by simpa using hk
                                                          have := (List.getElem?_eq_some_iff.1 hy).1; omega⟩
def TellsP (l : List Cl) (nm : List UInt8) (w : World) (e : Ending) (w' : World) : Prop := ∃ p is, e = .returned (.tuple #[.int .i64 (p : Nat), .bool is]) ∧ PlAt l nm p is ∧ Below w.heap.size w w'
theorem cmp_lt {a b : List UInt8} (h : less a b = true) : cmpS a b = -1 := if_pos h
theorem cmp_not {a b : List UInt8} (h : less a b = false) : ¬ cmpS a b < 0 := by
  unfold cmpS; rw [h, if_neg (by simp)]; split <;> omega
theorem cmp_eq {a b : List UInt8} (h : a = b) : cmpS a b = 0 := by
  subst h; unfold cmpS; rw [less_irrefl]; rfl
theorem cmp_ne {a b : List UInt8} (h : a ≠ b) : cmpS a b ≠ 0 := by
  unfold cmpS
  rcases less_total a b with h1 | h1 | h1
  · rw [h1]; simp
  · exact absurd h1 h
  · rw [h1]; cases less a b <;> simp
set_option maxRecDepth 100000 in
set_option maxHeartbeats 2000000 in
theorem ckSearch (l : List Cl) (nm : List UInt8) (n : Nat) (hn : n = l.length) (hu : Up l) (A : Option Addr) (c : Nat) (w : World) (h : Row w A (clc l)) (hl : n ≤ 4611686018427387904) :
    Calls Try.prog 39 #[.slice A n c, .string (kS nm), .func (.func 40) #[] #[]] w (TellsP l nm w) := by
  have H := Lib.hid h
  have HU := Lib.hid hu
  have HN := Lib.hid hn
  have S0 := Lib.hid (show Bs l nm 0 n by rw [hn]; exact Bs.start l nm)
  clear h hu hn
  go_enter Try.func39, Try.ntmps39
  go_wp2_with fail
  go_loopw [9, 10] (fun s9 s10 wr => ∃ i j : Nat, s9 = .int .i64 i ∧ s10 = .int .i64 j ∧ Bs l nm i j ∧ Below w.heap.size w wr) (fun s9 s10 _ => (intOf s10).toNat - (intOf s9).toNat)
  case atStart => exact ⟨0, n, rfl, rfl, S0.out, Below.refl _ _⟩
  case round =>
    clear S0
    obtain ⟨i, j, rfl, rfl, hB, hb⟩ := hrel
    have HB := Lib.hid hb
    have HS := Lib.hid hB
    have h1 := hB.ij
    have h2 : j ≤ n := by rw [HN.out]; exact hB.jn
    clear hB hb
    by_cases hlt : i < j
    · obtain ⟨m, hm⟩ : ∃ m, m = (i + j) / 2 := ⟨_, rfl⟩
      have hm1 : i ≤ m := by omega
      have hm2 : m < j := by omega
      obtain ⟨x, hx⟩ : ∃ x, l[m]? = some x := ⟨_, List.getElem?_eq_getElem (by rw [← HN.out]; omega)⟩
      obtain ⟨b, off, hA, c0, c1⟩ := cell_row (H.out.below HB.out) hx
      subst hA
      have HX := Lib.hid hx
      have HC := Lib.hid (fun w => ckCmpC x nm w)
      have e1 : IntKind.i64.wrap ((i : Int) + j) = (i : Int) + j := wrapO (by omega) (by omega)
      have hmI : ((i : Int) + j) / 2 = m := by omega
      have hmn : (m : Int) < (n : Int) := by omega
      have hm0 : (0 : Int) ≤ (m : Int) := by omega
      have hw := wrapKO (k := m) (by omega)
      have HM := Lib.hid (And.intro hm1 hm2)
      have hijI : (i : Int) < (j : Int) := by omega
      clear hx hm
      obtain ⟨q, hq⟩ : ∃ q, less x.n nm = q := ⟨_, rfl⟩
      have HQ := Lib.hid hq
      clear hq
      cases q
      · have er : ∃ r : Int, cmpS x.n nm = r ∧ ¬ r < 0 := ⟨_, rfl, cmp_not HQ.out⟩
        obtain ⟨r, er, hr⟩ := er
        rw [er] at HC
        clear er
        obtain ⟨xn, xb⟩ := x
        simp only [clC] at HC
        simp only at c0 c1
        go_wp2_with fail
        refine (HC.out _).mono ?_
        rintro e w1 ⟨rfl, hb1⟩
        have HB1 := Lib.hid (below_next HB.out hb1)
        clear hb1
        go_wp2_with fail
        go_roundw
        case rel => exact ⟨i, m, rfl, rfl, HS.out.down HU.out HM.out.1 HM.out.2 HX.out HQ.out, HB1.out⟩
        case measure => simp [intOf]; have := HM.out; omega
      · rw [cmp_lt HQ.out] at HC
        obtain ⟨xn, xb⟩ := x
        simp only [clC] at HC
        simp only at c0 c1
        go_wp2_with fail
        refine (HC.out _).mono ?_
        rintro e w1 ⟨rfl, hb1⟩
        have HB1 := Lib.hid (below_next HB.out hb1)
        clear hb1
        go_wp2_with fail
        go_roundw
        case rel => exact ⟨m + 1, j, by first | rfl | go_num, rfl, HS.out.up HU.out HM.out.2 HX.out HQ.out, HB1.out⟩
        case measure => simp [intOf]; have := HM.out; omega
    · have hij : j = i := by omega
      subst hij
      by_cases hn : j < n
      · obtain ⟨x, hx⟩ : ∃ x, l[j]? = some x := ⟨_, List.getElem?_eq_getElem (by rw [← HN.out]; omega)⟩
        obtain ⟨b, off, hA, c0, c1⟩ := cell_row (H.out.below HB.out) hx
        subst hA
        have HX := Lib.hid hx
        have HC := Lib.hid (fun w => ckCmpC x nm w)
        have hjI : (j : Int) < (n : Int) := by omega
        clear hx
        by_cases hc : x.n = nm
        · rw [cmp_eq hc] at HC
          have HP := Lib.hid (HS.out.done_eq HU.out HX.out hc)
          clear hc
          obtain ⟨xn, xb⟩ := x
          simp only [clC] at HC
          simp only at c0 c1
          go_wp2_with fail
          refine (HC.out _).mono ?_
          rintro e w1 ⟨rfl, hb1⟩
          have HB1 := Lib.hid (below_next HB.out hb1)
          clear hb1
          go_wp2_with fail
          go_ret2
          exact ⟨j, true, rfl, HP.out, HB1.out⟩
        · have er : ∃ r : Int, cmpS x.n nm = r ∧ (r == 0) = false := ⟨_, rfl, ne_b (cmp_ne hc)⟩
          obtain ⟨r, er, hr⟩ := er
          rw [er] at HC
          have HP := Lib.hid (HS.out.done_ne HU.out HX.out hc)
          clear er hc
          obtain ⟨xn, xb⟩ := x
          simp only [clC] at HC
          simp only at c0 c1
          go_wp2_with fail
          refine (HC.out _).mono ?_
          rintro e w1 ⟨rfl, hb1⟩
          have HB1 := Lib.hid (below_next HB.out hb1)
          clear hb1
          go_wp2_with fail
          go_ret2
          exact ⟨j, false, rfl, HP.out, HB1.out⟩
      · have HP := Lib.hid (HS.out.done_end (by rw [← HN.out]; omega))
        have hjI : ¬ (j : Int) < (n : Int) := by omega
        go_wp2_with fail
        go_ret2
        exact ⟨j, false, rfl, HP.out, HB.out⟩
theorem ckFind (l : List Cl) (nm : List UInt8) (n : Nat) (hn : n = l.length) (hu : Up l) (A : Option Addr) (c : Nat) (w : World) (h : Row w A (clc l)) (hl : n ≤ 4611686018427387904) :
    Calls Try.prog 31 #[.slice A n c, .string (kS nm)] w (TellsP l nm w) := by
  have HB := Lib.hid (ckSearch l nm n hn hu A c w h hl)
  clear h hn hu hl
  go_enter Try.func31, Try.ntmps31
  go_wp2_with fail
  refine HB.out.mono ?_
  rintro e w1 ⟨p, is, rfl, hp, hb1⟩
  have HP := Lib.hid hp
  have HB1 := Lib.hid hb1
  clear hp hb1
  go_wp2_with fail
  go_ret2
  exact ⟨p, is, rfl, HP.out, HB1.out⟩
/-! what comes to count, at that place -/
theorem wi_ahead (x : Cl) : ∀ (a r : List Cl) (put : Bool), (∀ c ∈ a, less c.n x.n = true) → wi put (a ++ r) x = a ++ wi put r x
  | [], r, put, _ => rfl
  | c :: a, r, put, h => by
    have h0 := h c (by simp)
    rw [List.cons_append, wi_cons, h0, if_pos (less_ne h0), if_neg (by simp)]
    simp only [Bool.not_true, Bool.or_false, List.nil_append, List.cons_append, List.cons.injEq, true_and]
    exact wi_ahead x a r put fun d hd => h d (List.mem_cons_of_mem _ hd)
theorem wi_true (x : Cl) : ∀ (r : List Cl), (∀ c ∈ r, less x.n c.n = true) → wi true r x = r
  | [], _ => rfl
  | c :: r, h => by
    rw [wi_cons, if_neg (by simp), if_pos (less_ne (h c (by simp))).symm]
    simp only [Bool.true_or, List.nil_append, List.cons_append, List.cons.injEq, true_and]
    exact wi_true x r fun d hd => h d (List.mem_cons_of_mem _ hd)
theorem less_asym {a b : List UInt8} (h : less a b = true) : less b a = false := by
  cases e : less b a
  · rfl
  · have := less_trans _ _ _ h e
    rw [less_irrefl] at this; cases this
theorem wi_behind (x : Cl) (r : List Cl) (put : Bool) (h : ∀ c ∈ r, less x.n c.n = true) : wi put r x = if put then r else x :: r := by
  cases put
  · cases r with
    | nil => rfl
    | cons c r =>
      have h0 := h c (by simp)
      rw [wi_cons, less_asym h0, if_pos (by simp), if_pos (less_ne h0).symm]
      simp only [Bool.not_false, Bool.or_true, List.cons_append, List.nil_append]
      rw [wi_true x r fun d hd => h d (List.mem_cons_of_mem _ hd)]
      rfl
  · exact wi_true x r h
theorem wi_found (x y : Cl) (r : List Cl) (put : Bool) (hy : y.n = x.n) (h : ∀ c ∈ r, less x.n c.n = true) : wi put (y :: r) x = if put then r else x :: r := by
  have h0 : less y.n x.n = false := by rw [hy]; exact less_irrefl _
  rw [wi_cons, h0, if_neg (c := y.n ≠ x.n) (by simpa using hy)]
  simp only [Bool.not_false, Bool.or_true, List.nil_append]
  rw [wi_true x r h]
  cases put <;> rfl
theorem mem_take_lo {l : List Cl} {nm : List UInt8} {p : Nat} {is : Bool} (H : PlAt l nm p is) : ∀ c ∈ l.take p, less c.n nm = true := by
  intro c hc
  obtain ⟨i, hi⟩ := List.getElem?_of_mem hc
  rw [List.getElem?_take] at hi
  split at hi
  · exact H.lo i c (by assumption) hi
  · cases hi
theorem mem_drop_hi {l : List Cl} {nm : List UInt8} {p q : Nat} {is : Bool} (H : PlAt l nm p is) (hq : q = if is then p + 1 else p) : ∀ c ∈ l.drop q, less nm c.n = true := by
  intro c hc
  obtain ⟨i, hi⟩ := List.getElem?_of_mem hc
  rw [List.getElem?_drop] at hi
  refine H.hi (q + i) c ?_ hi
  cases is
  · simp at hq ⊢; omega
  · simp at hq ⊢; omega
theorem with_not {l : List Cl} {x : Cl} {p : Nat} (H : PlAt l x.n p false) : withC l x = if decide (x.b = []) then l else l.take p ++ x :: l.drop p := by
  have e : withC l x = wi (decide (x.b = [])) (l.take p ++ l.drop p) x := by rw [List.take_append_drop]; rfl
  rw [e, wi_ahead x _ _ _ (mem_take_lo H), wi_behind x (l.drop p) _ (mem_drop_hi (q := p) H rfl)]
  split
  · rw [List.take_append_drop]
  · rfl
theorem with_found {l : List Cl} {x : Cl} {p : Nat} (H : PlAt l x.n p true) : withC l x = if decide (x.b = []) then l.take p ++ l.drop (p + 1) else l.take p ++ x :: l.drop (p + 1) := by
  obtain ⟨y, hy, hn⟩ := H.at_ rfl
  have e : withC l x = wi (decide (x.b = [])) (l.take p ++ l.drop p) x := by rw [List.take_append_drop]; rfl
  rw [e, wi_ahead x _ _ _ (mem_take_lo H), drop_get hy, wi_found x y (l.drop (p + 1)) _ hn (mem_drop_hi (q := p + 1) H rfl)]
  split <;> rfl
end So
end Go.Proofs.Ytpjgdpdgfchhkaa
