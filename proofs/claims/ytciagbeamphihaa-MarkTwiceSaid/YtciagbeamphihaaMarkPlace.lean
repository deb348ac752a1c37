/- The place of a hold: a binary search. -/
import Derived.Test.YtciagbeamphihaaMarkRefA
namespace Go.Proofs.Ytciagbeamphihaa
open Go.RowKit
set_option linter.unusedVariables false
set_option maxRecDepth 8000
namespace Wm
def cmpV (a b : Int) : Int := if a < b then -1 else if b < a then 1 else 0
theorem ckNaN (a : Int) (w : World) : Calls Try.prog 57 #[.int .i64 a] w fun e w' => e = .returned (.bool false) ∧ w' = w := by
  go_enter Try.func57, Try.ntmps57
  go_wp2_with fail
  go_ret
  exact ⟨by first | rfl | simp, rfl⟩
theorem ckCmp (a b : Int) (w : World) : Calls Try.prog 50 #[.int .i64 a, .int .i64 b] w fun e w' => e = .returned (.int .i64 (cmpV a b)) ∧ w' = w := by
  have hway : (a < b ∧ cmpV a b = -1) ∨ (¬ a < b ∧ b < a ∧ cmpV a b = 1) ∨ (¬ a < b ∧ ¬ b < a ∧ cmpV a b = 0) := by
    unfold cmpV
    by_cases h1 : a < b
    · left; exact ⟨h1, if_pos h1⟩
    · right
      by_cases h2 : b < a
      · left; exact ⟨h1, h2, by rw [if_neg h1, if_pos h2]⟩
      · right; exact ⟨h1, h2, by rw [if_neg h1, if_neg h2]⟩
  rcases hway with ⟨a1, e⟩ | ⟨a1, a2, e⟩ | ⟨a1, a2, e⟩
  all_goals (
    rw [e]
    clear e
    go_enter Try.func50, Try.ntmps50
    go_wp2_with fail
    refine (ckNaN _ _).mono ?_
    rintro e w1 ⟨rfl, rfl⟩
    go_wp2_with fail
    refine (ckNaN _ _).mono ?_
    rintro e w2 ⟨rfl, rfl⟩
    go_wp2_with fail
    go_ret
    exact ⟨rfl, rfl⟩)
theorem ckCmpHo (x : Ho) (no : Int) (w : World) : Calls Try.prog 49 #[hoV x, .int .i64 no] w (TellsI (cmpV x.no no) w) := by
  have HC := Lib.hid (fun w => ckCmp x.no no w)
  obtain ⟨r, hr⟩ : ∃ r, r = cmpV x.no no := ⟨_, rfl⟩
  rw [← hr] at HC ⊢
  clear hr
  go_enter Try.func49, Try.ntmps49
  go_wp2_with fail
  refine (HC.out _).mono ?_
  rintro e w1 ⟨rfl, rfl⟩
  go_wp2_with fail
  go_ret
  exact ⟨rfl, al_below _ _⟩
/-- Where the search stands: below i all are less, from j on none is, if the holds are in order. -/
structure Bs (hs : List Ho) (no : Int) (i j : Nat) : Prop where
  ij : i ≤ j
  jn : j ≤ hs.length
  lo : chain (-1) hs = true → ∀ k x, k < i → hs[k]? = some x → x.no < no
  hi : chain (-1) hs = true → ∀ k x, j ≤ k → hs[k]? = some x → no ≤ x.no
theorem chain_lt : ∀ {p : Int} {l : List Ho}, chain p l = true → ∀ {a b : Nat} {x y : Ho}, a < b → l[a]? = some x → l[b]? = some y → x.no < y.no
  | p, [], _, a, b, x, y, _, hx, _ => by simp at hx
  | p, z :: r, h, 0, b + 1, x, y, _, hx, hy => by
    simp only [chain, Bool.and_eq_true, decide_eq_true_eq] at h
    simp only [List.getElem?_cons_zero, Option.some.injEq] at hx
    subst hx
    exact (chain_mem h.2 y (List.mem_of_getElem? (i := b) (by simpa using hy))).1
  | p, z :: r, h, a + 1, b + 1, x, y, hab, hx, hy => by
    simp only [chain, Bool.and_eq_true, decide_eq_true_eq] at h
    exact chain_lt h.2 (a := a) (b := b) (by omega) (by simpa using hx) (by simpa using hy)
theorem Bs.start (hs : List Ho) (no : Int) : Bs hs no 0 hs.length := ⟨Nat.zero_le _, Nat.le_refl _, fun _ k x h => absurd h (Nat.not_lt_zero _), fun _ k x h hx => by have := (List.getElem?_eq_some_iff.1 hx).1; omega⟩
theorem Bs.up {hs : List Ho} {no : Int} {i j h : Nat} {x : Ho} (H : Bs hs no i j) (hj : h < j) (hx : hs[h]? = some x) (hl : x.no < no) : Bs hs no (h + 1) j := by
  refine ⟨hj, H.jn, fun hc k y hk hy => ?_, H.hi⟩
  by_cases e : k = h
  · subst e; rw [hx] at hy; cases hy; exact hl
  · have := chain_lt hc (a := k) (b := h) (by omega) hy hx
    omega
theorem Bs.down {hs : List Ho} {no : Int} {i j h : Nat} {x : Ho} (H : Bs hs no i j) (hi : i ≤ h) (hj : h < j) (hx : hs[h]? = some x) (hl : ¬ x.no < no) : Bs hs no i h := by
  refine ⟨hi, by have := H.jn; omega, H.lo, fun hc k y hk hy => ?_⟩
  by_cases e : k = h
  · subst e; rw [hx] at hy; cases hy; omega
  · have := chain_lt hc (a := h) (b := k) (by omega) hx hy
    omega
/-- The place p: all ahead are less, none from there on is; is tells whether it is there. -/
structure PlAt (hs : List Ho) (no : Int) (p : Nat) (is : Bool) : Prop where
  le : p ≤ hs.length
  at_ : is = true → ∃ x, hs[p]? = some x ∧ x.no = no
  lo : chain (-1) hs = true → ∀ k x, k < p → hs[k]? = some x → x.no < no
  hi : chain (-1) hs = true → ∀ k x, p ≤ k → hs[k]? = some x → if is then no ≤ x.no else no < x.no
def TellsP (hs : List Ho) (no : Int) (w : World) (e : Ending) (w' : World) : Prop := ∃ p is, e = .returned (.tuple #[.int .i64 (p : Nat), .bool is]) ∧ PlAt hs no p is ∧ Below w.heap.size w w'
theorem Bs.done_eq {hs : List Ho} {no : Int} {i : Nat} {x : Ho} (H : Bs hs no i i) (hx : hs[i]? = some x) (he : x.no = no) : PlAt hs no i true :=
  ⟨H.jn, fun _ => ⟨x, hx, he⟩, H.lo, fun hc k y hk hy => H.hi hc k y hk hy⟩
theorem Bs.done_ne {hs : List Ho} {no : Int} {i : Nat} {x : Ho} (H : Bs hs no i i) (hx : hs[i]? = some x) (he : x.no ≠ no) : PlAt hs no i false := by
  refine ⟨H.jn, fun h => (by cases h), H.lo, fun hc k y hk hy => ?_⟩
  show no < y.no
  have h1 := H.hi hc i x (Nat.le_refl _) hx
  by_cases e : k = i
  · subst e; rw [hx] at hy; cases hy; omega
  · have := chain_lt hc (a := i) (b := k) (by omega) hx hy
    omega
theorem Bs.done_end {hs : List Ho} {no : Int} {i : Nat} (H : Bs hs no i i) (he : i = hs.length) : PlAt hs no i false :=
  ⟨H.jn, fun h => (by cases h), H.lo, fun hc k y hk hy => by have := (List.getElem?_eq_some_iff.1 hy).1; omega⟩
set_option maxRecDepth 100000 in
set_option maxHeartbeats 2000000 in
theorem ckSearch (hs : List Ho) (no : Int) (A : Option Addr) (c : Nat) (w : World) (h : Row w A (hc hs)) (hl : hs.length ≤ 100000) :
    Calls Try.prog 48 #[.slice A hs.length c, .int .i64 no, .func (.func 49) #[] #[]] w (TellsP hs no w) := by
  have H := Lib.hid h
  clear h
  go_enter Try.func48, Try.ntmps48
  go_wp2_with fail
  go_loopw [9, 10] (fun s9 s10 wr => ∃ i j : Nat, s9 = .int .i64 i ∧ s10 = .int .i64 j ∧ Bs hs no i j ∧ Below w.heap.size w wr) (fun s9 s10 _ => (intOf s10).toNat - (intOf s9).toNat)
  case atStart => exact ⟨0, hs.length, rfl, rfl, Bs.start hs no, Below.refl _ _⟩
  case round =>
    obtain ⟨i, j, rfl, rfl, hB, hb⟩ := hrel
    have HB := Lib.hid hb
    have HS := Lib.hid hB
    have h1 := hB.ij
    have h2 := hB.jn
    clear hB hb
    by_cases hlt : i < j
    · obtain ⟨m, hm⟩ : ∃ m, m = (i + j) / 2 := ⟨_, rfl⟩
      have hm1 : i ≤ m := by omega
      have hm2 : m < j := by omega
      obtain ⟨x, hx⟩ : ∃ x, hs[m]? = some x := ⟨_, List.getElem?_eq_getElem (by omega)⟩
      obtain ⟨b, off, rfl, c0, c1⟩ := row_ho (H.out.below HB.out) hx
      have HX := Lib.hid hx
      have HC := Lib.hid (fun w => ckCmpHo x no w)
      have e1 : IntKind.i64.wrap ((i : Int) + j) = (i : Int) + j := wrap64_in (by omega) (by omega)
      have hmI : ((i : Int) + j) / 2 = m := by omega
      clear hx hm
      by_cases hc : x.no < no
      · have er : cmpV x.no no = -1 := if_pos hc
        rw [er] at HC
        have HC' := Lib.hid hc
        clear er hc
        go_wp2_with fail
        refine (HC.out _).mono ?_
        rintro e w1 ⟨rfl, hb1⟩
        have HB1 := Lib.hid (below_next HB.out hb1)
        clear hb1
        go_wp2_with fail
        go_roundw
        case rel => exact ⟨m + 1, j, by go_num, rfl, HS.out.up hm2 HX.out HC'.out, HB1.out⟩
        case measure => simp [intOf]; omega
      · have er : ∃ r : Int, cmpV x.no no = r ∧ ¬ r < 0 := ⟨_, rfl, by unfold cmpV; rw [if_neg hc]; split <;> omega⟩
        obtain ⟨r, er, hr⟩ := er
        rw [er] at HC
        have HC' := Lib.hid hc
        clear er hc
        go_wp2_with fail
        refine (HC.out _).mono ?_
        rintro e w1 ⟨rfl, hb1⟩
        have HB1 := Lib.hid (below_next HB.out hb1)
        clear hb1
        go_wp2_with fail
        go_roundw
        case rel => exact ⟨i, m, rfl, rfl, HS.out.down hm1 hm2 HX.out (by have := HC'.out; omega), HB1.out⟩
        case measure => simp [intOf]; omega
    · have hij : j = i := by omega
      subst hij
      by_cases hn : j < hs.length
      · obtain ⟨x, hx⟩ : ∃ x, hs[j]? = some x := ⟨_, List.getElem?_eq_getElem hn⟩
        obtain ⟨b, off, rfl, c0, c1⟩ := row_ho (H.out.below HB.out) hx
        have HX := Lib.hid hx
        have HC := Lib.hid (fun w => ckCmpHo x no w)
        clear hx
        by_cases hc : x.no = no
        · have er : cmpV x.no no = 0 := by unfold cmpV; rw [if_neg (by omega), if_neg (by omega)]
          rw [er] at HC
          have HP := Lib.hid (HS.out.done_eq HX.out hc)
          clear er hc
          go_wp2_with fail
          refine (HC.out _).mono ?_
          rintro e w1 ⟨rfl, hb1⟩
          have HB1 := Lib.hid (below_next HB.out hb1)
          clear hb1
          go_wp2_with fail
          go_ret2
          exact ⟨j, true, rfl, HP.out, HB1.out⟩
        · have er : ∃ r : Int, cmpV x.no no = r ∧ (r == 0) = false := ⟨_, rfl, by
            refine ne_b ?_
            unfold cmpV
            split
            · omega
            · split <;> omega⟩
          obtain ⟨r, er, hr⟩ := er
          rw [er] at HC
          have HP := Lib.hid (HS.out.done_ne HX.out hc)
          clear er hc
          go_wp2_with fail
          refine (HC.out _).mono ?_
          rintro e w1 ⟨rfl, hb1⟩
          have HB1 := Lib.hid (below_next HB.out hb1)
          clear hb1
          go_wp2_with fail
          go_ret2
          exact ⟨j, false, rfl, HP.out, HB1.out⟩
      · have HP := Lib.hid (HS.out.done_end (by omega))
        go_wp2_with fail
        go_ret2
        exact ⟨j, false, rfl, HP.out, HB.out⟩
theorem ckPlace (hs : List Ho) (no : Int) (A : Option Addr) (c : Nat) (w : World) (h : Row w A (hc hs)) (hl : hs.length ≤ 100000) :
    Calls Try.prog 35 #[.slice A hs.length c, .int .i64 no] w (TellsP hs no w) := by
  have HB := Lib.hid (ckSearch hs no A c w h hl)
  clear h
  go_enter Try.func35, Try.ntmps35
  go_wp2_with fail
  refine HB.out.mono ?_
  rintro e w1 ⟨p, is, rfl, hp, hb1⟩
  have HP := Lib.hid hp
  have HB1 := Lib.hid hb1
  clear hp hb1
  go_wp2_with fail
  go_ret2
  exact ⟨p, is, rfl, HP.out, HB1.out⟩
end Wm
end Go.Proofs.Ytciagbeamphihaa
