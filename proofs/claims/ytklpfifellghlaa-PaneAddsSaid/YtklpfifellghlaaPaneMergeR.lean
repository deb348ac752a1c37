/- Merge and Due of the reference. -/
import Derived.Test.YtklpfifellghlaaPaneWith
import Derived.Test.YtklpfifellghlaaPaneDue
namespace Go.Proofs.Ytklpfifellghlaa
open Go.RowKit
open Pan
set_option linter.unusedVariables false
namespace Pan
theorem wOut_ok {k : Int} {x : Pn} {l : List Pn} (h : (wOut k x l).2 = 0) : wOut k x l = (ins k x l, 0) ∧ hitK k x l = false ∧ (ins k x l).length ≤ 2000 := by
  unfold wOut at h ⊢
  by_cases h1 : hitK k x l = true
  · rw [h1] at h; simp at h
  · have h1' : hitK k x l = false := by simpa using h1
    by_cases h2 : 2000 < (ins k x l).length
    · rw [h1', decide_eq_true h2] at h; simp at h
    · rw [h1', decide_eq_false h2]; exact ⟨rfl, rfl, by omega⟩
theorem wOut_bad {k : Int} {x : Pn} {l : List Pn} (h : (wOut k x l).2 ≠ 0) : wOut k x l = ([], 3) ∧ (hitK k x l = true ∨ 2000 < (ins k x l).length) := by
  unfold wOut at h ⊢
  by_cases h1 : hitK k x l = true
  · rw [h1]; exact ⟨rfl, .inl rfl⟩
  · have h1' : hitK k x l = false := by simpa using h1
    by_cases h2 : 2000 < (ins k x l).length
    · rw [decide_eq_true h2, Bool.or_true]; exact ⟨rfl, .inr h2⟩
    · rw [h1', decide_eq_false h2] at h; exact absurd rfl h
end Pan
set_option maxRecDepth 100000 in
set_option maxHeartbeats 1000000 in
theorem rfMerge (k : Int) (xs ys : List Pn) (A A2 : Option Addr) (c c2 : Nat) (w : World) (hA : Row w A (pc xs)) (hA2 : Row w A2 (pc ys)) (hl : xs.length ≤ c) (hc : c ≤ maxLen) (hl2 : ys.length ≤ 9223372036854775807) :
    Calls Try.prog 23 #[.int .i64 k, .slice A xs.length c, .slice A2 ys.length c2] w (GivesPE (mOut k xs ys) w) := by
  have hc' : c ≤ 9223372036854775807 := hc
  have HR1 := Lib.hid (rfRightL xs A c w hA (by omega))
  have HR2 := Lib.hid (fun w' (hb : Below w.heap.size w w') => rfRightL ys A2 c2 w' (hA2.below hb) hl2)
  have HK := Lib.hid (rfFold k)
  have HA := Lib.hid hA; have HA2 := Lib.hid hA2
  obtain ⟨b1, h1⟩ : ∃ b, b = right xs := ⟨_, rfl⟩
  obtain ⟨b2, h2⟩ : ∃ b, b = right ys := ⟨_, rfl⟩
  obtain ⟨b3, h3⟩ : ∃ b, b = Acm.isK k := ⟨_, rfl⟩
  have hm : mOut k xs ys = if b1 && b2 && b3 then (if bad k xs ys || decide (2000 < (mrg k xs ys).length) then ([], 3) else (mrg k xs ys, 0)) else ([], 1) := by rw [h1, h2, h3]; rfl
  have g1 : b1 = true → xs.length ≤ 2000 ∧ Pan.Ord xs := fun h => ⟨((right_iff xs).1 (h1 ▸ h)).1, ((right_iff xs).1 (h1 ▸ h)).2.2⟩
  have g2 : b2 = true → ys.length ≤ 2000 := fun h => ((right_iff ys).1 (h2 ▸ h)).1
  rw [← h1] at HR1
  rw [← h2] at HR2
  rw [← h3] at HK
  have HM := Lib.hid hm
  clear h1 h2 h3 hA hA2 hm
  cases b1
  · have HM2 : Hid (mOut k xs ys = ([], 1)) := Lib.hid HM.out
    clear HM g1 g2
    go_enter Try.func23, Try.ntmps23
    go_wp2_with fail
    refine HR1.out.mono ?_
    rintro e w1 ⟨rfl, hb1⟩
    have HB1 := Lib.hid hb1
    clear hb1
    go_wp2_with fail
    go_ret2
    rw [HM2.out]
    exact ⟨none, 0, rfl, Nat.le_refl _, by simp [maxLen], Row.nil, HB1.out⟩
  · cases b2
    · have HM2 : Hid (mOut k xs ys = ([], 1)) := Lib.hid HM.out
      clear HM g1 g2
      go_enter Try.func23, Try.ntmps23
      go_wp2_with fail
      refine HR1.out.mono ?_
      rintro e w1 ⟨rfl, hb1⟩
      have HB1 := Lib.hid hb1
      clear hb1
      go_wp2_with fail
      refine (HR2.out _ HB1.out).mono ?_
      rintro e w2 ⟨rfl, hb2⟩
      have HB2 := Lib.hid (below_next HB1.out hb2)
      clear hb2
      go_wp2_with fail
      go_ret2
      rw [HM2.out]
      exact ⟨none, 0, rfl, Nat.le_refl _, by simp [maxLen], Row.nil, HB2.out⟩
    · cases b3
      · have HM2 : Hid (mOut k xs ys = ([], 1)) := Lib.hid HM.out
        clear HM g1 g2
        go_enter Try.func23, Try.ntmps23
        go_wp2_with fail
        refine HR1.out.mono ?_
        rintro e w1 ⟨rfl, hb1⟩
        have HB1 := Lib.hid hb1
        clear hb1
        go_wp2_with fail
        refine (HR2.out _ HB1.out).mono ?_
        rintro e w2 ⟨rfl, hb2⟩
        have HB2 := Lib.hid (below_next HB1.out hb2)
        clear hb2
        go_wp2_with fail
        refine (HK.out _).mono ?_
        rintro e w3 ⟨rfl, rfl⟩
        go_wp2_with fail
        go_ret2
        rw [HM2.out]
        exact ⟨none, 0, rfl, Nat.le_refl _, by simp [maxLen], Row.nil, HB2.out⟩
      · have HM2 : Hid (mOut k xs ys = if bad k xs ys || decide (2000 < (mrg k xs ys).length) then ([], 3) else (mrg k xs ys, 0)) := Lib.hid HM.out
        obtain ⟨hx20, hxo⟩ := g1 rfl
        have hy20 := g2 rfl
        have HXO := Lib.hid hxo
        clear HM g1 g2 hxo
        go_enter Try.func23, Try.ntmps23
        go_wp2_with fail
        refine HR1.out.mono ?_
        rintro e w1 ⟨rfl, hb1⟩
        have HB1 := Lib.hid hb1
        clear hb1
        go_wp2_with fail
        refine (HR2.out _ HB1.out).mono ?_
        rintro e w2 ⟨rfl, hb2⟩
        have HB2 := Lib.hid (below_next HB1.out hb2)
        clear hb2
        go_wp2_with fail
        refine (HK.out _).mono ?_
        rintro e w3 ⟨rfl, rfl⟩
        go_wp2_with fail
        go_loopw [8, 29] (fun v i wr => ∃ (j : Nat) (B : Option Addr) (cb : Nat) (l : List Pn), i = .int .i64 j ∧ v = .slice B l.length cb ∧ j ≤ ys.length ∧ l.length ≤ cb ∧ cb ≤ maxLen ∧ l.length ≤ 2000 ∧ Row wr B (pc l) ∧ Below w.heap.size w wr ∧ l = mrg k xs (ys.take j) ∧ bad k xs (ys.take j) = false)
          (fun _ i _ => ys.length - (intOf i).toNat)
        case atStart => exact ⟨0, A, c, xs, rfl, rfl, Nat.zero_le _, hl, hc, hx20, HA.out.below HB2.out, HB2.out, by simp [mrg], by simp [bad]⟩
        case round =>
          obtain ⟨j, B, cb, l, rfl, rfl, hj, hlb, hcb, hl20, hrow, hb, hle, hbad⟩ := hrel
          have HB := Lib.hid hb
          have HROW := Lib.hid hrow
          have HLE := Lib.hid hle
          have HBAD := Lib.hid hbad
          have HORD : Hid (Pan.Ord l) := Lib.hid (by rw [hle]; exact mrg_ord _ _ HXO.out)
          clear hb hrow hle hbad
          by_cases hlt : j < ys.length
          · obtain ⟨y, hy⟩ : ∃ y, ys[j]? = some y := ⟨_, List.getElem?_eq_getElem hlt⟩
            obtain ⟨b, off, rfl, c0, c1, c2, c3, c4, c5⟩ := (HA2.out.below HB.out).pn hy
            have HWITH := Lib.hid (fun w' (hb : Below wr.heap.size wr w') => rfWith k y l B cb w' (HROW.out.below hb) hl20 HORD.out)
            have HN1 := Lib.hid (mrg_next (k := k) (a := xs) hy)
            have HN2 := Lib.hid (bad_next (k := k) (a := xs) hy)
            have HWOK := Lib.hid (wOut_ok (k := k) (x := y) (l := l))
            have HWBAD := Lib.hid (wOut_bad (k := k) (x := y) (l := l))
            obtain ⟨⟨rl, re⟩, hrr⟩ : ∃ r, r = wOut k y l := ⟨_, rfl⟩
            rw [← hrr] at HWITH HWOK HWBAD
            clear hy hrr
            go_wp2_with fail
            refine (HWITH.out _ (below_al (Below.refl _ _))).mono ?_
            rintro e w5 ⟨A5, c5', rfl, q1, q2, q3, hb5⟩
            have Q3 := Lib.hid q3
            have HB5 := Lib.hid (below_next (below_next HB.out (below_al (Below.refl _ _))) hb5)
            simp only at q1
            clear q3 hb5
            by_cases he : re = 0
            · subst he
              obtain ⟨h4, h5, h6⟩ := HWOK.out rfl
              have H5 := Lib.hid h5; have H6 := Lib.hid h6
              have H7 : Hid (rl = ins k y l) := Lib.hid (congrArg Prod.fst h4)
              clear h4 h5 h6
              go_wp2_with fail
              go_roundw
              case rel =>
                have h5 := H5.out; have h6 := H6.out; have h7 := H7.out
                refine ⟨j + 1, A5, c5', rl, by go_num, rfl, by omega, q1, q2, by rw [h7]; exact h6, Q3.out, HB5.out, ?_, ?_⟩
                · rw [HN1.out, ← HLE.out, h7]
                · rw [HN2.out, HBAD.out, ← HLE.out, h5]; rfl
              case measure => simp [intOf]; omega
            · obtain ⟨h4, h5⟩ := HWBAD.out he
              have h6 : re = 3 := congrArg Prod.snd h4
              have h7 : rl = [] := congrArg Prod.fst h4
              subst h6
              subst h7
              have HFULL : Hid (mOut k xs ys = ([], 3)) := Lib.hid (by
                rw [HM2.out]
                rcases h5 with h5 | h5
                · rw [bad_of_take (j := j + 1) (by rw [HN2.out, ← HLE.out, h5, Bool.or_true])]; rfl
                · have h8 := len_of_take k xs ys (j + 1)
                  rw [HN1.out, ← HLE.out] at h8
                  rw [decide_eq_true (show 2000 < (mrg k xs ys).length by omega), Bool.or_true]; rfl)
              clear h4 h5 he
              go_wp2_with fail
              go_ret2
              rw [HFULL.out]
              exact ⟨none, 0, rfl, Nat.le_refl _, by simp [maxLen], Row.nil, HB5.out⟩
          · have hge : ys.length ≤ j := by omega
            have hle2 := HLE.out
            have hbad2 := HBAD.out
            rw [List.take_of_length_le hge] at hle2 hbad2
            have HOK : Hid (mOut k xs ys = (l, 0)) := Lib.hid (by rw [HM2.out, hbad2, ← hle2, decide_eq_false (by omega)]; rfl)
            clear hlt hle2 hbad2
            go_wp2_with fail
            go_ret2
            rw [HOK.out]
            exact ⟨B, cb, rfl, hlb, hcb, HROW.out, HB.out⟩
/-- Two rows that are being built. -/
structure Two (w0 w : World) (v1 v2 : Value) (m1 m2 : List Pn) : Prop where
  a : Built w0 w v1 m1
  b : Built w0 w v2 m2
  ne : ∀ q, v1.ownBlock = some q → v2.ownBlock ≠ some q
theorem Built.keep {w0 a b : World} {v : Value} {ms : List Pn} {row : Option Nat} (h : Built w0 a v ms) (hg : a.grownBy b row) (hne : ∀ q, v.ownBlock = some q → row ≠ some q) (hb : Below w0.heap.size w0 b) : Built w0 b v ms := by
  refine ⟨?_, hb⟩
  obtain ⟨hl, ⟨rfl, hx⟩ | ⟨g, cap, cur, rfl, hg2, hh, rest⟩⟩ := h.own
  · exact ⟨hl, .inl ⟨rfl, hx⟩⟩
  · refine ⟨hl, .inr ⟨g, cap, cur, rfl, hg2, ?_, rest⟩⟩
    exact (hg.block g (Array.getElem?_eq_some_iff.1 hh).1 (fun e => hne g rfl e.symm)).trans hh
theorem Two.up {w0 a b : World} {v1 v2 : Value} {m1 m2 : List Pn} (h : Two w0 a v1 v2 m1 m2) (hb : Below a.heap.size a b) : Two w0 b v1 v2 m1 m2 := ⟨h.a.up hb, h.b.up hb, h.ne⟩
theorem Two.pushA {w0 a b : World} {v1 v2 v' : Value} {m1 m2 m' : List Pn} (h : Two w0 a v1 v2 m1 m2) (bt : Built w0 b v' m') (hg : a.grownBy b v1.ownBlock) (hat : v'.ownBlock = v1.ownBlock ∨ v'.ownBlock = some a.heap.size) : Two w0 b v' v2 m' m2 :=
  ⟨bt, h.b.keep hg (fun q hq e => h.ne q e hq) bt.below, fun q hq => by
    rcases hat with e | e
    · rw [e] at hq; exact h.ne q hq
    · rw [e] at hq; intro h2; have := (h.b.far h2).2; have := Option.some.inj hq; omega⟩
theorem Two.pushB {w0 a b : World} {v1 v2 v' : Value} {m1 m2 m' : List Pn} (h : Two w0 a v1 v2 m1 m2) (bt : Built w0 b v' m') (hg : a.grownBy b v2.ownBlock) (hat : v'.ownBlock = v2.ownBlock ∨ v'.ownBlock = some a.heap.size) : Two w0 b v1 v' m1 m' :=
  ⟨h.a.keep hg (fun q hq => h.ne q hq) bt.below, bt, fun q hq => by
    rcases hat with e | e
    · rw [e]; exact h.ne q hq
    · rw [e]; intro h2; have := (h.a.far hq).2; have := Option.some.inj h2; omega⟩
namespace Pan
theorem due_next {m : Int} {l : List Pn} {j : Nat} {x : Pn} (h : l[j]? = some x) (hm : x.p.hi ≤ m) : due m (l.take (j + 1)) = due m (l.take j) ++ [x] ∧ rest m (l.take (j + 1)) = rest m (l.take j) := by
  unfold due rest
  rw [take_snoc h, List.filter_append, List.filter_append]
  simp [hm]
theorem rest_next {m : Int} {l : List Pn} {j : Nat} {x : Pn} (h : l[j]? = some x) (hm : ¬ x.p.hi ≤ m) : due m (l.take (j + 1)) = due m (l.take j) ∧ rest m (l.take (j + 1)) = rest m (l.take j) ++ [x] := by
  unfold due rest
  rw [take_snoc h, List.filter_append, List.filter_append]
  simp [hm]
end Pan
set_option maxRecDepth 100000 in
set_option maxHeartbeats 1000000 in
theorem rfDue (xs : List Pn) (A : Option Addr) (c : Nat) (m : Int) (w : World) (hA : Row w A (pc xs)) (hl : xs.length ≤ 9223372036854775807) :
    Calls Try.prog 18 #[.slice A xs.length c, .int .i64 m] w (GivesPP (if right xs then Pan.due m xs else []) (if right xs then Pan.rest m xs else []) w) := by
  have HR := Lib.hid (fun w' (hb : Below w.heap.size w w') => rfRightL xs A c w' (hA.below hb) hl)
  have HA := Lib.hid hA
  obtain ⟨b1, h1⟩ : ∃ b, b = right xs := ⟨_, rfl⟩
  have g1 : b1 = true → xs.length ≤ 2000 := fun h => ((right_iff xs).1 (h1 ▸ h)).1
  rw [← h1] at HR ⊢
  have HT0 : Hid (Two w ((w.alloc (.cells #[] 52)).alloc (.cells #[] 52)) (.slice (some ⟨w.heap.size, 0, none⟩) 0 0) (.slice (some ⟨w.heap.size + 1, 0, none⟩) 0 0) [] []) := Lib.hid
    ⟨(⟨own_new (Nat.le_refl _), below_al (Below.refl _ _)⟩ : Built w (w.alloc (.cells #[] 52)) _ []).up (below_al (Below.refl _ _)),
      ⟨by have h := own_new (B := w.heap.size) (e := 52) (size := 6) (w := w.alloc (.cells #[] 52)) (by simp); rw [World.size_alloc] at h; exact h, below_al (below_al (Below.refl _ _))⟩,
      fun q hq e => by have h1 := Option.some.inj (show some w.heap.size = some q from hq); have h2 := Option.some.inj (show some (w.heap.size + 1) = some q from e); omega⟩
  clear h1 hA
  cases b1
  · clear g1
    go_enter Try.func18, Try.ntmps18
    go_wp2_with fail
    refine (HR.out _ (below_al (below_al (Below.refl _ _)))).mono ?_
    rintro e w1 ⟨rfl, hb1⟩
    have HB1 := Lib.hid (below_next (below_al (below_al (Below.refl _ _))) hb1)
    clear hb1
    go_wp2_with fail
    go_ret2
    exact ⟨_, 0, _, 0, rfl, Nat.le_refl _, by simp [maxLen], Nat.le_refl _, by simp [maxLen], Row.nil, Row.nil, HB1.out⟩
  · have hx20 := g1 rfl
    clear g1
    go_enter Try.func18, Try.ntmps18
    go_wp2_with fail
    refine (HR.out _ (below_al (below_al (Below.refl _ _)))).mono ?_
    rintro e w1 ⟨rfl, hb1⟩
    have HT1 := Lib.hid (HT0.out.up hb1)
    clear hb1
    go_wp2_with fail
    go_loopw [6, 7, 19] (fun v1 v2 i wr => ∃ j : Nat, i = .int .i64 j ∧ j ≤ xs.length ∧ Two w wr v1 v2 (Pan.due m (xs.take j)) (Pan.rest m (xs.take j))) (fun _ _ i _ => xs.length - (intOf i).toNat)
    case atStart => exact ⟨0, rfl, Nat.zero_le _, HT1.out⟩
    case round =>
      obtain ⟨j, rfl, hj, ht⟩ := hrel
      have HT := Lib.hid ht
      clear ht
      have hl1 : (Pan.due m (xs.take j)).length ≤ 2000 := Nat.le_trans (List.length_filter_le _ _) (by rw [List.length_take]; omega)
      have hl2 : (Pan.rest m (xs.take j)).length ≤ 2000 := Nat.le_trans (List.length_filter_le _ _) (by rw [List.length_take]; omega)
      by_cases hlt : j < xs.length
      · obtain ⟨x, hx⟩ : ∃ x, xs[j]? = some x := ⟨_, List.getElem?_eq_getElem hlt⟩
        obtain ⟨b, off, rfl, c0, c1, c2, c3, c4, c5⟩ := (HA.out.below HT.out.a.below).pn hx
        by_cases hm : x.p.hi ≤ m
        · obtain ⟨e1, e2⟩ := due_next hx hm
          have E1 := Lib.hid e1; have E2 := Lib.hid e2
          clear hx e1 e2
          go_wp2_with (at_builtin; refine hold_mk ?_)
          refine hold_out ?_
          refine wpPush rfl _ _ rfl u6 _ rfl (HT.out.a.up (below_al (below_al (o := .cells (paC x) 52) (Below.refl _ _)))) _ 1 1 [x] rfl (by have h := one_row (wr.alloc (.cells (paC x) 52)) x; rw [World.size_alloc] at h; exact h) rfl (by simp; omega) ?_
          intro v8 w8 bt8 hg8 hat8
          have HT8 := Lib.hid ((HT.out.up (below_al (below_al (o := .cells (paC x) 52) (Below.refl _ _)))).pushA bt8 hg8 hat8)
          clear bt8 hg8 hat8
          go_wp2_with fail
          go_roundw
          case rel => exact ⟨j + 1, by go_num, by omega, by rw [E1.out, E2.out]; exact HT8.out⟩
          case measure => simp [intOf]; omega
        · obtain ⟨e1, e2⟩ := rest_next hx hm
          have E1 := Lib.hid e1; have E2 := Lib.hid e2
          have hd : decide (x.p.hi ≤ m) = false := decide_eq_false hm
          clear hx e1 e2 hm
          go_wp2_with (at_builtin; refine hold_mk ?_)
          refine hold_out ?_
          refine wpPush rfl _ _ rfl u7 _ rfl (HT.out.b.up (below_al (below_al (o := .cells (paC x) 52) (Below.refl _ _)))) _ 1 1 [x] rfl (by have h := one_row (wr.alloc (.cells (paC x) 52)) x; rw [World.size_alloc] at h; exact h) rfl (by simp; omega) ?_
          intro v8 w8 bt8 hg8 hat8
          have HT8 := Lib.hid ((HT.out.up (below_al (below_al (o := .cells (paC x) 52) (Below.refl _ _)))).pushB bt8 hg8 hat8)
          clear bt8 hg8 hat8
          go_wp2_with fail
          go_roundw
          case rel => exact ⟨j + 1, by go_num, by omega, by rw [E1.out, E2.out]; exact HT8.out⟩
          case measure => simp [intOf]; omega
      · have hge : xs.length ≤ j := by omega
        have ht := HT.out
        rw [List.take_of_length_le hge] at ht
        obtain ⟨A5, c5, h5, q1, q2, _, q3, _⟩ := own_form ht.a.own (by omega)
        obtain ⟨A6, c6, h6, r1, r2, _, r3, _⟩ := own_form ht.b.own (by omega)
        have HB := Lib.hid ht.a.below
        have Q3 := Lib.hid q3
        have R3 := Lib.hid r3
        subst h5
        subst h6
        clear hlt hj hl1 hl2 ht q3 r3 HT
        go_wp2_with fail
        go_ret2
        exact ⟨A5, c5, A6, c6, rfl, q1, q2, r1, r2, Q3.out, R3.out, HB.out⟩
end Go.Proofs.Ytklpfifellghlaa
