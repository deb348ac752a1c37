/- Owner of the reference. -/
import Derived.Test.YtgpcbiballdioaaDoorRingHashR
import Derived.Test.YtgpcbiballdioaaDoorRingRightR
import Derived.Laws.Concat
namespace Go.Proofs.YtgpcbiballdioaaDoor
open Go.RowKit
set_option linter.unusedVariables false
set_option maxRecDepth 8000
namespace Rg
/-- The points of workers and groups, as the texts are hashed. -/
noncomputable def wT0 (w : Nat) : ByteArray := ⟨#[119]⟩ ++ dec w
noncomputable def wT1 (w : Nat) : ByteArray := wT0 w ++ ⟨#[35]⟩
noncomputable def wT (w i : Nat) : ByteArray := wT1 w ++ dec i
noncomputable def wPt (w i : Nat) : Nat := hash (wT w i).data.toList
noncomputable def gT (g : Nat) : ByteArray := ⟨#[103]⟩ ++ dec g
noncomputable def gPt (g : Nat) : Nat := hash (gT g).data.toList
theorem dec_size {n : Nat} (h : n < 100) : (dec n).size ≤ 2 := (dec_spec h).1
theorem wT0_size {w : Nat} (h : w < 100) : (wT0 w).size ≤ 3 := by
  have := dec_size h
  unfold wT0; rw [ByteArray.size_append]; show 1 + _ ≤ 3; omega
theorem wT1_size {w : Nat} (h : w < 100) : (wT1 w).size ≤ 4 := by
  have := wT0_size h
  unfold wT1; rw [ByteArray.size_append]; show _ + 1 ≤ 4; omega
theorem wT_size {w i : Nat} (h : w < 100) (hi : i < 100) : (wT w i).size ≤ 6 := by
  have := wT1_size h
  have := dec_size hi
  unfold wT; rw [ByteArray.size_append]; omega
theorem gT_size {g : Nat} (h : g < 100) : (gT g).size ≤ 3 := by
  have := dec_size h
  unfold gT; rw [ByteArray.size_append]; show 1 + _ ≤ 3; omega
/-- A point at or above the group's. -/
def over (t p : Nat) : Nat := if p < t then p + 4294967296 else p
/-- The best so far: who, and its point. -/
noncomputable def one (t : Nat) (w : Int) (s : Int × Nat) (i : Nat) : Int × Nat :=
  if s.1 = 0 ∨ over t (wPt w.toNat i) < s.2 then (w, over t (wPt w.toNat i)) else s
noncomputable def some8 (t : Nat) (w : Int) (n : Nat) (s : Int × Nat) : Int × Nat := (List.range n).foldl (one t w) s
noncomputable def best (t : Nat) (l : List Int) : Int × Nat := l.foldl (fun s w => some8 t w 8 s) (0, 0)
noncomputable def owner (l : List Int) (g : Nat) : Int := (best (gPt g) l).1
theorem some8_next (t : Nat) (w : Int) (n : Nat) (s : Int × Nat) : some8 t w (n + 1) s = one t w (some8 t w n s) n := by
  unfold some8
  rw [List.range_succ, List.foldl_append]; rfl
theorem best_next {t : Nat} {l : List Int} {k : Nat} {w : Int} (h : l[k]? = some w) : best t (l.take (k + 1)) = some8 t w 8 (best t (l.take k)) := by
  unfold best
  rw [List.take_add_one, h]
  show (l.take k ++ [w]).foldl _ _ = _
  rw [List.foldl_append]; rfl
theorem over_lt {t p : Nat} (h : p < 4294967296) : over t p < 8589934592 := by unfold over; split <;> omega
theorem wPt_lt (w i : Nat) : wPt w i < 4294967296 := hash_lt _
theorem one_lt {t : Nat} {w : Int} {s : Int × Nat} {i : Nat} (h : s.2 < 8589934592) : (one t w s i).2 < 8589934592 := by
  unfold one
  split
  · exact over_lt (wPt_lt _ _)
  · exact h
theorem one_yes {t : Nat} {w : Int} {s : Int × Nat} {i p : Nat} (hp : p = over t (wPt w.toNat i)) (h : s.1 = 0 ∨ p < s.2) : one t w s i = (w, p) := by
  subst hp
  unfold one
  rw [if_pos h]
theorem one_no {t : Nat} {w : Int} {s : Int × Nat} {i p : Nat} (hp : p = over t (wPt w.toNat i)) (h : ¬ (s.1 = 0 ∨ p < s.2)) : one t w s i = s := by
  subst hp
  unfold one
  rw [if_neg h]
set_option maxRecDepth 100000 in
set_option maxHeartbeats 2000000 in
theorem rfOwner (l : List Int) (A : Option Addr) (c g : Nat) (w : World) (h : Row w A (iv l)) (hl : l.length ≤ 9223372036854775807) (hm : ∀ x ∈ l, 0 < x ∧ x ≤ 99) (hg : g < 100) :
    Calls Tryd.prog 19 #[.slice A l.length c, .int .i64 g] w fun e w' => e = .returned (.int .i64 (owner l g)) ∧ w' = w := by
  have H := Lib.hid h
  have HM := Lib.hid hm
  have HI := Lib.hid (fun n (h : n < 100) (w : World) => itItoa h w)
  have HH := Lib.hid (fun (s : ByteArray) (w : World) (h : s.size ≤ 9223372036854775807) => rfHash s w h)
  obtain ⟨r, hr⟩ : ∃ r, r = owner l g := ⟨_, rfl⟩
  have HR := Lib.hid hr
  rw [← hr]
  clear h hr hm
  obtain ⟨dg, hdg⟩ : ∃ d, d = dec g := ⟨_, rfl⟩
  obtain ⟨tg, htg⟩ : ∃ d, d = gT g := ⟨_, rfl⟩
  obtain ⟨t, ht⟩ : ∃ d, d = gPt g := ⟨_, rfl⟩
  have HDG := Lib.hid hdg
  have HT := Lib.hid ht
  have c1 : ∀ w : World, (Op.stringOp .add ⟨#[103]⟩ dg).run Tryd.prog w = .ok (.string tg) w := fun w => by
    rw [htg, hdg]
    exact run_string_add w _ _ (by decide) (by have := dec_size hg; omega)
  have htl : t < 4294967296 := by rw [ht]; exact hash_lt _
  have hts : tg.size ≤ 3 := by rw [htg]; exact gT_size hg
  have HTG := Lib.hid (show t = hash tg.data.toList by rw [ht, htg]; rfl)
  clear hdg htg ht
  go_enter Tryd.func19, Tryd.ntmps19
  go_wp2_with fail
  refine (HI.out g hg _).mono ?_
  rintro e w1 ⟨rfl, rfl⟩
  rw [← HDG.out]
  go_wp2_with fail
  refine (HH.out tg _ (by omega)).mono ?_
  rintro e w2 ⟨rfl, rfl⟩
  rw [← HTG.out]
  go_wp2_with fail
  go_loopw [6, 7, 19] (fun s6 s7 s19 wr => ∃ (k p : Nat) (a : Int), s19 = .int .i64 k ∧ s6 = .int .u64 p ∧ s7 = .int .i64 a ∧ (a, p) = best t (l.take k) ∧ p < 8589934592 ∧ k ≤ l.length ∧ wr = w2) (fun _ _ s19 _ => l.length - (intOf s19).toNat)
  case atStart => exact ⟨0, 0, 0, rfl, rfl, rfl, rfl, by decide, Nat.zero_le _, rfl⟩
  case round =>
    obtain ⟨k, p, a, rfl, rfl, rfl, hb, hp, hk, rfl⟩ := hrel
    have HB := Lib.hid hb
    clear hb
    by_cases hlt : k < l.length
    · obtain ⟨x, hx⟩ : ∃ x, l[k]? = some x := ⟨_, List.getElem?_eq_getElem hlt⟩
      have hxm := HM.out x (List.mem_of_getElem? hx)
      obtain ⟨n, rfl⟩ : ∃ n : Nat, x = n := ⟨x.toNat, by omega⟩
      have hn : n < 100 := by omega
      have hn0 : 0 < n := by omega
      obtain ⟨b, off, rfl, c0⟩ := row_int H.out hx
      have HX := Lib.hid hx
      clear hx hxm
      obtain ⟨d1, hd1⟩ : ∃ d, d = dec n := ⟨_, rfl⟩
      obtain ⟨t0, ht0⟩ : ∃ d, d = wT0 n := ⟨_, rfl⟩
      obtain ⟨t1, ht1⟩ : ∃ d, d = wT1 n := ⟨_, rfl⟩
      have c2 : ∀ w : World, (Op.stringOp .add ⟨#[119]⟩ d1).run Tryd.prog w = .ok (.string t0) w := fun w => by
        rw [ht0, hd1]
        exact run_string_add w _ _ (by decide) (by have := dec_size hn; omega)
      have c3 : ∀ w : World, (Op.stringOp .add t0 ⟨#[35]⟩).run Tryd.prog w = .ok (.string t1) w := fun w => by
        rw [ht1, ht0]
        exact run_string_add w _ _ (by have := wT0_size hn; omega) (by decide)
      have HD1 := Lib.hid hd1
      have HT1 := Lib.hid ht1
      clear hd1 ht0 ht1
      go_wp2_with fail
      go_loopw [6, 7, 10] (fun s6 s7 s10 wi => ∃ (i q : Nat) (v : Int), s10 = .int .i64 i ∧ s6 = .int .u64 q ∧ s7 = .int .i64 v ∧ (v, q) = some8 t n i (a, p) ∧ q < 8589934592 ∧ i ≤ 8 ∧ wi = wr) (fun _ _ s10 _ => 8 - (intOf s10).toNat)
      case atStart => exact ⟨0, p, a, rfl, rfl, rfl, rfl, hp, Nat.zero_le _, rfl⟩
      case round =>
        obtain ⟨i, q, v, rfl, rfl, rfl, hs, hq, hi, rfl⟩ := hrel
        have HS := Lib.hid hs
        clear hs
        by_cases hi8 : i < 8
        · have hi100 : i < 100 := by omega
          obtain ⟨d2, hd2⟩ : ∃ d, d = dec i := ⟨_, rfl⟩
          obtain ⟨t2, ht2⟩ : ∃ d, d = wT n i := ⟨_, rfl⟩
          obtain ⟨p0, hp0⟩ : ∃ d, d = wPt n i := ⟨_, rfl⟩
          have c4 : ∀ w : World, (Op.stringOp .add t1 d2).run Tryd.prog w = .ok (.string t2) w := fun w => by
            rw [ht2, hd2, HT1.out]
            exact run_string_add w _ _ (by have := wT1_size hn; omega) (by have := dec_size hi100; omega)
          have hts2 : t2.size ≤ 6 := by rw [ht2]; exact wT_size hn hi100
          have HD2 := Lib.hid hd2
          have HT2 := Lib.hid (show p0 = hash t2.data.toList by rw [hp0, ht2]; rfl)
          have hp0l : p0 < 4294967296 := by rw [hp0]; exact wPt_lt _ _
          obtain ⟨p1, hp1⟩ : ∃ d, d = over t p0 := ⟨_, rfl⟩
          have HP := Lib.hid (show p1 = over t (wPt ((n : Int)).toNat i) by rw [hp1, hp0]; rfl)
          have hov : (p0 < t ∧ p1 = p0 + 4294967296) ∨ (¬ p0 < t ∧ p1 = p0) := by
            rw [hp1]; unfold over
            by_cases h : p0 < t
            · left; rw [if_pos h]; exact ⟨h, rfl⟩
            · right; rw [if_neg h]; exact ⟨h, rfl⟩
          clear hd2 ht2 hp0 hp1
          go_wp2_with fail
          refine (HI.out n hn _).mono ?_
          rintro e w3 ⟨rfl, rfl⟩
          rw [← HD1.out]
          go_wp2_with fail
          refine (HI.out i hi100 _).mono ?_
          rintro e w4 ⟨rfl, rfl⟩
          rw [← HD2.out]
          go_wp2_with fail
          refine (HH.out t2 _ (by omega)).mono ?_
          rintro e w5 ⟨rfl, rfl⟩
          rw [← HT2.out]
          by_cases hv : v = 0
          · subst hv
            have HN := Lib.hid (one_yes (s := (0, q)) HP.out (Or.inl rfl))
            rcases hov with ⟨g1, g2⟩ | ⟨g1, g2⟩
            · have ew : IntKind.u64.wrap ((p0 : Int) + 4294967296) = (p1 : Int) := by rw [IntKind.wrap_u64]; omega
              have hpl : p1 < 8589934592 := by omega
              clear g2
              go_wp2_with fail
              go_roundw
              case rel => exact ⟨i + 1, p1, n, by go_num, rfl, rfl, by rw [some8_next, ← HS.out, HN.out], hpl, by omega, by first | trivial | rfl⟩
              case measure => simp [intOf]; omega
            · subst g2
              have hpl : p1 < 8589934592 := by omega
              go_wp2_with fail
              go_roundw
              case rel => exact ⟨i + 1, p1, n, by go_num, rfl, rfl, by rw [some8_next, ← HS.out, HN.out], hpl, by omega, by first | trivial | rfl⟩
              case measure => simp [intOf]; omega
          · by_cases hless : p1 < q
            · have HN := Lib.hid (one_yes (s := (v, q)) HP.out (Or.inr hless))
              rcases hov with ⟨g1, g2⟩ | ⟨g1, g2⟩
              · have ew : IntKind.u64.wrap ((p0 : Int) + 4294967296) = (p1 : Int) := by rw [IntKind.wrap_u64]; omega
                have hpl : p1 < 8589934592 := by omega
                clear g2
                go_wp2_with fail
                go_roundw
                case rel => exact ⟨i + 1, p1, n, by go_num, rfl, rfl, by rw [some8_next, ← HS.out, HN.out], hpl, by omega, by first | trivial | rfl⟩
                case measure => simp [intOf]; omega
              · subst g2
                have hpl : p1 < 8589934592 := by omega
                go_wp2_with fail
                go_roundw
                case rel => exact ⟨i + 1, p1, n, by go_num, rfl, rfl, by rw [some8_next, ← HS.out, HN.out], hpl, by omega, by first | trivial | rfl⟩
                case measure => simp [intOf]; omega
            · have HN := Lib.hid (one_no (s := (v, q)) HP.out (fun h => h.elim hv hless))
              rcases hov with ⟨g1, g2⟩ | ⟨g1, g2⟩
              · have ew : IntKind.u64.wrap ((p0 : Int) + 4294967296) = (p1 : Int) := by rw [IntKind.wrap_u64]; omega
                clear g2
                go_wp2_with fail
                go_roundw
                case rel => exact ⟨i + 1, q, v, by go_num, rfl, rfl, by rw [some8_next, ← HS.out, HN.out], hq, by omega, by first | trivial | rfl⟩
                case measure => simp [intOf]; omega
              · subst g2
                go_wp2_with fail
                go_roundw
                case rel => exact ⟨i + 1, q, v, by go_num, rfl, rfl, by rw [some8_next, ← HS.out, HN.out], hq, by omega, by first | trivial | rfl⟩
                case measure => simp [intOf]; omega
        · have e8 : i = 8 := by omega
          subst e8
          have HN := Lib.hid (show (v, q) = best t (l.take (k + 1)) by rw [best_next HX.out, ← HB.out]; exact HS.out)
          go_wp2_with fail
          go_roundw
          case rel => exact ⟨k + 1, q, v, by go_num, rfl, rfl, HN.out, hq, by omega, by first | trivial | rfl⟩
          case measure => simp [intOf]; omega
    · have hke : l.take k = l := List.take_of_length_le (by omega)
      have HE := Lib.hid (show a = r by rw [HR.out]; unfold owner; rw [← HT.out]; have h := HB.out; rw [hke] at h; rw [← h])
      have hge : l.length ≤ k := by omega
      clear hke
      go_wp2_with fail
      go_ret
      have HE2 := HE.out
      subst HE2
      exact ⟨rfl, rfl⟩
end Rg
end Go.Proofs.YtgpcbiballdioaaDoor
