/- The walk of the law TimerSorts. -/
import Derived.Test.YtklgehfbfokdlaaLawsTimF
namespace Go.Proofs.Ytklgehfbfokdlaa
open Go.ChangeShapes Go.WideShapes Go.ChangeAt Go.RowKit Go.Maps
set_option linter.unusedVariables false
namespace Tim
theorem pop_zero {M : Nat → Prop} {h : Nat} {w : World} {e : Ending} {w' : World} (H : PopPost (fun _ => true) M h [] w e w') : e = .returned (.tuple #[.agg #[.int .i64 0, .string ⟨#[]⟩], .bool false]) ∧ Holds M w' h [] ∧ Mine M w w' := pop_none H
/-- Where the first loop stands. -/
structure SortTo (w0 : World) (ys : List Tm) (k : Nat) (M : Nat → Prop) (D : DataW Unit) (w : World) : Prop where
  one : One w0 w M w0.heap.size (insAll (ys.take k))
  map : Cnt w (w0.heap.size + 1) k D
  cnt : CountAt D (fun t => (ys.take k).count t)
  off : ¬ M (w0.heap.size + 1)
/-- Where the second loop stands: x was told last, at lb. -/
structure SortB (w0 : World) (lb : Nat) (r : List Tm) (M : Nat → Prop) (D : DataW Unit) (x : Tm) (m : Nat) (w : World) : Prop where
  one : One w0 w M w0.heap.size r
  map : Cnt w (w0.heap.size + 1) m D
  cnt : CountAt D (fun t => r.count t)
  off : ¬ M (w0.heap.size + 1)
  last : Lies lb (tmC x) 27 w
  lastOff : ¬ M lb
  lastNe : lb ≠ w0.heap.size + 1
  lastNew : w0.heap.size ≤ lb
  ok : ∀ t ∈ r, tmOk t
set_option maxHeartbeats 8000000 in
theorem walkTimerSorts (xs : List Tm) (A : Option Addr) (c : Nat) (w : World) (hA : Row w A (tc xs)) (hl : xs.length ≤ c) (hc : c ≤ 9223372036854775807) (hok : ∀ t ∈ xs, tmOk t) :
    Calls Try.prog 4 #[.slice A xs.length c] w (TellsB true w) := by
  obtain ⟨ys, hys⟩ : ∃ ys, ys = xs.take 300 := ⟨_, rfl⟩
  have hYO : ∀ t ∈ ys, tmOk t := fun t ht => hok t (by rw [hys] at ht; exact List.mem_of_mem_take ht)
  have hYA : Row w A (tc ys) := by rw [hys]; exact row_take hA 300
  obtain ⟨n, hn⟩ : ∃ n, n = ys.length := ⟨_, rfl⟩
  have hnx : n = if 300 < xs.length then 300 else xs.length := by rw [hn, hys, List.length_take]; split <;> omega
  have hn3 : n ≤ 300 := by rw [hnx]; split <;> omega
  have HA := Lib.hid hYA
  have HNX := Lib.hid hnx
  have HN := Lib.hid hn
  have HOK := Lib.hid hYO
  clear hA hys hYA hn hnx hok hYO
  have hmm := @run_makeMap Try.prog
  go_enter Try.func4, Try.ntmps4
  go_upto_if 15 with fail
  go_cut [0] from 16 (fun s wc => s = .slice A n c ∧ wc = w)
  case first =>
    by_cases h : 300 < xs.length
    · have h1 : (300 : Int) < xs.length := by omega
      have h2 : (300 : Int) ≤ c := by omega
      have hn := HNX.out
      rw [if_pos h] at hn
      go_wp2_with fail
      go_meet
      case rel => exact ⟨by rw [hn], rfl⟩
    · have h1 : (xs.length : Int) ≤ 300 := by omega
      have hn := HNX.out
      rw [if_neg h] at hn
      go_wp2_with fail
      go_meet
      case rel => exact ⟨by rw [hn], rfl⟩
  case rest =>
    obtain ⟨rfl, hw⟩ := hcut
    subst hw
    go_wp2_with (go_at_call 9; refine (tNew _).mono ?_; rintro e w1 ⟨rfl, rfl⟩)
    have P0 : Hid (SortTo wc ys 0 (· = wc.heap.size) (.map []) ((wc.alloc (.cells #[.slice none 0 0] 50)).alloc (.map #[] 0))) := Lib.hid ⟨(One.new_ (Below.refl _ _)).up (below_al (Below.refl _ _)), by
      have := World.ownsMap_made (H := Unit) (wc.alloc (.cells #[.slice none 0 0] 50)) Try.prog 27 (plainElem (H := Unit) Try.prog 3)
      rw [World.size_alloc] at this
      exact this, count_start _ fun t => rfl, fun e => by omega⟩
    go_loopw [24] (fun s24 wr => ∃ (k : Nat) (M : Nat → Prop) (D : DataW Unit), s24 = .int .i64 k ∧ k ≤ n ∧ SortTo wc ys k M D wr) (fun s24 _ => n - (intOf s24).toNat)
    case atStart => exact ⟨0, _, _, rfl, Nat.zero_le _, P0.out⟩
    case round =>
      clear P0
      obtain ⟨k, M, D, rfl, hk, hp⟩ := hrel
      have HP := Lib.hid hp
      clear hp
      by_cases hlt : k < n
      · obtain ⟨x, hx⟩ : ∃ x, ys[k]? = some x := ⟨_, List.getElem?_eq_getElem (by rw [← HN.out]; exact hlt)⟩
        obtain ⟨bb, off, rfl, c0, c1⟩ := row_at (HA.out.below HP.out.one.below) hx
        have HK := Lib.hid (insAll_take hx)
        have HK1 := Lib.hid (take_one hx)
        have HXO := Lib.hid (HOK.out x (List.mem_of_getElem? hx))
        clear hx
        have P1 := Lib.hid (HP.out.one.up (below_al (o := .cells (tmC x) 27) (Below.refl _ _)))
        have LX := Lib.hid (Lies.new wr (tmC x) 27)
        have NX : Hid (¬ M wr.heap.size) := Lib.hid fun hm => by have := HP.out.one.holds.lt _ hm; omega
        have HMB := Lib.hid HP.out.map.lt
        have HLN : Hid ((insAll (ys.take k)).length < 100000) := Lib.hid (by rw [insAll_len, List.length_take]; omega)
        go_wp2_with fail
        refine (tPush _ _ _ x _ P1.out.holds HLN.out).mono ?_
        rintro e w1 ⟨rfl, M', q1, q2, _, q4⟩
        have P2 := Lib.hid (P1.out.step q1 q2 q4)
        have L2 := Lib.hid (q2.lies LX.out NX.out)
        have OM := Lib.hid (ownsMap_block (HP.out.map.alloc (.cells (tmC x) 27)) (q2.block _ (by simp; have := HMB.out; omega) HP.out.off))
        have NO : Hid (¬ M' (wc.heap.size + 1)) := Lib.hid fun hm => (q4 _ hm).elim HP.out.off fun h2 => by have := HMB.out; simp at h2; omega
        have d0 := L2.out.cell (j := 0) rfl
        have d1 := L2.out.cell (j := 1) rfl
        clear q1 q2 q4
        obtain ⟨cn, st, w2, hat, e1, e2, e3, g2, hst⟩ := entry_turn (H := Unit) lawTm Try.underlying43 Try.underlying3 zeroInt OM.out.drew (by unfold maxLen; omega) (keyOf_tm HXO.out)
        have hcn : cn = ((ys.take k).count x : Int) := lit_inj (hat.symm.trans (HP.out.cnt x HXO.out))
        have hcl : (ys.take k).count x ≤ 300 := Nat.le_trans List.count_le_length (by rw [List.length_take]; omega)
        subst hcn
        obtain ⟨w3, e4, o3, g3⟩ := hst (((ys.take k).count x : Int) + 1) (count_wf (n := (ys.take k).count x + 1) (by omega))
        obtain ⟨q, hq⟩ : ∃ q, q = (ys.take k).count x := ⟨_, rfl⟩
        rw [← hq] at e1 e2 e3 e4 hcl o3
        unfold goInt at e2 e4
        have O3 := Lib.hid o3
        have G2 := Lib.hid g2
        have G3 := Lib.hid g3
        have HQ := Lib.hid hq
        clear hat hst o3 g2 g3 hq
        go_wp2_with fail
        go_region
        have HC : Hid (CountAt (D.put (tmK x) (.lit (.int .i64 ((q : Int) + 1)))) (fun t => (ys.take (k + 1)).count t)) := by
          have e0 : (((ys.take (k + 1)).count x : Nat) : Int) = (q : Int) + 1 := by rw [HK1.out, List.count_append, List.count_singleton_self, ← HQ.out]; rfl
          have := count_put (g := fun t => (ys.take (k + 1)).count t) OM.out.isMap HXO.out HP.out.cnt fun t ht => by
            show (ys.take (k + 1)).count t = (ys.take k).count t
            rw [HK1.out, List.count_append, List.count_singleton, if_neg (by simpa using fun e => ht e.symm), Nat.add_zero]
          rw [e0] at this
          exact Lib.hid this
        have HO3 := Lib.hid ((P2.out.up (below_drewOf (Below.refl _ _))).far (Mine.grown_one G3.out) NO.out (Nat.le_succ _))
        clear e1 e2 e3 e4 d0 d1
        go_wp2_with fail
        go_roundw
        case rel => exact ⟨k + 1, M', _, by go_num, by omega, by rw [HK.out]; exact HO3.out, O3.out, HC.out, NO.out⟩
        case measure => simp [intOf]; omega
      · have hkn : k = n := by omega
        have hge : n ≤ k := by omega
        have HKN : Hid (ys.take k = ys) := Lib.hid (by rw [hkn, HN.out, List.take_length])
        have hlb := HP.out.map.lt
        have Q0 : Hid (SortB wc wr.heap.size (insAll ys) M D ⟨0, []⟩ k (wr.alloc (.cells #[.int .i64 0, .string ⟨#[]⟩] 27))) := by
          have h1 := HP.out.one
          have h2 := HP.out.cnt
          rw [HKN.out] at h1 h2
          exact Lib.hid ⟨h1.up (below_al (Below.refl _ _)), HP.out.map.alloc _, fun t ht => by
            rw [h2 t ht]
            show DataW.lit (Lit.int .i64 ((ys.count t : Nat) : Int)) = .lit (.int .i64 (((insAll ys).count t : Nat) : Int))
            rw [(insAll_perm ys).count_eq], HP.out.off, Lies.new _ _ _, fun hm => by have := HP.out.one.holds.lt _ hm; omega, by omega, HP.out.one.below.size, fun t ht => HOK.out t ((insAll_perm ys).mem_iff.1 ht)⟩
        have HSL : Hid ((insAll ys).length = n) := Lib.hid (by rw [insAll_len, ← HN.out])
        obtain ⟨lb, hlbe⟩ : ∃ lb, lb = wr.heap.size := ⟨_, rfl⟩
        clear hkn hlb
        go_wp2_with fail
        rw [← hlbe] at Q0 ⊢
        clear hlbe
        go_loopw [41] (fun s41 wr => ∃ (i : Nat) (r : List Tm) (M : Nat → Prop) (D : DataW Unit) (x : Tm) (m : Nat), s41 = .int .i64 i ∧ i + r.length = n ∧ m ≤ 300 + i ∧ SortB wc lb r M D x m wr ∧ (0 < i → ∀ y ∈ r, le x y)) (fun s41 _ => n - (intOf s41).toNat)
        case atStart => exact ⟨0, _, M, D, _, k, rfl, by rw [HSL.out]; omega, by omega, Q0.out, fun h => absurd h (Nat.lt_irrefl _)⟩
        case round =>
          clear Q0 HP HSL HKN hge hlt hk
          obtain ⟨i, r, M, D, x, m, rfl, hir, hm, hat, hle⟩ := hrel
          have HT := Lib.hid hat
          have HLE := Lib.hid hle
          have HIR := Lib.hid hir
          clear hat hle
          by_cases hlt : i < n
          · obtain ⟨t, r', rfl⟩ : ∃ t r', r = t :: r' := List.exists_cons_of_ne_nil (fun e => by rw [e, List.length_nil] at hir; omega)
            have hrl : r'.length < 300 := by rw [List.length_cons] at hir; omega
            clear hir
            go_wp2_with fail
            have HOT := Lib.hid (HT.out.ok t (by simp))
            have HMB := Lib.hid HT.out.map.lt
            have HLB := Lib.hid (lt_of_block HT.out.last)
            refine (tPop M _ (t :: r') _ HT.out.one.holds (by simp; omega)).mono ?_
            intro e w1 h1
            obtain ⟨rfl, q1, q2⟩ := pop_one h1
            have P1 := Lib.hid (HT.out.one.step q1 q2 same_or)
            have OM1 := Lib.hid (ownsMap_block HT.out.map (q2.block _ HMB.out HT.out.off))
            have L1 := Lib.hid (q2.lies HT.out.last HT.out.lastOff)
            have P2 := Lib.hid (P1.out.up (below_al (o := .cells (tmC t) 27) (Below.refl _ _)))
            have OM2 := Lib.hid (OM1.out.alloc (.cells (tmC t) 27))
            have L2 := Lib.hid (L1.out.al (o := .cells (tmC t) 27))
            have LT := Lib.hid (Lies.new w1 (tmC t) 27)
            have hs1 : w1.heap.size ≠ wc.heap.size + 1 := fun e => by have := HMB.out; have := q2.size; omega
            have hs2 : lb ≠ w1.heap.size := fun e => by have := HLB.out; have := q2.size; omega
            have HS1 := Lib.hid hs1
            have HS2 := Lib.hid hs2
            have hsz1 := Lib.hid q2.size
            clear q1 q2 h1 hs1
            obtain ⟨q, hq⟩ : ∃ q, q = r'.count t := ⟨_, rfl⟩
            have hq1 : (t :: r').count t = q + 1 := by rw [List.count_cons_self, hq]
            have hql : q ≤ 300 := by rw [hq]; exact Nat.le_trans List.count_le_length (by omega)
            have HQ := Lib.hid hq
            have HQ1 := Lib.hid hq1
            clear hq hq1
            obtain ⟨cn, st0, w20, hat0, a1, _, _, _, _⟩ := entry_turn (H := Unit) lawTm Try.underlying43 Try.underlying3 zeroInt OM2.out (by unfold maxLen; omega) (keyOf_tm HOT.out)
            have hcn : cn = ((q + 1 : Nat) : Int) := by rw [← HQ1.out]; exact lit_inj (hat0.symm.trans (HT.out.cnt t HOT.out))
            subst hcn
            have hz0 : ((q : Int) + 1 == 0) = false := ne_b (by omega)
            clear hat0
            have HC : Hid (CountAt (D.put (tmK t) (.lit (.int .i64 (q : Int)))) (fun u => r'.count u)) := by
              have := count_put (g := fun u => r'.count u) HT.out.map.isMap HOT.out HT.out.cnt fun u hu => by
                show r'.count u = (t :: r').count u
                rw [List.count_cons_of_ne (fun e => hu e.symm)]
              rw [← HQ.out] at this
              exact Lib.hid this
            have HLT := Lib.hid (List.pairwise_cons.1 HT.out.one.holds.srt).1
            have HIN : Hid (∀ (W : World), Below w1.heap.size w1 W → Lies w1.heap.size (tmC t) 27 W → Lies lb (tmC x) 27 W → One wc W M wc.heap.size r' → Cnt W (wc.heap.size + 1) m D →
                ∃ (st : Nat) (w2 w3 : World), (Instr.lookup 43 (.map (some (wc.heap.size + 1))) (tmV t) false).run Try.prog W.drew = .ok (.int .i64 ((q : Int) + 1)) W.drew ∧
                  (Instr.mapEntry 43 (.map (some (wc.heap.size + 1))) (tmV t)).run Try.prog W.drew = .ok (.tuple #[.int .i64 ((q : Int) + 1), .int .i64 st]) w2 ∧
                  (Instr.lookup 43 (.map (some (wc.heap.size + 1))) (tmV t) false).run Try.prog w2 = .ok (.int .i64 ((q : Int) + 1)) w2 ∧
                  (Instr.entryStore 43 (.map (some (wc.heap.size + 1))) (.int .i64 st) (.int .i64 (q : Int))).run Try.prog w2 = .ok () w3 ∧
                  Lies w1.heap.size (tmC t) 27 w3 ∧ Lies lb (tmC x) 27 w3 ∧ One wc w3 M wc.heap.size r' ∧ Cnt w3 (wc.heap.size + 1) (m + 1) (D.put (tmK t) (.lit (.int .i64 (q : Int))))) := Lib.hid fun W hW hl1 hl2 ho hmp => by
              obtain ⟨cn, st, w2, hat, b1, b2, b3, g2, hst⟩ := entry_turn (H := Unit) lawTm Try.underlying43 Try.underlying3 zeroInt hmp.drew (by unfold maxLen; omega) (keyOf_tm HOT.out)
              have hcn : cn = ((q + 1 : Nat) : Int) := by rw [← HQ1.out]; exact lit_inj (hat.symm.trans (HT.out.cnt t HOT.out))
              subst hcn
              obtain ⟨w3, b4, o3, g3⟩ := hst (q : Int) (count_wf (n := q) (by omega))
              exact ⟨st, w2, w3, b1, b2, b3, b4, lies_grownR hl1.drew g3 (fun e => HS1.out (Option.some.inj e).symm), lies_grownR hl2.drew g3 (fun e => HT.out.lastNe (Option.some.inj e).symm),
                (ho.up (below_drewOf (Below.refl _ _))).far (Mine.grown_one g3) HT.out.off (Nat.le_succ _), o3⟩
            have HEND : Hid (∀ (W : World), Lies lb (tmC x) 27 W → One wc W M wc.heap.size r' → Cnt W (wc.heap.size + 1) (m + 1) (D.put (tmK t) (.lit (.int .i64 (q : Int)))) →
                SortB wc lb r' M (D.put (tmK t) (.lit (.int .i64 (q : Int)))) t (m + 1) ((W.setCell ⟨lb, 0, none⟩ (.int .i64 t.at_)).setCell ⟨lb, 1, none⟩ (.string (kS t.name)))) := Lib.hid fun W hl2 ho hmp =>
              ⟨ho.far ((Mine.set (M := (· = lb)) W (a := ⟨lb, 0, none⟩) _ rfl).trans (Mine.set (M := (· = lb)) _ (a := ⟨lb, 1, none⟩) _ rfl)) HT.out.lastOff HT.out.lastNew,
                ownsMap_block hmp ((Below.heap_setCell _ _ _ _ (fun e => HT.out.lastNe e.symm)).trans (Below.heap_setCell _ _ _ _ (fun e => HT.out.lastNe e.symm))), HC.out, HT.out.off, Lies.set2 hl2 _ _, HT.out.lastOff, HT.out.lastNe, HT.out.lastNew, fun u hu => HT.out.ok u (by simp [hu])⟩
            by_cases hi0 : i = 0
            · subst hi0
              obtain ⟨st, w2, w3, b1, b2, b3, b4, l3, m3, o3, p3⟩ := HIN.out (w1.alloc (.cells (tmC t) 27)) (below_al (Below.refl _ _)) LT.out L2.out P2.out OM2.out
              have t0 := l3.cell (j := 0) rfl
              have t1 := l3.cell (j := 1) rfl
              have s0 := m3.cell (j := 0) rfl
              have s1 := m3.cell (j := 1) rfl
              have s2 := m3.free 0
              have s3 := m3.free 1
              have HE := Lib.hid (HEND.out w3 m3 o3 p3)
              clear l3 m3 o3 p3
              go_wp2_with fail
              go_region
              go_wp2_with fail
              go_roundw
              case rel => exact ⟨1, r', M, _, t, m + 1, by go_num, by have := HIR.out; rw [List.length_cons] at this; omega, by omega, HE.out, fun _ => HLT.out⟩
              case measure => simp [intOf]; omega
            · have hi1 : (0 : Int) < (i : Int) := by omega
              have hah : ahead t x = false := HLE.out (by omega) t (by simp)
              have HAH := Lib.hid (rfAhead t x (w1.alloc (.cells (tmC t) 27)))
              rw [hah] at HAH
              have x0 := L2.out.cell (j := 0) rfl
              have x1 := L2.out.cell (j := 1) rfl
              have hlb1 : lb < w1.heap.size + 1 := by have := HLB.out; have := hsz1.out; omega
              clear hah
              go_wp2_with fail
              refine HAH.out.mono ?_
              rintro e w4 ⟨rfl, hb4⟩
              obtain ⟨st, w2, w3, b1, b2, b3, b4, l3, m3, o3, p3⟩ := HIN.out w4 ((below_al (Below.refl _ _)).trans (hb4.mono (by simp))) (LT.out.below hb4) (L2.out.below hb4) (P2.out.up hb4) (ownsMap_block OM2.out (hb4.block _ OM2.out.lt))
              have u0 := (LT.out.below hb4).cell (j := 0) rfl
              have u1 := (LT.out.below hb4).cell (j := 1) rfl
              have t0 := l3.cell (j := 0) rfl
              have t1 := l3.cell (j := 1) rfl
              have s0 := m3.cell (j := 0) rfl
              have s1 := m3.cell (j := 1) rfl
              have s2 := m3.free 0
              have s3 := m3.free 1
              have HE := Lib.hid (HEND.out w3 m3 o3 p3)
              clear l3 m3 o3 p3 hb4
              go_wp2_with fail
              go_region
              go_wp2_with fail
              go_roundw
              case rel => exact ⟨i + 1, r', M, _, t, m + 1, by go_num, by have := HIR.out; rw [List.length_cons] at this; omega, by omega, HE.out, fun _ => HLT.out⟩
              case measure => simp [intOf]; omega
          · obtain rfl : r = [] := List.eq_nil_of_length_eq_zero (by omega)
            have hge : n ≤ i := by omega
            clear hir
            go_wp2_with fail
            refine (tPop M _ [] _ HT.out.one.holds (by simp)).mono ?_
            intro e w1 h1
            obtain ⟨rfl, q1, q2⟩ := pop_zero h1
            have P2 := Lib.hid ((HT.out.one.step q1 q2 same_or).up (below_al (o := .cells #[.int .i64 0, .string ⟨#[]⟩] 27) (Below.refl _ _)))
            clear q1 q2 h1
            go_wp2_with fail
            have HLEN : Hid (Calls Try.prog 19 #[.pointer (some ⟨wc.heap.size, 0, none⟩)] (w1.alloc (.cells #[.int .i64 0, .string ⟨#[]⟩] 27)) (SaysI 0 (w1.alloc (.cells #[.int .i64 0, .string ⟨#[]⟩] 27)))) := Lib.hid (tLen M wc.heap.size ([] : List Tm) _ P2.out.holds)
            refine HLEN.out.mono ?_
            rintro e w9 ⟨rfl, rfl⟩
            go_wp2_with fail
            go_ret
            exact ⟨rfl, P2.out.below⟩
theorem lawTimerSorts : Lift.Owes 4 [25] := by
  intro H enc W base args ds ps hval hA _ _
  obtain ⟨v0, d0, rfl, rfl, h0⟩ := trodAll_one hA
  obtain ⟨A, c, xs, rfl, hl, hc, hrow, hok⟩ := openOk (hval 0 _ v0 rfl rfl) h0
  exact walkTimerSorts xs A c W hrow hl hc hok
end Tim
theorem lawTimerSorts : Lift.Owes 4 [25] := Tim.lawTimerSorts
end Go.Proofs.Ytklgehfbfokdlaa
