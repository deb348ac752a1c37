/- The walk of the law TimerDue. -/
import Derived.Test.YtklgehfbfokdlaaLawsTimA
namespace Go.Proofs.Ytklgehfbfokdlaa
open Go.ChangeShapes Go.WideShapes Go.ChangeAt Go.RowKit
set_option linter.unusedVariables false
namespace Tim
theorem due_later {m1 m2 : Int} (hm : m1 ≤ m2) : ∀ {s : List Tm}, Srt s → due m1 s ++ due m2 (rest m1 s) = due m2 s
  | [], _ => rfl
  | x :: r, h => by
    by_cases hx : x.at_ ≤ m1
    · rw [(due_go hx).1, (due_go hx).2, (due_go (show x.at_ ≤ m2 by omega)).1, List.cons_append, due_later hm (List.pairwise_cons.1 h).2]
    · rw [(due_stop h hx).1, (due_stop h hx).2]; rfl
theorem rest_later {m1 m2 : Int} (hm : m1 ≤ m2) (s : List Tm) : rest m2 (rest m1 s) = rest m2 s := by
  unfold rest
  rw [List.filter_filter]
  congr 1
  funext t
  by_cases h : t.at_ ≤ m2
  · simp [h]
  · have : ¬ t.at_ ≤ m1 := by omega
    simp [h, this]
theorem row_take {w : World} {A : Option Addr} {xs : List Tm} (h : Row w A (tc xs)) (n : Nat) : Row w A (tc (xs.take n)) := by
  rw [← tc_take]
  rcases h with h | ⟨b, off, rfl, h⟩
  · left; rw [h]; simp
  · refine .inr ⟨b, off, rfl, fun i u hu => ?_⟩
    rw [List.getElem?_take] at hu
    split at hu
    · exact h _ _ hu
    · cases hu
theorem insAll_take {ys : List Tm} {k : Nat} {x : Tm} (h : ys[k]? = some x) : insAll (ys.take (k + 1)) = ins x (insAll (ys.take k)) := by rw [take_one h, insAll_push]
theorem insAll_len (l : List Tm) : (insAll l).length = l.length := (insAll_perm l).length_eq
/-- A row of the call's own beside the Heaps. -/
structure Beside (w : World) (v : Value) (ms : List Tm) (M1 M2 : Nat → Prop) (B : Nat) : Prop where
  own : w.ownsRow B 27 2 v ms.length (tc ms)
  off : ∀ k, v.ownBlock = some k → ¬ M1 k ∧ ¬ M2 k
theorem Beside.mine1 {w w' : World} {v : Value} {ms : List Tm} {M1 M2 : Nat → Prop} {B : Nat} (h : Beside w v ms M1 M2 B) (hm : Mine M1 w w') : Beside w' v ms M1 M2 B := ⟨ownsRow_block h.own fun k hk hlt => hm.block k hlt (h.off k hk).1, h.off⟩
theorem Beside.mine2 {w w' : World} {v : Value} {ms : List Tm} {M1 M2 : Nat → Prop} {B : Nat} (h : Beside w v ms M1 M2 B) (hm : Mine M2 w w') : Beside w' v ms M1 M2 B := ⟨ownsRow_block h.own fun k hk hlt => hm.block k hlt (h.off k hk).2, h.off⟩
theorem Beside.up {w w' : World} {v : Value} {ms : List Tm} {M1 M2 : Nat → Prop} {B : Nat} (h : Beside w v ms M1 M2 B) (hb : Below w.heap.size w w') : Beside w' v ms M1 M2 B := ⟨ownsRow_block h.own fun k hk hlt => hb.block k hlt, h.off⟩
theorem Beside.row {w : World} {v : Value} {ms : List Tm} {M1 M2 : Nat → Prop} {B : Nat} (h : Beside w v ms M1 M2 B) : ∃ A c, v = .slice A ms.length c ∧ Row w A (tc ms) := by
  obtain ⟨A, c, e, _, _, h3, _⟩ := own_to_row h.own
  exact ⟨A, c, e, h3⟩
/-- An append beside both. -/
theorem Pair.grown {w0 w w' : World} {M1 M2 : Nat → Prop} {g h : Nat} {l1 l2 : List Tm} {v : Value} (H : Pair w0 w M1 M2 g h l1 l2) (hg : w.grownBy w' v.ownBlock) (hb : ∀ k, v.ownBlock = some k → w0.heap.size ≤ k) (ho : ∀ k, v.ownBlock = some k → ¬ M1 k ∧ ¬ M2 k) : Pair w0 w' M1 M2 g h l1 l2 := by
  have m0 : Mine (fun k => v.ownBlock = some k) w w' := Mine.grown hg fun k hk => hk
  have hb2 : Below w0.heap.size w0 w' := Mine.below H.a.below m0 hb H.a.below.size
  exact ⟨⟨H.a.holds.mine m0 fun k hk e => (ho k e).1 hk, H.a.base, hb2⟩, ⟨H.b.holds.mine m0 fun k hk e => (ho k e).2 hk, H.b.base, hb2⟩, H.ne⟩
/-- An append of whatever row to a row of the call's own; where the new one lies. -/
theorem wpApp2 {ops : Array Oper} {rest : List Oper} {o : Oper} {a : Act} {Q : Exit → Act → World → Prop} {w : World} (hgd : o.guard = none) (s x : Operand)
    (ho : o.op = .call { callee := .builtin .append, args := #[s, x], argTypes := #[25, 25] }) (B : Nat) (v : Value) (ms : List Tm) (hs : a.eval s = v) (h : w.ownsRow B 27 2 v ms.length (tc ms))
    (A : Option Addr) (m c : Nat) (ys : List Tm) (hx : a.eval x = .slice A m c) (hr : Row w A (tc ys)) (hm : m = ys.length) (hlen : ms.length + ys.length ≤ 100000) (hB : B ≤ w.heap.size)
    (hk : ∀ v' w', w'.ownsRow B 27 2 v' (ms ++ ys).length (tc (ms ++ ys)) → w.grownBy w' v.ownBlock → (v'.ownBlock = v.ownBlock ∨ v'.ownBlock = some w.heap.size) → wpList Try.prog ops Q rest (a.put o.dst v') w') :
    wpList Try.prog ops Q (o :: rest) a w := by
  subst hm
  obtain ⟨i0, hi0, hz0, hz1, hz2⟩ := info_parts tmInfo
  rcases A with _ | ad
  · have hn : ys = [] := by
      rcases hr with hr | ⟨_, _, hr, _⟩
      · have := tc_len ys; rw [hr] at this; exact List.eq_nil_of_length_eq_zero (by simp at this; omega)
      · cases hr
    subst hn
    have hrun : (Builtin.append_ #[25, 25] o.type #[v, .slice none 0 c]).run Try.prog w = .ok v w := by
      rcases h.2 with ⟨rfl, _⟩ | ⟨g, cap, cur, rfl, _, _, hnc, _⟩
      · simp [Builtin.append_, run_underlying Try.underlying25, sizeOf, typeInfo, hi0, Builtin.lenOf, Builtin.firstCells]
      · simp [Builtin.append_, run_underlying Try.underlying25, sizeOf, typeInfo, hi0, Builtin.lenOf, Builtin.firstCells, hnc, storeCells]
    refine wpList_plain hgd fun K hK => ?_
    unfold Oper.wp
    simp only [execOp, ho, resolve, invoke, builtin, Sem.run_bind, Sem.run_pure, Result.andThen_ok, List.map_toArray, List.map_cons, List.map_nil, hs, hx, hrun, List.length_nil]
    exact hK _ _ (hk v w (by simpa using h) (World.grownBy.refl _ _) (.inl rfl))
  · have hcells : ∀ j u, (tc ys)[j]? = some u → w.cell? (ad.add j) = some u := by
      rcases hr with hr | ⟨b, off, hr, hc⟩
      · rw [hr]; intro j u hu; simp at hu
      · cases hr
        intro j u hu
        rw [Go.WideShapes.add_plain]
        exact hc j u hu
    refine wpList_append_own_at w hgd s x 25 ho B 27 i0 _ 2 24 Try.underlying25 hi0 hz0 hz1 hz2 rfl (by omega) v ms.length (tc ms) hs h ad ys.length c (tc ys) hx (tc_len ys) hcells (tc_ones ys)
      (by unfold maxLen; omega) (by omega) hB ?_
    intro v' w' hown hg _ hat
    exact hk v' w' (by rw [List.length_append, tc_app]; exact hown) hg hat
set_option maxHeartbeats 4000000 in
theorem walkTimerDue (xs : List Tm) (A : Option Addr) (c : Nat) (m1 m2 : Int) (w : World) (hA : Row w A (tc xs)) (hl : xs.length ≤ c) (hc : c ≤ 9223372036854775807) :
    Calls Try.prog 6 #[.slice A xs.length c, .int .i64 m1, .int .i64 m2] w (TellsB true w) := by
  obtain ⟨ys, hys⟩ : ∃ ys, ys = xs.take 300 := ⟨_, rfl⟩
  have hYA : Row w A (tc ys) := by rw [hys]; exact row_take hA 300
  obtain ⟨n, hn⟩ : ∃ n, n = ys.length := ⟨_, rfl⟩
  have hnx : n = if 300 < xs.length then 300 else xs.length := by rw [hn, hys, List.length_take]; split <;> omega
  have hn3 : n ≤ 300 := by rw [hnx]; split <;> omega
  have HA := Lib.hid hYA
  have HNX := Lib.hid hnx
  have HN := Lib.hid hn
  clear hA hys hYA hn hnx
  go_enter Try.func6, Try.ntmps6
  go_upto_if 15 with fail
  go_cut [0] from 16 (fun s wc => s = .slice A n c ∧ wc = w)
  case first =>
    by_cases h : 300 < xs.length
    · have h1 : (300 : Int) < xs.length := by omega
      have h2 : (300 : Int) ≤ c := by omega
      have hn := HNX.out
      rw [if_pos h] at hn
      go_wp2_with fail
      go_meet
      case rel => exact ⟨by rw [hn], rfl⟩
    · have h1 : (xs.length : Int) ≤ 300 := by omega
      have hn := HNX.out
      rw [if_neg h] at hn
      go_wp2_with fail
      go_meet
      case rel => exact ⟨by rw [hn], rfl⟩
  case rest =>
    obtain ⟨rfl, hw⟩ := hcut
    subst hw
    go_wp2_with (go_at_call 9; refine (tNew _).mono ?_; rintro e w1 ⟨rfl, rfl⟩)
    all_goals first
      | (have hx : m2 ≤ m1 := by omega
         obtain ⟨q, hq, hle⟩ : ∃ q, q = m1 ∧ q ≤ q := ⟨_, rfl, Int.le_refl _⟩
         rw [← hq]
         clear hx hq)
      | (have hx : m1 < m2 := by omega
         obtain ⟨q, hq, hle⟩ : ∃ q, q = m2 ∧ m1 ≤ q := ⟨_, rfl, by omega⟩
         rw [← hq]
         clear hx hq)
    all_goals
      have P0 := Lib.hid (Pair.new_ wc)
      have HLE := Lib.hid hle
      clear hle
      go_loopw [31] (fun s31 wr => ∃ (k : Nat) (M1 M2 : Nat → Prop), s31 = .int .i64 k ∧ k ≤ n ∧ Pair wc wr M1 M2 wc.heap.size (wc.heap.size + 1) (insAll (ys.take k)) (insAll (ys.take k))) (fun s31 _ => n - (intOf s31).toNat)
      case atStart => exact ⟨0, _, _, rfl, Nat.zero_le _, P0.out⟩
      case round =>
        clear P0
        obtain ⟨k, M1, M2, rfl, hk, hp⟩ := hrel
        have HP := Lib.hid hp
        clear hp
        by_cases hlt : k < n
        · obtain ⟨x, hx⟩ : ∃ x, ys[k]? = some x := ⟨_, List.getElem?_eq_getElem (by rw [← HN.out]; exact hlt)⟩
          obtain ⟨bb, off, rfl, c0, c1⟩ := row_at (HA.out.below HP.out.a.below) hx
          have HK := Lib.hid (insAll_take hx)
          clear hx
          have P1 := Lib.hid (HP.out.up (below_al (o := .cells (tmC x) 27) (Below.refl _ _)))
          have LX := Lib.hid (Lies.new wr (tmC x) 27)
          have NX : Hid (¬ M1 wr.heap.size) := Lib.hid fun hm => by have := HP.out.a.holds.lt _ hm; omega
          have HLN : Hid ((insAll (ys.take k)).length < 100000) := Lib.hid (by rw [insAll_len, List.length_take]; omega)
          go_wp2_with fail
          refine (tPush _ _ _ x _ P1.out.a.holds HLN.out).mono ?_
          rintro e w1 ⟨rfl, M1', q1, q2, _, q4⟩
          have P2 := Lib.hid (P1.out.stepA q1 q2 q4)
          have L2 := q2.lies LX.out NX.out
          have d0 := L2.cell (j := 0) rfl
          have d1 := L2.cell (j := 1) rfl
          clear q1 q2 q4 L2
          go_wp2_with fail
          refine (tPush _ _ _ x _ P2.out.b.holds HLN.out).mono ?_
          rintro e w2 ⟨rfl, M2', q1, q2, _, q4⟩
          have P3 := Lib.hid (P2.out.stepB q1 q2 q4)
          clear q1 q2 q4 d0 d1
          go_wp2_with fail
          go_roundw
          case rel => exact ⟨k + 1, M1', M2', by go_num, by omega, by rw [HK.out]; exact P3.out⟩
          case measure => simp [intOf]; omega
        · have hkn : k = n := by omega
          have hge : n ≤ k := by omega
          obtain ⟨S, hS⟩ : ∃ S, S = insAll (ys.take k) := ⟨_, rfl⟩
          have HSL : Hid (S.length = n) := Lib.hid (by rw [hS, insAll_len, List.length_take, ← HN.out]; omega)
          rw [← hS] at HP
          clear hS hkn
          have HSS := Lib.hid HP.out.a.holds.srt
          go_wp2_with fail
          refine (tDue M1 _ S _ _ HP.out.a.holds (by have := HSL.out; omega)).mono ?_
          rintro e w1 ⟨v1, rfl, o1, q1, q2⟩
          have P1 := Lib.hid (HP.out.stepA q1 q2 same_or)
          have B1 := Lib.hid (Beside.mk (M1 := M1) (M2 := M2) (own_base o1 HP.out.a.below.size) fun k hk => ⟨fun hm => by have := HP.out.a.holds.lt k hm; have := (own_lt o1 k hk).1; omega, fun hm => by have := HP.out.b.holds.lt k hm; have := (own_lt o1 k hk).1; omega⟩)
          clear q1 q2 o1
          go_wp2_with fail
          refine (tDue M1 _ _ _ _ P1.out.a.holds (by have := HSL.out; refine Nat.le_trans (rest_le _ S) ?_; omega)).mono ?_
          rintro e w2 ⟨v2, rfl, o2, q1, q2⟩
          have P2 := Lib.hid (P1.out.stepA q1 q2 same_or)
          have B2 := Lib.hid (B1.out.mine1 q2)
          rw [rest_later HLE.out] at P2
          obtain ⟨A2, c2, rfl, _, _, h2, h2b⟩ := own_to_row o2
          have HR2 := Lib.hid h2
          clear q1 q2 o2 h2 h2b
          obtain ⟨D, hD⟩ : ∃ D, D = due q S := ⟨_, rfl⟩
          obtain ⟨R, hR⟩ : ∃ R, R = rest q S := ⟨_, rfl⟩
          have HDL : Hid (D.length ≤ n) := Lib.hid (by rw [hD, ← HSL.out]; exact due_le _ _)
          have HRL : R.length ≤ n := by rw [hR, ← HSL.out]; exact rest_le _ _
          have E12 := Lib.hid ((due_later HLE.out HSS.out).trans hD.symm)
          rw [← hR] at P2
          have HD := Lib.hid hD
          have HRR := Lib.hid hR
          clear hD hR
          go_wp2_with (at_builtin; refine hold_mk ?_)
          refine hold_out ?_
          refine wpApp2 rfl _ _ rfl wc.heap.size v1 _ rfl B2.out.own A2 _ c2 _ rfl HR2.out rfl (by rw [← List.length_append, E12.out]; have := HDL.out; omega) P2.out.a.below.size ?_
          rw [E12.out]
          intro v3 w3 o3 g3 l3
          have P3 := Lib.hid (P2.out.grown g3 (fun k hk => (own_lt B2.out.own k hk).1) B2.out.off)
          have B3 := Lib.hid (Beside.mk (M1 := M1) (M2 := M2) o3 fun k hk => by
            rcases l3 with e | e
            · exact B2.out.off k (e ▸ hk)
            · rw [e] at hk
              have := Option.some.inj hk
              exact ⟨fun hm => by have := P2.out.a.holds.lt k hm; omega, fun hm => by have := P2.out.b.holds.lt k hm; omega⟩)
          obtain ⟨A3, c3, rfl, _⟩ := B3.out.row
          clear o3 g3 l3
          go_wp2_with fail
          refine (tDue M2 _ S _ _ P3.out.b.holds (by have := HSL.out; omega)).mono ?_
          rw [← HD.out, ← HRR.out]
          rintro e w4 ⟨v4, rfl, o4, q1, q2⟩
          have P4 := Lib.hid (P3.out.stepB q1 q2 same_or)
          have B4 := Lib.hid (B3.out.mine2 q2)
          obtain ⟨A4, c4, rfl, _, _, h4, _⟩ := own_to_row o4
          obtain ⟨A5, c5, e5, h5⟩ := B4.out.row
          cases e5
          have H4 := Lib.hid h4
          have H5 := Lib.hid h5
          clear q1 q2 o4 h4 h5
          go_wp2_with fail
          refine (rfLike D (by have := HDL.out; omega) A3 A4 c3 c4 _ H5.out H4.out).mono ?_
          rintro e w5 ⟨rfl, hb5⟩
          have P5 := Lib.hid (P4.out.up hb5)
          clear hb5
          go_wp2_with fail
          refine (tAll M1 _ R _ P5.out.a.holds (by omega)).mono ?_
          rintro e w6 ⟨v6, rfl, o6, hb6⟩
          have P6 := Lib.hid (P5.out.up hb6)
          obtain ⟨A6, c6, rfl, _, _, h6, _⟩ := own_to_row o6
          have H6 := Lib.hid h6
          clear hb6 o6 h6
          go_wp2_with fail
          refine (tAll M2 _ R _ P6.out.b.holds (by omega)).mono ?_
          rintro e w7 ⟨v7, rfl, o7, hb7⟩
          have P7 := Lib.hid (P6.out.up hb7)
          obtain ⟨A7, c7, rfl, _, _, h7, _⟩ := own_to_row o7
          have H7 := Lib.hid h7
          have H67 := Lib.hid (H6.out.below hb7)
          clear hb7 o7 h7
          go_wp2_with fail
          refine (rfLike R (by omega) A6 A7 c6 c7 _ H67.out H7.out).mono ?_
          rintro e w8 ⟨rfl, hb8⟩
          have P8 := Lib.hid (P7.out.up hb8)
          clear hb8
          have hrn : (R.length : Int) ≤ n := by omega
          go_wp2_with first
            | (go_at_call 19
               first
                 | (refine (tLen M1 wc.heap.size R _ P8.out.a.holds).mono ?_; rintro e w9 ⟨rfl, rfl⟩)
                 | (refine (tLen M2 (wc.heap.size + 1) R _ P8.out.b.holds).mono ?_; rintro e w9 ⟨rfl, rfl⟩))
            | (go_at_call 9
               refine (tNew _).mono ?_
               rintro e w9 ⟨rfl, rfl⟩
               have O := Lib.hid (One.new_ (w0 := wc) P8.out.a.below))
            | (go_at_call 18
               refine (tAll _ _ [] _ O.out.holds (by simp)).mono ?_
               rintro e w10 ⟨v10, rfl, o10, hb10⟩
               obtain ⟨A10, c10, rfl, _⟩ := own_to_row o10
               have HB := Lib.hid (below_next O.out.below hb10)
               clear o10 hb10)
          go_ret
          exact ⟨rfl, HB.out⟩
theorem lawTimerDue : Lift.Owes 6 [25, 2, 2] := by
  intro H enc W base args ds ps hval hA _ _
  obtain ⟨v0, v1, v2, d0, d1, d2, p0, p1, p2, rfl, rfl, rfl, h0, h1, h2⟩ := trodAll_three hA
  obtain ⟨A, c, xs, rfl, hl, hc, hrow⟩ := openTimers (hval 0 _ v0 rfl rfl) h0
  obtain ⟨k, rfl, rfl, rfl, _⟩ := open_int Try.underlying2 (hval 1 _ v1 rfl rfl) h1
  obtain ⟨m, rfl, rfl, rfl, _⟩ := open_int Try.underlying2 (hval 2 _ v2 rfl rfl) h2
  exact walkTimerDue xs A c k m W hrow hl hc
end Tim
theorem lawTimerDue : Lift.Owes 6 [25, 2, 2] := Tim.lawTimerDue
end Go.Proofs.Ytklgehfbfokdlaa
