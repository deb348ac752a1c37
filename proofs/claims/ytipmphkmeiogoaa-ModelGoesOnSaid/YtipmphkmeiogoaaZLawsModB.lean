/- The walk of the law ModelGoesOn. -/
import Derived.Test.YtipmphkmeiogoaaZ30
import Derived.Test.YtipmphkmeiogoaaZ4
namespace Go.Proofs.Ytipmphkmeiogoaa
open Go.ChangeShapes Go.WideShapes Go.ChangeAt Go.RowKit Go.Shelf Tick
set_option linter.unusedVariables false
set_option maxRecDepth 8000
namespace Mo
open Gen (TellsI TellsB SaysI lies_new1)
open Jo (Jb Ev Sr evIs srcOk insOk jbC jbV srV evL Srs)
open Pan (Pl Pn Rs adds)
set_option maxRecDepth 100000 in
set_option maxHeartbeats 1000000 in
theorem walkModelGoesOn (j : Jb) (hlim : Lp.inI j.limit) (t : Sr) (at_ : Int) (w : World) (h : SrOk w t) :
    Calls Try.prog 9 #[jbV j, .slice t.A t.l.length t.c, .int .i64 at_] w (TellsB true w) := by
  have hok := cutS_ok (k := 40) h
  obtain ⟨s, hs⟩ : ∃ s, s = cutS 40 t := ⟨_, rfl⟩
  rw [← hs] at hok
  obtain ⟨n, hn⟩ : ∃ n, n = s.l.length := ⟨_, rfl⟩
  have hsA : s.A = t.A := by rw [hs]; unfold cutS; split <;> rfl
  have hsc : s.c = t.c := by rw [hs]; unfold cutS; split <;> rfl
  have hway : (¬ 40 < t.l.length ∧ n = t.l.length) ∨ (40 < t.l.length ∧ ¬ t.l.length ≤ 200 ∧ n = t.l.length) ∨ (40 < t.l.length ∧ t.l.length ≤ 200 ∧ n = 40) := by
    rw [hn, hs]
    unfold cutS
    by_cases h1 : 40 < t.l.length
    · by_cases h2 : t.l.length ≤ 200
      · rw [if_pos ⟨h1, h2⟩]; simp only [List.length_take]; omega
      · rw [if_neg (by omega)]; omega
    · rw [if_neg (by omega)]; omega
  have hfewt := h.few
  have hsome : 40 < t.l.length → ∃ b off, t.A = some ⟨b, off, none⟩ := fun h1 => some_of h (by omega)
  have HFE := Lib.hid (fun h200 => cutS_few (k := 40) (s := t) h200)
  rw [← hs] at HFE
  have HO := Lib.hid (one_of (j := j) hlim hok hn)
  have HOP := Lib.hid (fun p (hp : p ≤ n) => one_of (j := j) (n := p) hlim (cutP_ok hok p) (by simp only [List.length_take]; omega))
  have HA := Lib.hid (fun w => lawAliveM w)
  have LJ := Lib.hid (Lies.new w (jbC j) 23)
  have HB0 := Lib.hid (below_al (o := .cells (jbC j) 23) (Below.refl w.heap.size w))
  have HLE : Hid (∀ xs A A' c c' w, xs.length ≤ 100000 → Row w A (ec xs) → Row w A' (ec xs) → Calls Try.prog 14 #[.slice A xs.length c, .slice A' xs.length c'] w (TellsB true w)) := Lib.hid (fun xs A A' c c' w hl h1 h2 => rfLikeEs xs hl A A' c c' w h1 h2)
  obtain ⟨z, hz⟩ : ∃ z, z = chk j [s] := ⟨_, rfl⟩
  have HZ := Lib.hid hz
  have HSA := Lib.hid hsA
  have HSC := Lib.hid hsc
  have HN := Lib.hid hn
  have HFEW := Lib.hid hok.few
  have HCAP := Lib.hid hok.cap
  clear hlim h hok hn hz hs hsA hsc
  have hcuts : ∀ (P : Prop), (∀ (e : (t.l.length : Int) = t.l.length), P) → P := fun P h => h rfl
  rcases hway with ⟨h1, h2⟩ | ⟨h1, h2, h3⟩ | ⟨h1, h2, h3⟩
  · have e1 : ¬ (40 : Int) < (t.l.length : Int) := by omega
    have hnn : n = t.l.length := h2
    have HNN := Lib.hid hnn
    clear h1 h2 hnn hsome hfewt hcuts
    go_enter Try.func9, Try.ntmps9
    go_upto_if 21 with fail
    go_cut [1] from 22 (fun v wc => v = .slice s.A n s.c ∧ wc = w.alloc (.cells (jbC j) 23))
    case first =>
      go_wp2_with fail
      go_meet
      case rel => exact ⟨by rw [HSA.out, HSC.out, HNN.out], rfl⟩
    case rest =>
      obtain ⟨rfl, rfl⟩ := hcut
      clear e1 HSA HSC HNN
      by_cases hz0 : z = 0
      · have HK := Lib.hid (fun w' hb => show Calls Try.prog 10 #[jbV j, .slice s.A n s.c] w' (GivesE (kept j 0 s.l, 0) w') from keptOut_ok (j := j) (s := s) (by rw [← HZ.out]; exact hz0) ▸ HO.out.kept w' hb)
        have HM := Lib.hid (fun w' hb => show Calls Try.prog 13 #[jbV j, .slice s.A n s.c] w' (TellsI (markOf j 0 s.l) w') from markOut_ok (j := j) (s := s) (by rw [← HZ.out]; exact hz0) ▸ HO.out.mark w' hb)
        have hc0 : chk j [s] = 0 := by rw [← HZ.out]; exact hz0
        have hn40 : n ≤ 40 := by rw [HN.out]; exact HFE.out (insOk_one (chk_ok hc0).2).1
        -- where it is cut
        have hw1 : IntKind.i64.wrap ((n : Int) + 1) = (n : Int) + 1 := wrap64_in (by omega) (by omega)
        obtain ⟨q, hq⟩ : ∃ q, at_.tmod ((n : Int) + 1) = q := ⟨_, rfl⟩
        have q1 : -((n : Int) + 1) < q := hq ▸ tmod_loM (by omega)
        have q2 : q < (n : Int) + 1 := hq ▸ Int.tmod_lt_of_pos _ (by omega)
        have hw2 : IntKind.i64.wrap (q + (n : Int)) = q + (n : Int) := wrap64_in (by omega) (by omega)
        have hw3 : IntKind.i64.wrap (q + (n : Int) + 1) = q + (n : Int) + 1 := wrap64_in (by omega) (by omega)
        obtain ⟨p, hp⟩ : ∃ p : Nat, (q + (n : Int) + 1).tmod ((n : Int) + 1) = (p : Int) := ⟨((q + (n : Int) + 1).tmod ((n : Int) + 1)).toNat, (Int.toNat_of_nonneg (Int.tmod_nonneg _ (by omega))).symm⟩
        have hpn : p ≤ n := by have := Int.tmod_lt_of_pos (q + (n : Int) + 1) (show 0 < (n : Int) + 1 by omega); omega
        have hne1 : ((n : Int) + 1 == 0) = false := ne_b (by omega)
        have hcp := chk_take hc0 p
        have HKP := Lib.hid (fun w' hb => show Calls Try.prog 10 #[jbV j, .slice s.A p s.c] w' (GivesE (kept j 0 (s.l.take p), 0) w') from keptOut_ok (j := j) hcp ▸ (HOP.out p hpn).kept w' hb)
        have HMP := Lib.hid (fun w' hb => show Calls Try.prog 13 #[jbV j, .slice s.A p s.c] w' (TellsI (markOf j 0 (s.l.take p)) w') from markOut_ok (j := j) hcp ▸ (HOP.out p hpn).mark w' hb)
        have hsplit : kept j 0 s.l = kept j 0 (s.l.take p) ++ kept j (markOf j 0 (s.l.take p)) (s.l.drop p) := by
          conv => lhs; rw [← List.take_append_drop p s.l, kept_append]
        have hmm : markOf j 0 (s.l.take p) ≤ markOf j 0 s.l := by
          have := mark_ge j (s.l.drop p) (markOf j 0 (s.l.take p))
          rwa [← mark_append, List.take_append_drop] at this
        have hlen := kept_len j s.l 0
        obtain ⟨m2, hm2⟩ : ∃ m2, m2 = markOf j 0 s.l := ⟨_, rfl⟩
        obtain ⟨m1, hm1⟩ : ∃ m1, m1 = markOf j 0 (s.l.take p) := ⟨_, rfl⟩
        obtain ⟨xs, hxs⟩ : ∃ xs, xs = kept j 0 s.l := ⟨_, rfl⟩
        obtain ⟨ys, hys⟩ : ∃ ys, ys = kept j 0 (s.l.take p) := ⟨_, rfl⟩
        obtain ⟨zs, hzs⟩ : ∃ zs, zs = kept j m1 (s.l.drop p) := ⟨_, rfl⟩
        have HZL : Hid (∀ x ∈ zs, m1 ≤ x.at_) := Lib.hid (fun x hx => (kept_mem j _ m1 x (by rw [← hzs]; exact hx)).1)
        rw [← hm1, ← hxs, ← hys, ← hzs] at hsplit
        rw [← hm1, ← hm2] at hmm
        rw [← hxs] at HK hlen
        rw [← hm2] at HM
        rw [← hys] at HKP
        rw [← hm1] at HMP
        obtain ⟨a, ha⟩ : ∃ a, a = xs.length := ⟨_, rfl⟩
        obtain ⟨b, hb⟩ : ∃ b, b = ys.length := ⟨_, rfl⟩
        have hab : b ≤ a := by rw [ha, hb, hsplit, List.length_append]; omega
        have ha40 : a ≤ 40 := by rw [ha]; have := HN.out; omega
        have HTAKE : Hid (xs.take b = ys) := Lib.hid (by rw [hsplit, hb, List.take_left])
        have HDROP : Hid (xs.drop b = zs) := Lib.hid (by rw [hsplit, hb, List.drop_left])
        have HZN : Hid (zs.length = a - b) := Lib.hid (by rw [ha, hb, hsplit, List.length_append]; omega)
        have HAX := Lib.hid ha
        have HBY := Lib.hid hb
        have hpc : (p : Int) ≤ s.c := by have := HFEW.out; have := HN.out; omega
        have hpc2 : p ≤ s.c := by omega
        have hp0 : (0 : Int) ≤ p := by omega
        have hab2 : ¬ (a : Int) < b := by omega
        have hmm2 : ¬ m2 < m1 := by omega
        have hcc := HCAP.out
        clear hz0 HO HOP HZ hc0 hcp hsplit hmm hlen hm2 hm1 hxs hys hzs ha hb HFE
        go_wp2_with fail
        refine (HK.out _ HB0.out).mono ?_
        rintro e w1 ⟨A1, c1, rfl, l1, l2, r1, hb1⟩
        simp only at l1 r1
        rw [← HAX.out] at l1 ⊢
        have HB1 := Lib.hid (below_next HB0.out hb1)
        have LJ1 := Lib.hid (LJ.out.below hb1)
        have R1 := Lib.hid r1
        have S0 := start9 LJ1.out
        have hl1 : (b : Int) ≤ c1 := by omega
        have hl2 : b ≤ c1 := by omega
        clear hb1 r1
        go_wp2_with fail
        clear hq hp hw1 hw2 hw3 hne1 q1 q2
        go_region_held3 (fun w' => w'.cell? ⟨w.heap.size, 0, none⟩ = some (.int .i64 j.groups) ∧ w'.cell? ⟨w.heap.size, 1, none⟩ = some (.int .i64 j.size) ∧ w'.cell? ⟨w.heap.size, 2, none⟩ = some (.int .i64 j.slide) ∧ w'.cell? ⟨w.heap.size, 3, none⟩ = some (.int .i64 j.fold) ∧ w'.cell? ⟨w.heap.size, 4, none⟩ = some (.int .i64 j.fuel) ∧ w'.cell? ⟨w.heap.size, 5, none⟩ = some (.int .i64 j.limit) ∧ w'.cell? ⟨w.heap.size, 6, none⟩ = some (.int .i64 j.delay) ∧ w'.cell? ⟨w.heap.size, 7, none⟩ = some (.int .i64 j.idle) ∧ Below w1.heap.size w1 w')
          (first | with_reducible assumption | (with_reducible refine keep9 hb5 ?_; with_reducible assumption))
          (first
            | (go_at_call 10; refine (HKP.out _ (below_next HB1.out (below9 (by assumption)))).mono ?_; rintro e w5 ⟨A5, c5, rfl, q5, q6, q7, hb5⟩; have Q5 := Lib.hid q7; have L5 := Lib.hid (And.intro q5 q6); clear q5 q6 q7; dsimp only)
          )

        rename_i hs9
        have HB2 := Lib.hid (below_next HB1.out (below9 hs9))
        have LJ2 := Lib.hid (LJ1.out.below (below9 hs9))
        have R2 := Lib.hid (R1.out.below (below9 hs9))
        have Q5 : Hid (Row w5 A5 (ec ys)) := Lib.hid Q5.out
        have HLY : Hid (∀ A A' c c' w, Row w A (ec ys) → Row w A' (ec ys) → Calls Try.prog 14 #[.slice A b c, .slice A' b c'] w (TellsB true w)) := Lib.hid (fun A A' c c' w h1 h2 => by rw [HBY.out]; exact HLE.out ys A A' c c' w (by have := HBY.out; omega) h1 h2)
        clear hs9 S0 HLE
        rw [← HBY.out]
        go_wp2_with fail
        have S0 := start9 LJ2.out
        go_region_held3 (fun w' => w'.cell? ⟨w.heap.size, 0, none⟩ = some (.int .i64 j.groups) ∧ w'.cell? ⟨w.heap.size, 1, none⟩ = some (.int .i64 j.size) ∧ w'.cell? ⟨w.heap.size, 2, none⟩ = some (.int .i64 j.slide) ∧ w'.cell? ⟨w.heap.size, 3, none⟩ = some (.int .i64 j.fold) ∧ w'.cell? ⟨w.heap.size, 4, none⟩ = some (.int .i64 j.fuel) ∧ w'.cell? ⟨w.heap.size, 5, none⟩ = some (.int .i64 j.limit) ∧ w'.cell? ⟨w.heap.size, 6, none⟩ = some (.int .i64 j.delay) ∧ w'.cell? ⟨w.heap.size, 7, none⟩ = some (.int .i64 j.idle) ∧ Below w5.heap.size w5 w')
          (first | with_reducible assumption | (with_reducible refine keep9 hb5 ?_; with_reducible assumption))
          (first
            | (go_at_call 13; refine (HMP.out _ (below_next HB2.out (below9 (by assumption)))).mono ?_; rintro e w6 ⟨rfl, hb5⟩; dsimp only)
          )

        rename_i hs8
        have HB3 := Lib.hid (below_next HB2.out (below9 hs8))
        have LJ3 := Lib.hid (LJ2.out.below (below9 hs8))
        have R3 := Lib.hid (R2.out.below (below9 hs8))
        have Q6 := Lib.hid (Q5.out.below (below9 hs8))
        clear hs8 S0
        have x0 := LJ3.out.cell (j := 0) rfl; have x1 := LJ3.out.cell (j := 1) rfl; have x2 := LJ3.out.cell (j := 2) rfl; have x3 := LJ3.out.cell (j := 3) rfl; have x4 := LJ3.out.cell (j := 4) rfl; have x5 := LJ3.out.cell (j := 5) rfl; have x6 := LJ3.out.cell (j := 6) rfl; have x7 := LJ3.out.cell (j := 7) rfl
        go_wp2_with fail
        refine (HLY.out _ _ _ _ _ (by have h := Gen.row_take Jo.evL_len R3.out b; rw [HTAKE.out] at h; exact h) Q6.out).mono ?_
        rintro e w7 ⟨rfl, hb7⟩
        have HB4 := Lib.hid (below_next HB3.out hb7)
        have LJ4 := LJ3.out.below hb7
        have R4 := Lib.hid (R3.out.below hb7)
        have y0 := LJ4.cell (j := 0) rfl; have y1 := LJ4.cell (j := 1) rfl; have y2 := LJ4.cell (j := 2) rfl; have y3 := LJ4.cell (j := 3) rfl; have y4 := LJ4.cell (j := 4) rfl; have y5 := LJ4.cell (j := 5) rfl; have y6 := LJ4.cell (j := 6) rfl; have y7 := LJ4.cell (j := 7) rfl
        clear hb7 LJ4 x0 x1 x2 x3 x4 x5 x6 x7
        go_wp2_with fail
        refine (HM.out _ HB4.out).mono ?_
        rintro e w8 ⟨rfl, hb8⟩
        have HB5 := Lib.hid (below_next HB4.out hb8)
        have R5 := Lib.hid (R4.out.below hb8)
        clear hb8 y0 y1 y2 y3 y4 y5 y6 y7
        have hba : (b : Int) ≤ a := by omega
        have hb0 : (0 : Int) ≤ b := by omega
        have hac : (a : Int) ≤ c1 := by omega
        obtain ⟨N, hN⟩ : ∃ N, a - b = N := ⟨_, rfl⟩
        by_cases hz : N = 0
        · have hab3 : a = b := by omega
          clear hN
          subst hz
          subst hab3
          have hsub : a - a = 0 := by omega
          by_cases hcb : c1 = a
          all_goals
            go_wp2_with fail
            go_loop [94] (fun i => i = .int .i64 (0 : Nat)) (fun _ => 0)
            case atStart => rfl
            case round =>
              obtain rfl := hrel
              go_wp2_with fail
              refine (HA.out _).mono ?_
              rintro e w9 ⟨rfl, hb9⟩
              have HB6 := Lib.hid (below_next HB5.out hb9)
              clear hb9
              go_wp2_with fail
              go_ret
              exact ⟨rfl, HB6.out⟩
        · have hcb : ¬ c1 = b := by omega
          have hxs0 : 0 < xs.length := by rw [← HAX.out]; omega
          obtain ⟨x0, hx0⟩ : ∃ x0, xs[0]? = some x0 := ⟨_, List.getElem?_eq_getElem hxs0⟩
          obtain ⟨b1, o1, rfl, hev⟩ := Jo.row_evC R5.out hx0
          have R6 : Hid (Row w8 (some ⟨b1, o1 + b * 3, none⟩) (ec zs)) := Lib.hid (by have h := row_dropE R5.out rfl b; rw [HDROP.out] at h; exact h)
          have HZN2 : Hid (zs.length = N) := Lib.hid (by rw [HZN.out]; exact hN)
          clear hev hxs0 hx0
          go_wp2_with fail
          go_loopw [94] (fun i wr => ∃ k : Nat, i = .int .i64 k ∧ k ≤ N ∧ Below w8.heap.size w8 wr) (fun i _ => N - (intOf i).toNat)
          case atStart => exact ⟨0, rfl, Nat.zero_le _, Below.refl _ _⟩
          case round =>
            obtain ⟨k, rfl, hk, hbk⟩ := hrel
            have HBK := Lib.hid hbk
            clear hbk
            by_cases hlt : k < N
            · obtain ⟨x, hx⟩ : ∃ x, zs[k]? = some x := ⟨_, List.getElem?_eq_getElem (by rw [HZN2.out]; exact hlt)⟩
              obtain ⟨b2, o2, e2, d0, d1, d2⟩ := Jo.row_evC (R6.out.below HBK.out) hx
              cases e2
              have hge : ¬ x.at_ < m1 := by have := HZL.out x (List.mem_of_getElem? hx); omega
              have hw := wrapM (k := k) (by omega)
              clear hx
              go_wp2_with fail
              go_roundw
              case rel => exact ⟨k + 1, rfl, by omega, below_al HBK.out⟩
              case measure => simp [intOf]; omega
            · have hkN : N ≤ k := by omega
              go_wp2_with fail
              refine (HA.out _).mono ?_
              rintro e w9 ⟨rfl, hb9⟩
              have HB6 := Lib.hid (below_next (below_next HB5.out HBK.out) hb9)
              clear hb9
              go_wp2_with fail
              go_ret
              exact ⟨rfl, HB6.out⟩
      · have HK := Lib.hid (fun w' hb => show Calls Try.prog 10 #[jbV j, .slice s.A n s.c] w' (GivesE ([], z) w') from HZ.out ▸ keptOut_not (j := j) (s := s) (by rw [← HZ.out]; exact hz0) ▸ HO.out.kept w' hb)
        have g1 : (z == 0) = false := ne_b hz0
        have g2 := nb hz0
        clear HO HOP HZ HFE HLE
        go_wp2_with fail
        refine (HK.out _ HB0.out).mono ?_
        rintro e w1 ⟨A1, c1, rfl, l1, l2, r1, hb1⟩
        have HB1 := Lib.hid (below_next HB0.out hb1)
        clear hb1 l1 l2 r1
        go_wp2_with fail
        refine (HA.out _).mono ?_
        rintro e w3 ⟨rfl, hb3⟩
        have HB3 := Lib.hid (below_next HB1.out hb3)
        clear hb3
        go_wp2_with fail
        go_ret
        exact ⟨rfl, HB3.out⟩
  · have e1 : (40 : Int) < (t.l.length : Int) := by omega
    have e2 : ¬ (t.l.length : Int) ≤ 200 := by omega
    have hnn : n = t.l.length := h3
    have HNN := Lib.hid hnn
    clear h1 h2 hnn hsome hfewt hcuts h3
    go_enter Try.func9, Try.ntmps9
    go_upto_if 21 with fail
    go_cut [1] from 22 (fun v wc => v = .slice s.A n s.c ∧ wc = w.alloc (.cells (jbC j) 23))
    case first =>
      go_wp2_with fail
      go_meet
      case rel => exact ⟨by rw [HSA.out, HSC.out, HNN.out], rfl⟩
    case rest =>
      obtain ⟨rfl, rfl⟩ := hcut
      clear e1 e2 HSA HSC HNN
      by_cases hz0 : z = 0
      · have HK := Lib.hid (fun w' hb => show Calls Try.prog 10 #[jbV j, .slice s.A n s.c] w' (GivesE (kept j 0 s.l, 0) w') from keptOut_ok (j := j) (s := s) (by rw [← HZ.out]; exact hz0) ▸ HO.out.kept w' hb)
        have HM := Lib.hid (fun w' hb => show Calls Try.prog 13 #[jbV j, .slice s.A n s.c] w' (TellsI (markOf j 0 s.l) w') from markOut_ok (j := j) (s := s) (by rw [← HZ.out]; exact hz0) ▸ HO.out.mark w' hb)
        have hc0 : chk j [s] = 0 := by rw [← HZ.out]; exact hz0
        have hn40 : n ≤ 40 := by rw [HN.out]; exact HFE.out (insOk_one (chk_ok hc0).2).1
        -- where it is cut
        have hw1 : IntKind.i64.wrap ((n : Int) + 1) = (n : Int) + 1 := wrap64_in (by omega) (by omega)
        obtain ⟨q, hq⟩ : ∃ q, at_.tmod ((n : Int) + 1) = q := ⟨_, rfl⟩
        have q1 : -((n : Int) + 1) < q := hq ▸ tmod_loM (by omega)
        have q2 : q < (n : Int) + 1 := hq ▸ Int.tmod_lt_of_pos _ (by omega)
        have hw2 : IntKind.i64.wrap (q + (n : Int)) = q + (n : Int) := wrap64_in (by omega) (by omega)
        have hw3 : IntKind.i64.wrap (q + (n : Int) + 1) = q + (n : Int) + 1 := wrap64_in (by omega) (by omega)
        obtain ⟨p, hp⟩ : ∃ p : Nat, (q + (n : Int) + 1).tmod ((n : Int) + 1) = (p : Int) := ⟨((q + (n : Int) + 1).tmod ((n : Int) + 1)).toNat, (Int.toNat_of_nonneg (Int.tmod_nonneg _ (by omega))).symm⟩
        have hpn : p ≤ n := by have := Int.tmod_lt_of_pos (q + (n : Int) + 1) (show 0 < (n : Int) + 1 by omega); omega
        have hne1 : ((n : Int) + 1 == 0) = false := ne_b (by omega)
        have hcp := chk_take hc0 p
        have HKP := Lib.hid (fun w' hb => show Calls Try.prog 10 #[jbV j, .slice s.A p s.c] w' (GivesE (kept j 0 (s.l.take p), 0) w') from keptOut_ok (j := j) hcp ▸ (HOP.out p hpn).kept w' hb)
        have HMP := Lib.hid (fun w' hb => show Calls Try.prog 13 #[jbV j, .slice s.A p s.c] w' (TellsI (markOf j 0 (s.l.take p)) w') from markOut_ok (j := j) hcp ▸ (HOP.out p hpn).mark w' hb)
        have hsplit : kept j 0 s.l = kept j 0 (s.l.take p) ++ kept j (markOf j 0 (s.l.take p)) (s.l.drop p) := by
          conv => lhs; rw [← List.take_append_drop p s.l, kept_append]
        have hmm : markOf j 0 (s.l.take p) ≤ markOf j 0 s.l := by
          have := mark_ge j (s.l.drop p) (markOf j 0 (s.l.take p))
          rwa [← mark_append, List.take_append_drop] at this
        have hlen := kept_len j s.l 0
        obtain ⟨m2, hm2⟩ : ∃ m2, m2 = markOf j 0 s.l := ⟨_, rfl⟩
        obtain ⟨m1, hm1⟩ : ∃ m1, m1 = markOf j 0 (s.l.take p) := ⟨_, rfl⟩
        obtain ⟨xs, hxs⟩ : ∃ xs, xs = kept j 0 s.l := ⟨_, rfl⟩
        obtain ⟨ys, hys⟩ : ∃ ys, ys = kept j 0 (s.l.take p) := ⟨_, rfl⟩
        obtain ⟨zs, hzs⟩ : ∃ zs, zs = kept j m1 (s.l.drop p) := ⟨_, rfl⟩
        have HZL : Hid (∀ x ∈ zs, m1 ≤ x.at_) := Lib.hid (fun x hx => (kept_mem j _ m1 x (by rw [← hzs]; exact hx)).1)
        rw [← hm1, ← hxs, ← hys, ← hzs] at hsplit
        rw [← hm1, ← hm2] at hmm
        rw [← hxs] at HK hlen
        rw [← hm2] at HM
        rw [← hys] at HKP
        rw [← hm1] at HMP
        obtain ⟨a, ha⟩ : ∃ a, a = xs.length := ⟨_, rfl⟩
        obtain ⟨b, hb⟩ : ∃ b, b = ys.length := ⟨_, rfl⟩
        have hab : b ≤ a := by rw [ha, hb, hsplit, List.length_append]; omega
        have ha40 : a ≤ 40 := by rw [ha]; have := HN.out; omega
        have HTAKE : Hid (xs.take b = ys) := Lib.hid (by rw [hsplit, hb, List.take_left])
        have HDROP : Hid (xs.drop b = zs) := Lib.hid (by rw [hsplit, hb, List.drop_left])
        have HZN : Hid (zs.length = a - b) := Lib.hid (by rw [ha, hb, hsplit, List.length_append]; omega)
        have HAX := Lib.hid ha
        have HBY := Lib.hid hb
        have hpc : (p : Int) ≤ s.c := by have := HFEW.out; have := HN.out; omega
        have hpc2 : p ≤ s.c := by omega
        have hp0 : (0 : Int) ≤ p := by omega
        have hab2 : ¬ (a : Int) < b := by omega
        have hmm2 : ¬ m2 < m1 := by omega
        have hcc := HCAP.out
        clear hz0 HO HOP HZ hc0 hcp hsplit hmm hlen hm2 hm1 hxs hys hzs ha hb HFE
        go_wp2_with fail
        refine (HK.out _ HB0.out).mono ?_
        rintro e w1 ⟨A1, c1, rfl, l1, l2, r1, hb1⟩
        simp only at l1 r1
        rw [← HAX.out] at l1 ⊢
        have HB1 := Lib.hid (below_next HB0.out hb1)
        have LJ1 := Lib.hid (LJ.out.below hb1)
        have R1 := Lib.hid r1
        have S0 := start9 LJ1.out
        have hl1 : (b : Int) ≤ c1 := by omega
        have hl2 : b ≤ c1 := by omega
        clear hb1 r1
        go_wp2_with fail
        clear hq hp hw1 hw2 hw3 hne1 q1 q2
        go_region_held3 (fun w' => w'.cell? ⟨w.heap.size, 0, none⟩ = some (.int .i64 j.groups) ∧ w'.cell? ⟨w.heap.size, 1, none⟩ = some (.int .i64 j.size) ∧ w'.cell? ⟨w.heap.size, 2, none⟩ = some (.int .i64 j.slide) ∧ w'.cell? ⟨w.heap.size, 3, none⟩ = some (.int .i64 j.fold) ∧ w'.cell? ⟨w.heap.size, 4, none⟩ = some (.int .i64 j.fuel) ∧ w'.cell? ⟨w.heap.size, 5, none⟩ = some (.int .i64 j.limit) ∧ w'.cell? ⟨w.heap.size, 6, none⟩ = some (.int .i64 j.delay) ∧ w'.cell? ⟨w.heap.size, 7, none⟩ = some (.int .i64 j.idle) ∧ Below w1.heap.size w1 w')
          (first | with_reducible assumption | (with_reducible refine keep9 hb5 ?_; with_reducible assumption))
          (first
            | (go_at_call 10; refine (HKP.out _ (below_next HB1.out (below9 (by assumption)))).mono ?_; rintro e w5 ⟨A5, c5, rfl, q5, q6, q7, hb5⟩; have Q5 := Lib.hid q7; have L5 := Lib.hid (And.intro q5 q6); clear q5 q6 q7; dsimp only)
          )

        rename_i hs9
        have HB2 := Lib.hid (below_next HB1.out (below9 hs9))
        have LJ2 := Lib.hid (LJ1.out.below (below9 hs9))
        have R2 := Lib.hid (R1.out.below (below9 hs9))
        have Q5 : Hid (Row w5 A5 (ec ys)) := Lib.hid Q5.out
        have HLY : Hid (∀ A A' c c' w, Row w A (ec ys) → Row w A' (ec ys) → Calls Try.prog 14 #[.slice A b c, .slice A' b c'] w (TellsB true w)) := Lib.hid (fun A A' c c' w h1 h2 => by rw [HBY.out]; exact HLE.out ys A A' c c' w (by have := HBY.out; omega) h1 h2)
        clear hs9 S0 HLE
        rw [← HBY.out]
        go_wp2_with fail
        have S0 := start9 LJ2.out
        go_region_held3 (fun w' => w'.cell? ⟨w.heap.size, 0, none⟩ = some (.int .i64 j.groups) ∧ w'.cell? ⟨w.heap.size, 1, none⟩ = some (.int .i64 j.size) ∧ w'.cell? ⟨w.heap.size, 2, none⟩ = some (.int .i64 j.slide) ∧ w'.cell? ⟨w.heap.size, 3, none⟩ = some (.int .i64 j.fold) ∧ w'.cell? ⟨w.heap.size, 4, none⟩ = some (.int .i64 j.fuel) ∧ w'.cell? ⟨w.heap.size, 5, none⟩ = some (.int .i64 j.limit) ∧ w'.cell? ⟨w.heap.size, 6, none⟩ = some (.int .i64 j.delay) ∧ w'.cell? ⟨w.heap.size, 7, none⟩ = some (.int .i64 j.idle) ∧ Below w5.heap.size w5 w')
          (first | with_reducible assumption | (with_reducible refine keep9 hb5 ?_; with_reducible assumption))
          (first
            | (go_at_call 13; refine (HMP.out _ (below_next HB2.out (below9 (by assumption)))).mono ?_; rintro e w6 ⟨rfl, hb5⟩; dsimp only)
          )

        rename_i hs8
        have HB3 := Lib.hid (below_next HB2.out (below9 hs8))
        have LJ3 := Lib.hid (LJ2.out.below (below9 hs8))
        have R3 := Lib.hid (R2.out.below (below9 hs8))
        have Q6 := Lib.hid (Q5.out.below (below9 hs8))
        clear hs8 S0
        have x0 := LJ3.out.cell (j := 0) rfl; have x1 := LJ3.out.cell (j := 1) rfl; have x2 := LJ3.out.cell (j := 2) rfl; have x3 := LJ3.out.cell (j := 3) rfl; have x4 := LJ3.out.cell (j := 4) rfl; have x5 := LJ3.out.cell (j := 5) rfl; have x6 := LJ3.out.cell (j := 6) rfl; have x7 := LJ3.out.cell (j := 7) rfl
        go_wp2_with fail
        refine (HLY.out _ _ _ _ _ (by have h := Gen.row_take Jo.evL_len R3.out b; rw [HTAKE.out] at h; exact h) Q6.out).mono ?_
        rintro e w7 ⟨rfl, hb7⟩
        have HB4 := Lib.hid (below_next HB3.out hb7)
        have LJ4 := LJ3.out.below hb7
        have R4 := Lib.hid (R3.out.below hb7)
        have y0 := LJ4.cell (j := 0) rfl; have y1 := LJ4.cell (j := 1) rfl; have y2 := LJ4.cell (j := 2) rfl; have y3 := LJ4.cell (j := 3) rfl; have y4 := LJ4.cell (j := 4) rfl; have y5 := LJ4.cell (j := 5) rfl; have y6 := LJ4.cell (j := 6) rfl; have y7 := LJ4.cell (j := 7) rfl
        clear hb7 LJ4 x0 x1 x2 x3 x4 x5 x6 x7
        go_wp2_with fail
        refine (HM.out _ HB4.out).mono ?_
        rintro e w8 ⟨rfl, hb8⟩
        have HB5 := Lib.hid (below_next HB4.out hb8)
        have R5 := Lib.hid (R4.out.below hb8)
        clear hb8 y0 y1 y2 y3 y4 y5 y6 y7
        have hba : (b : Int) ≤ a := by omega
        have hb0 : (0 : Int) ≤ b := by omega
        have hac : (a : Int) ≤ c1 := by omega
        obtain ⟨N, hN⟩ : ∃ N, a - b = N := ⟨_, rfl⟩
        by_cases hz : N = 0
        · have hab3 : a = b := by omega
          clear hN
          subst hz
          subst hab3
          have hsub : a - a = 0 := by omega
          by_cases hcb : c1 = a
          all_goals
            go_wp2_with fail
            go_loop [94] (fun i => i = .int .i64 (0 : Nat)) (fun _ => 0)
            case atStart => rfl
            case round =>
              obtain rfl := hrel
              go_wp2_with fail
              refine (HA.out _).mono ?_
              rintro e w9 ⟨rfl, hb9⟩
              have HB6 := Lib.hid (below_next HB5.out hb9)
              clear hb9
              go_wp2_with fail
              go_ret
              exact ⟨rfl, HB6.out⟩
        · have hcb : ¬ c1 = b := by omega
          have hxs0 : 0 < xs.length := by rw [← HAX.out]; omega
          obtain ⟨x0, hx0⟩ : ∃ x0, xs[0]? = some x0 := ⟨_, List.getElem?_eq_getElem hxs0⟩
          obtain ⟨b1, o1, rfl, hev⟩ := Jo.row_evC R5.out hx0
          have R6 : Hid (Row w8 (some ⟨b1, o1 + b * 3, none⟩) (ec zs)) := Lib.hid (by have h := row_dropE R5.out rfl b; rw [HDROP.out] at h; exact h)
          have HZN2 : Hid (zs.length = N) := Lib.hid (by rw [HZN.out]; exact hN)
          clear hev hxs0 hx0
          go_wp2_with fail
          go_loopw [94] (fun i wr => ∃ k : Nat, i = .int .i64 k ∧ k ≤ N ∧ Below w8.heap.size w8 wr) (fun i _ => N - (intOf i).toNat)
          case atStart => exact ⟨0, rfl, Nat.zero_le _, Below.refl _ _⟩
          case round =>
            obtain ⟨k, rfl, hk, hbk⟩ := hrel
            have HBK := Lib.hid hbk
            clear hbk
            by_cases hlt : k < N
            · obtain ⟨x, hx⟩ : ∃ x, zs[k]? = some x := ⟨_, List.getElem?_eq_getElem (by rw [HZN2.out]; exact hlt)⟩
              obtain ⟨b2, o2, e2, d0, d1, d2⟩ := Jo.row_evC (R6.out.below HBK.out) hx
              cases e2
              have hge : ¬ x.at_ < m1 := by have := HZL.out x (List.mem_of_getElem? hx); omega
              have hw := wrapM (k := k) (by omega)
              clear hx
              go_wp2_with fail
              go_roundw
              case rel => exact ⟨k + 1, rfl, by omega, below_al HBK.out⟩
              case measure => simp [intOf]; omega
            · have hkN : N ≤ k := by omega
              go_wp2_with fail
              refine (HA.out _).mono ?_
              rintro e w9 ⟨rfl, hb9⟩
              have HB6 := Lib.hid (below_next (below_next HB5.out HBK.out) hb9)
              clear hb9
              go_wp2_with fail
              go_ret
              exact ⟨rfl, HB6.out⟩
      · have HK := Lib.hid (fun w' hb => show Calls Try.prog 10 #[jbV j, .slice s.A n s.c] w' (GivesE ([], z) w') from HZ.out ▸ keptOut_not (j := j) (s := s) (by rw [← HZ.out]; exact hz0) ▸ HO.out.kept w' hb)
        have g1 : (z == 0) = false := ne_b hz0
        have g2 := nb hz0
        clear HO HOP HZ HFE HLE
        go_wp2_with fail
        refine (HK.out _ HB0.out).mono ?_
        rintro e w1 ⟨A1, c1, rfl, l1, l2, r1, hb1⟩
        have HB1 := Lib.hid (below_next HB0.out hb1)
        clear hb1 l1 l2 r1
        go_wp2_with fail
        refine (HA.out _).mono ?_
        rintro e w3 ⟨rfl, hb3⟩
        have HB3 := Lib.hid (below_next HB1.out hb3)
        clear hb3
        go_wp2_with fail
        go_ret
        exact ⟨rfl, HB3.out⟩
  · have e1 : (40 : Int) < (t.l.length : Int) := by omega
    have e2 : (t.l.length : Int) ≤ 200 := by omega
    have e3 : (40 : Int) ≤ t.c := by omega
    have hnn : n = 40 := h3
    obtain ⟨b0, off0, hA0⟩ := hsome h1
    have HNN := Lib.hid hnn
    obtain ⟨tA, tc, tl⟩ := t
    simp only at hA0 e1 e2 e3 HSA HSC ⊢
    subst hA0
    clear h1 h2 hnn hsome hfewt hcuts h3
    go_enter Try.func9, Try.ntmps9
    go_upto_if 21 with fail
    go_cut [1] from 22 (fun v wc => v = .slice s.A n s.c ∧ wc = w.alloc (.cells (jbC j) 23))
    case first =>
      go_wp2_with fail
      go_meet
      case rel => exact ⟨by rw [HSA.out, HSC.out, HNN.out], rfl⟩
    case rest =>
      obtain ⟨rfl, rfl⟩ := hcut
      clear e1 e2 e3 HSA HSC HNN
      by_cases hz0 : z = 0
      · have HK := Lib.hid (fun w' hb => show Calls Try.prog 10 #[jbV j, .slice s.A n s.c] w' (GivesE (kept j 0 s.l, 0) w') from keptOut_ok (j := j) (s := s) (by rw [← HZ.out]; exact hz0) ▸ HO.out.kept w' hb)
        have HM := Lib.hid (fun w' hb => show Calls Try.prog 13 #[jbV j, .slice s.A n s.c] w' (TellsI (markOf j 0 s.l) w') from markOut_ok (j := j) (s := s) (by rw [← HZ.out]; exact hz0) ▸ HO.out.mark w' hb)
        have hc0 : chk j [s] = 0 := by rw [← HZ.out]; exact hz0
        have hn40 : n ≤ 40 := by rw [HN.out]; exact HFE.out (insOk_one (chk_ok hc0).2).1
        -- where it is cut
        have hw1 : IntKind.i64.wrap ((n : Int) + 1) = (n : Int) + 1 := wrap64_in (by omega) (by omega)
        obtain ⟨q, hq⟩ : ∃ q, at_.tmod ((n : Int) + 1) = q := ⟨_, rfl⟩
        have q1 : -((n : Int) + 1) < q := hq ▸ tmod_loM (by omega)
        have q2 : q < (n : Int) + 1 := hq ▸ Int.tmod_lt_of_pos _ (by omega)
        have hw2 : IntKind.i64.wrap (q + (n : Int)) = q + (n : Int) := wrap64_in (by omega) (by omega)
        have hw3 : IntKind.i64.wrap (q + (n : Int) + 1) = q + (n : Int) + 1 := wrap64_in (by omega) (by omega)
        obtain ⟨p, hp⟩ : ∃ p : Nat, (q + (n : Int) + 1).tmod ((n : Int) + 1) = (p : Int) := ⟨((q + (n : Int) + 1).tmod ((n : Int) + 1)).toNat, (Int.toNat_of_nonneg (Int.tmod_nonneg _ (by omega))).symm⟩
        have hpn : p ≤ n := by have := Int.tmod_lt_of_pos (q + (n : Int) + 1) (show 0 < (n : Int) + 1 by omega); omega
        have hne1 : ((n : Int) + 1 == 0) = false := ne_b (by omega)
        have hcp := chk_take hc0 p
        have HKP := Lib.hid (fun w' hb => show Calls Try.prog 10 #[jbV j, .slice s.A p s.c] w' (GivesE (kept j 0 (s.l.take p), 0) w') from keptOut_ok (j := j) hcp ▸ (HOP.out p hpn).kept w' hb)
        have HMP := Lib.hid (fun w' hb => show Calls Try.prog 13 #[jbV j, .slice s.A p s.c] w' (TellsI (markOf j 0 (s.l.take p)) w') from markOut_ok (j := j) hcp ▸ (HOP.out p hpn).mark w' hb)
        have hsplit : kept j 0 s.l = kept j 0 (s.l.take p) ++ kept j (markOf j 0 (s.l.take p)) (s.l.drop p) := by
          conv => lhs; rw [← List.take_append_drop p s.l, kept_append]
        have hmm : markOf j 0 (s.l.take p) ≤ markOf j 0 s.l := by
          have := mark_ge j (s.l.drop p) (markOf j 0 (s.l.take p))
          rwa [← mark_append, List.take_append_drop] at this
        have hlen := kept_len j s.l 0
        obtain ⟨m2, hm2⟩ : ∃ m2, m2 = markOf j 0 s.l := ⟨_, rfl⟩
        obtain ⟨m1, hm1⟩ : ∃ m1, m1 = markOf j 0 (s.l.take p) := ⟨_, rfl⟩
        obtain ⟨xs, hxs⟩ : ∃ xs, xs = kept j 0 s.l := ⟨_, rfl⟩
        obtain ⟨ys, hys⟩ : ∃ ys, ys = kept j 0 (s.l.take p) := ⟨_, rfl⟩
        obtain ⟨zs, hzs⟩ : ∃ zs, zs = kept j m1 (s.l.drop p) := ⟨_, rfl⟩
        have HZL : Hid (∀ x ∈ zs, m1 ≤ x.at_) := Lib.hid (fun x hx => (kept_mem j _ m1 x (by rw [← hzs]; exact hx)).1)
        rw [← hm1, ← hxs, ← hys, ← hzs] at hsplit
        rw [← hm1, ← hm2] at hmm
        rw [← hxs] at HK hlen
        rw [← hm2] at HM
        rw [← hys] at HKP
        rw [← hm1] at HMP
        obtain ⟨a, ha⟩ : ∃ a, a = xs.length := ⟨_, rfl⟩
        obtain ⟨b, hb⟩ : ∃ b, b = ys.length := ⟨_, rfl⟩
        have hab : b ≤ a := by rw [ha, hb, hsplit, List.length_append]; omega
        have ha40 : a ≤ 40 := by rw [ha]; have := HN.out; omega
        have HTAKE : Hid (xs.take b = ys) := Lib.hid (by rw [hsplit, hb, List.take_left])
        have HDROP : Hid (xs.drop b = zs) := Lib.hid (by rw [hsplit, hb, List.drop_left])
        have HZN : Hid (zs.length = a - b) := Lib.hid (by rw [ha, hb, hsplit, List.length_append]; omega)
        have HAX := Lib.hid ha
        have HBY := Lib.hid hb
        have hpc : (p : Int) ≤ s.c := by have := HFEW.out; have := HN.out; omega
        have hpc2 : p ≤ s.c := by omega
        have hp0 : (0 : Int) ≤ p := by omega
        have hab2 : ¬ (a : Int) < b := by omega
        have hmm2 : ¬ m2 < m1 := by omega
        have hcc := HCAP.out
        clear hz0 HO HOP HZ hc0 hcp hsplit hmm hlen hm2 hm1 hxs hys hzs ha hb HFE
        go_wp2_with fail
        refine (HK.out _ HB0.out).mono ?_
        rintro e w1 ⟨A1, c1, rfl, l1, l2, r1, hb1⟩
        simp only at l1 r1
        rw [← HAX.out] at l1 ⊢
        have HB1 := Lib.hid (below_next HB0.out hb1)
        have LJ1 := Lib.hid (LJ.out.below hb1)
        have R1 := Lib.hid r1
        have S0 := start9 LJ1.out
        have hl1 : (b : Int) ≤ c1 := by omega
        have hl2 : b ≤ c1 := by omega
        clear hb1 r1
        go_wp2_with fail
        clear hq hp hw1 hw2 hw3 hne1 q1 q2
        go_region_held3 (fun w' => w'.cell? ⟨w.heap.size, 0, none⟩ = some (.int .i64 j.groups) ∧ w'.cell? ⟨w.heap.size, 1, none⟩ = some (.int .i64 j.size) ∧ w'.cell? ⟨w.heap.size, 2, none⟩ = some (.int .i64 j.slide) ∧ w'.cell? ⟨w.heap.size, 3, none⟩ = some (.int .i64 j.fold) ∧ w'.cell? ⟨w.heap.size, 4, none⟩ = some (.int .i64 j.fuel) ∧ w'.cell? ⟨w.heap.size, 5, none⟩ = some (.int .i64 j.limit) ∧ w'.cell? ⟨w.heap.size, 6, none⟩ = some (.int .i64 j.delay) ∧ w'.cell? ⟨w.heap.size, 7, none⟩ = some (.int .i64 j.idle) ∧ Below w1.heap.size w1 w')
          (first | with_reducible assumption | (with_reducible refine keep9 hb5 ?_; with_reducible assumption))
          (first
            | (go_at_call 10; refine (HKP.out _ (below_next HB1.out (below9 (by assumption)))).mono ?_; rintro e w5 ⟨A5, c5, rfl, q5, q6, q7, hb5⟩; have Q5 := Lib.hid q7; have L5 := Lib.hid (And.intro q5 q6); clear q5 q6 q7; dsimp only)
          )

        rename_i hs9
        have HB2 := Lib.hid (below_next HB1.out (below9 hs9))
        have LJ2 := Lib.hid (LJ1.out.below (below9 hs9))
        have R2 := Lib.hid (R1.out.below (below9 hs9))
        have Q5 : Hid (Row w5 A5 (ec ys)) := Lib.hid Q5.out
        have HLY : Hid (∀ A A' c c' w, Row w A (ec ys) → Row w A' (ec ys) → Calls Try.prog 14 #[.slice A b c, .slice A' b c'] w (TellsB true w)) := Lib.hid (fun A A' c c' w h1 h2 => by rw [HBY.out]; exact HLE.out ys A A' c c' w (by have := HBY.out; omega) h1 h2)
        clear hs9 S0 HLE
        rw [← HBY.out]
        go_wp2_with fail
        have S0 := start9 LJ2.out
        go_region_held3 (fun w' => w'.cell? ⟨w.heap.size, 0, none⟩ = some (.int .i64 j.groups) ∧ w'.cell? ⟨w.heap.size, 1, none⟩ = some (.int .i64 j.size) ∧ w'.cell? ⟨w.heap.size, 2, none⟩ = some (.int .i64 j.slide) ∧ w'.cell? ⟨w.heap.size, 3, none⟩ = some (.int .i64 j.fold) ∧ w'.cell? ⟨w.heap.size, 4, none⟩ = some (.int .i64 j.fuel) ∧ w'.cell? ⟨w.heap.size, 5, none⟩ = some (.int .i64 j.limit) ∧ w'.cell? ⟨w.heap.size, 6, none⟩ = some (.int .i64 j.delay) ∧ w'.cell? ⟨w.heap.size, 7, none⟩ = some (.int .i64 j.idle) ∧ Below w5.heap.size w5 w')
          (first | with_reducible assumption | (with_reducible refine keep9 hb5 ?_; with_reducible assumption))
          (first
            | (go_at_call 13; refine (HMP.out _ (below_next HB2.out (below9 (by assumption)))).mono ?_; rintro e w6 ⟨rfl, hb5⟩; dsimp only)
          )

        rename_i hs8
        have HB3 := Lib.hid (below_next HB2.out (below9 hs8))
        have LJ3 := Lib.hid (LJ2.out.below (below9 hs8))
        have R3 := Lib.hid (R2.out.below (below9 hs8))
        have Q6 := Lib.hid (Q5.out.below (below9 hs8))
        clear hs8 S0
        have x0 := LJ3.out.cell (j := 0) rfl; have x1 := LJ3.out.cell (j := 1) rfl; have x2 := LJ3.out.cell (j := 2) rfl; have x3 := LJ3.out.cell (j := 3) rfl; have x4 := LJ3.out.cell (j := 4) rfl; have x5 := LJ3.out.cell (j := 5) rfl; have x6 := LJ3.out.cell (j := 6) rfl; have x7 := LJ3.out.cell (j := 7) rfl
        go_wp2_with fail
        refine (HLY.out _ _ _ _ _ (by have h := Gen.row_take Jo.evL_len R3.out b; rw [HTAKE.out] at h; exact h) Q6.out).mono ?_
        rintro e w7 ⟨rfl, hb7⟩
        have HB4 := Lib.hid (below_next HB3.out hb7)
        have LJ4 := LJ3.out.below hb7
        have R4 := Lib.hid (R3.out.below hb7)
        have y0 := LJ4.cell (j := 0) rfl; have y1 := LJ4.cell (j := 1) rfl; have y2 := LJ4.cell (j := 2) rfl; have y3 := LJ4.cell (j := 3) rfl; have y4 := LJ4.cell (j := 4) rfl; have y5 := LJ4.cell (j := 5) rfl; have y6 := LJ4.cell (j := 6) rfl; have y7 := LJ4.cell (j := 7) rfl
        clear hb7 LJ4 x0 x1 x2 x3 x4 x5 x6 x7
        go_wp2_with fail
        refine (HM.out _ HB4.out).mono ?_
        rintro e w8 ⟨rfl, hb8⟩
        have HB5 := Lib.hid (below_next HB4.out hb8)
        have R5 := Lib.hid (R4.out.below hb8)
        clear hb8 y0 y1 y2 y3 y4 y5 y6 y7
        have hba : (b : Int) ≤ a := by omega
        have hb0 : (0 : Int) ≤ b := by omega
        have hac : (a : Int) ≤ c1 := by omega
        obtain ⟨N, hN⟩ : ∃ N, a - b = N := ⟨_, rfl⟩
        by_cases hz : N = 0
        · have hab3 : a = b := by omega
          clear hN
          subst hz
          subst hab3
          have hsub : a - a = 0 := by omega
          by_cases hcb : c1 = a
          all_goals
            go_wp2_with fail
            go_loop [94] (fun i => i = .int .i64 (0 : Nat)) (fun _ => 0)
            case atStart => rfl
            case round =>
              obtain rfl := hrel
              go_wp2_with fail
              refine (HA.out _).mono ?_
              rintro e w9 ⟨rfl, hb9⟩
              have HB6 := Lib.hid (below_next HB5.out hb9)
              clear hb9
              go_wp2_with fail
              go_ret
              exact ⟨rfl, HB6.out⟩
        · have hcb : ¬ c1 = b := by omega
          have hxs0 : 0 < xs.length := by rw [← HAX.out]; omega
          obtain ⟨x0, hx0⟩ : ∃ x0, xs[0]? = some x0 := ⟨_, List.getElem?_eq_getElem hxs0⟩
          obtain ⟨b1, o1, rfl, hev⟩ := Jo.row_evC R5.out hx0
          have R6 : Hid (Row w8 (some ⟨b1, o1 + b * 3, none⟩) (ec zs)) := Lib.hid (by have h := row_dropE R5.out rfl b; rw [HDROP.out] at h; exact h)
          have HZN2 : Hid (zs.length = N) := Lib.hid (by rw [HZN.out]; exact hN)
          clear hev hxs0 hx0
          go_wp2_with fail
          go_loopw [94] (fun i wr => ∃ k : Nat, i = .int .i64 k ∧ k ≤ N ∧ Below w8.heap.size w8 wr) (fun i _ => N - (intOf i).toNat)
          case atStart => exact ⟨0, rfl, Nat.zero_le _, Below.refl _ _⟩
          case round =>
            obtain ⟨k, rfl, hk, hbk⟩ := hrel
            have HBK := Lib.hid hbk
            clear hbk
            by_cases hlt : k < N
            · obtain ⟨x, hx⟩ : ∃ x, zs[k]? = some x := ⟨_, List.getElem?_eq_getElem (by rw [HZN2.out]; exact hlt)⟩
              obtain ⟨b2, o2, e2, d0, d1, d2⟩ := Jo.row_evC (R6.out.below HBK.out) hx
              cases e2
              have hge : ¬ x.at_ < m1 := by have := HZL.out x (List.mem_of_getElem? hx); omega
              have hw := wrapM (k := k) (by omega)
              clear hx
              go_wp2_with fail
              go_roundw
              case rel => exact ⟨k + 1, rfl, by omega, below_al HBK.out⟩
              case measure => simp [intOf]; omega
            · have hkN : N ≤ k := by omega
              go_wp2_with fail
              refine (HA.out _).mono ?_
              rintro e w9 ⟨rfl, hb9⟩
              have HB6 := Lib.hid (below_next (below_next HB5.out HBK.out) hb9)
              clear hb9
              go_wp2_with fail
              go_ret
              exact ⟨rfl, HB6.out⟩
      · have HK := Lib.hid (fun w' hb => show Calls Try.prog 10 #[jbV j, .slice s.A n s.c] w' (GivesE ([], z) w') from HZ.out ▸ keptOut_not (j := j) (s := s) (by rw [← HZ.out]; exact hz0) ▸ HO.out.kept w' hb)
        have g1 : (z == 0) = false := ne_b hz0
        have g2 := nb hz0
        clear HO HOP HZ HFE HLE
        go_wp2_with fail
        refine (HK.out _ HB0.out).mono ?_
        rintro e w1 ⟨A1, c1, rfl, l1, l2, r1, hb1⟩
        have HB1 := Lib.hid (below_next HB0.out hb1)
        clear hb1 l1 l2 r1
        go_wp2_with fail
        refine (HA.out _).mono ?_
        rintro e w3 ⟨rfl, hb3⟩
        have HB3 := Lib.hid (below_next HB1.out hb3)
        clear hb3
        go_wp2_with fail
        go_ret
        exact ⟨rfl, HB3.out⟩
theorem lawModelGoesOn : Lift.Owes 9 [23, 24, 3] := by
  intro H enc W base args ds ps hval hA _ _
  obtain ⟨v0, v1, v2, d0, d1, d2, p0, p1, p2, rfl, rfl, rfl, h0, h1, h2⟩ := trodAll_three hA
  obtain ⟨j, rfl, hl⟩ := Jo.openJb (hval 0 _ v0 rfl rfl) h0
  obtain ⟨s, rfl, hs⟩ := openEvsM (hval 1 _ v1 rfl rfl) h1
  obtain ⟨a, rfl, _, _, _⟩ := open_int Try.underlying3 (hval 2 _ v2 rfl rfl) h2
  exact walkModelGoesOn j hl s a W hs
end Mo
theorem lawModelGoesOn : Lift.Owes 9 [23, 24, 3] := Mo.lawModelGoesOn
end Go.Proofs.Ytipmphkmeiogoaa
