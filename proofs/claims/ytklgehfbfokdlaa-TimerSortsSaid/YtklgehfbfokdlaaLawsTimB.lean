/- The walk of the law TimerLooks. -/
import Derived.Test.YtklgehfbfokdlaaLawsTimC
namespace Go.Proofs.Ytklgehfbfokdlaa
open Go.ChangeShapes Go.WideShapes Go.ChangeAt Go.RowKit
set_option linter.unusedVariables false
namespace Tim
/-- What stands while a round of TimerLooks looks. -/
structure LookAt (w0 : World) (M : Nat → Prop) (h : Nat) (r : List Tm) (A : Option Addr) (w : World) : Prop where
  one : One w0 w M h r
  row : Row w A (tc r)
theorem LookAt.up {w0 w w' : World} {M : Nat → Prop} {h : Nat} {r : List Tm} {A : Option Addr} (H : LookAt w0 M h r A w) (hb : Below w.heap.size w w') : LookAt w0 M h r A w' := ⟨H.one.up hb, H.row.below hb⟩
theorem row_tail {w : World} {q c : Nat} {x : Tm} {r : List Tm} (h : Row w (some ⟨q, 0, none⟩) (tc (x :: r))) (h0 : c = 1 → r = []) : Row w (if c = 1 then some ⟨q, 0, none⟩ else some ⟨q, 2, none⟩) (tc r) := by
  split
  · rw [h0 (by assumption)]; exact Row.nil
  · rcases h with h | ⟨b, off, e, h⟩
    · simp [tc, tL] at h
    · cases e
      refine .inr ⟨q, 2, rfl, fun j u hu => ?_⟩
      have := h (j + 2) u (by simpa [tc, tL] using hu)
      rw [show (2 : Nat) + j = 0 + (j + 2) by omega]
      exact this
theorem look_keep {b q : Nat} {x : Tm} {w0 w w' : World} {M : Nat → Prop} {h : Nat} {r : List Tm} {A : Option Addr} (hb : Below w.heap.size w w')
    (H : w.cell? ⟨b, 0, none⟩ = some (.int .i64 x.at_) ∧ w.cell? ⟨b, 1, none⟩ = some (.string (kS x.name)) ∧ w.cell? ⟨q, 0, none⟩ = some (.int .i64 x.at_) ∧ w.cell? ⟨q, 0 + 1, none⟩ = some (.string (kS x.name)) ∧ LookAt w0 M h r A w) :
    w'.cell? ⟨b, 0, none⟩ = some (.int .i64 x.at_) ∧ w'.cell? ⟨b, 1, none⟩ = some (.string (kS x.name)) ∧ w'.cell? ⟨q, 0, none⟩ = some (.int .i64 x.at_) ∧ w'.cell? ⟨q, 0 + 1, none⟩ = some (.string (kS x.name)) ∧ LookAt w0 M h r A w' :=
  ⟨cell_below H.1 hb, cell_below H.2.1 hb, cell_below H.2.2.1 hb, cell_below H.2.2.2.1 hb, H.2.2.2.2.up hb⟩
theorem look_of {b q : Nat} {x : Tm} {w0 w : World} {M : Nat → Prop} {h : Nat} {r : List Tm} {A : Option Addr}
    (H : w.cell? ⟨b, 0, none⟩ = some (.int .i64 x.at_) ∧ w.cell? ⟨b, 1, none⟩ = some (.string (kS x.name)) ∧ w.cell? ⟨q, 0, none⟩ = some (.int .i64 x.at_) ∧ w.cell? ⟨q, 0 + 1, none⟩ = some (.string (kS x.name)) ∧ LookAt w0 M h r A w) : LookAt w0 M h r A w := H.2.2.2.2
set_option maxHeartbeats 4000000 in
theorem walkTimerLooks (xs : List Tm) (A : Option Addr) (c : Nat) (w : World) (hA : Row w A (tc xs)) (hl : xs.length ≤ c) (hc : c ≤ 9223372036854775807) :
    Calls Try.prog 8 #[.slice A xs.length c] w (TellsB true w) := by
  have he : ∀ (x : Tm) (w : World), (binOp .neq 27 (tmV x) (tmV x)).run Try.prog w = .ok (.bool false) w := run_sameTm
  obtain ⟨ys, hys⟩ : ∃ ys, ys = xs.take 300 := ⟨_, rfl⟩
  have hYA : Row w A (tc ys) := by rw [hys]; exact row_take hA 300
  obtain ⟨n, hn⟩ : ∃ n, n = ys.length := ⟨_, rfl⟩
  have hnx : n = if 300 < xs.length then 300 else xs.length := by rw [hn, hys, List.length_take]; split <;> omega
  have hn3 : n ≤ 300 := by rw [hnx]; split <;> omega
  have HA := Lib.hid hYA
  have HNX := Lib.hid hnx
  have HN := Lib.hid hn
  clear hA hys hYA hn hnx
  go_enter Try.func8, Try.ntmps8
  go_upto_if 12 with fail
  go_cut [0] from 13 (fun s wc => s = .slice A n c ∧ wc = w)
  case first =>
    by_cases h : 300 < xs.length
    · have h1 : (300 : Int) < xs.length := by omega
      have h2 : (300 : Int) ≤ c := by omega
      have hn := HNX.out
      rw [if_pos h] at hn
      go_wp2_with fail
      go_meet
      case rel => exact ⟨by rw [hn], rfl⟩
    · have h1 : (xs.length : Int) ≤ 300 := by omega
      have hn := HNX.out
      rw [if_neg h] at hn
      go_wp2_with fail
      go_meet
      case rel => exact ⟨by rw [hn], rfl⟩
  case rest =>
    obtain ⟨rfl, hw⟩ := hcut
    subst hw
    go_wp2_with (go_at_call 9; refine (tNew _).mono ?_; rintro e w1 ⟨rfl, rfl⟩)
    have P0 := Lib.hid (One.new_ (Below.refl wc.heap.size wc))
    go_loopw [20] (fun s20 wr => ∃ (k : Nat) (M : Nat → Prop), s20 = .int .i64 k ∧ k ≤ n ∧ One wc wr M wc.heap.size (insAll (ys.take k))) (fun s20 _ => n - (intOf s20).toNat)
    case atStart => exact ⟨0, _, rfl, Nat.zero_le _, P0.out⟩
    case round =>
      clear P0
      obtain ⟨k, M, rfl, hk, hp⟩ := hrel
      have HP := Lib.hid hp
      clear hp
      by_cases hlt : k < n
      · obtain ⟨x, hx⟩ : ∃ x, ys[k]? = some x := ⟨_, List.getElem?_eq_getElem (by rw [← HN.out]; exact hlt)⟩
        obtain ⟨bb, off, rfl, c0, c1⟩ := row_at (HA.out.below HP.out.below) hx
        have HK := Lib.hid (insAll_take hx)
        clear hx
        have P1 := Lib.hid (HP.out.up (below_al (o := .cells (tmC x) 27) (Below.refl _ _)))
        have HLN : Hid ((insAll (ys.take k)).length < 100000) := Lib.hid (by rw [insAll_len, List.length_take]; omega)
        go_wp2_with fail
        refine (tPush _ _ _ x _ P1.out.holds HLN.out).mono ?_
        rintro e w1 ⟨rfl, M', q1, q2, _, q4⟩
        have P2 := Lib.hid (P1.out.step q1 q2 q4)
        clear q1 q2 q4
        go_wp2_with fail
        go_roundw
        case rel => exact ⟨k + 1, M', by go_num, by omega, by rw [HK.out]; exact P2.out⟩
        case measure => simp [intOf]; omega
      · have hge : n ≤ k := by omega
        have hl0 : (insAll (ys.take k)).length = n := by rw [insAll_len, List.length_take, ← HN.out]; omega
        have HL0 := Lib.hid hl0
        clear hl0
        go_wp2_with fail
        go_loopw [6] (fun s6 wr => ∃ (r : List Tm) (j : Nat) (M : Nat → Prop), s6 = .int .i64 j ∧ j = r.length ∧ j ≤ n ∧ One wc wr M wc.heap.size r) (fun s6 _ => (intOf s6).toNat)
        case atStart => exact ⟨_, n, M, rfl, HL0.out.symm, Nat.le_refl _, HP.out⟩
        case round =>
          clear HP HL0 hge hk
          obtain ⟨r, j, M, rfl, hj, hjn, hp⟩ := hrel
          have HP := Lib.hid hp
          clear hp
          have HJ := Lib.hid hj
          by_cases h0 : j = 0
          · subst h0
            clear hj
            go_wp2_with first
              | (go_at_call 9
                 refine (tNew _).mono ?_
                 rintro e w9 ⟨rfl, rfl⟩
                 have O := Lib.hid (One.new_ (w0 := wc) HP.out.below))
              | (go_at_call 18
                 refine (tAll _ _ [] _ O.out.holds (by simp)).mono ?_
                 rintro e w10 ⟨v10, rfl, o10, hb10⟩
                 obtain ⟨A10, c10, rfl, _⟩ := own_to_row o10
                 have HB := Lib.hid (below_next O.out.below hb10)
                 clear o10 hb10)
            go_ret
            exact ⟨rfl, HB.out⟩
          · obtain ⟨x, r', rfl⟩ : ∃ x r', r = x :: r' := List.exists_cons_of_ne_nil (fun e => h0 (by rw [hj, e]; rfl))
            obtain ⟨m, hm⟩ : ∃ m, m = r'.length := ⟨_, rfl⟩
            obtain rfl : j = m + 1 := by rw [hj, hm]; rfl
            have HMR := Lib.hid hm
            clear hj hm h0
            have hmn : m + 1 ≤ 300 := by omega
            go_wp2_with fail
            refine (tAll M _ (x :: r') _ HP.out.holds (by have := HJ.out; omega)).mono ?_
            rintro e w1 ⟨v1, rfl, o1, hb1⟩
            have P1 := Lib.hid (HP.out.up hb1)
            have O1 := Lib.hid (Beside.mk (ms := x :: r') (M1 := M) (M2 := M) o1 fun k hk => by
              have := (own_lt o1 k hk).1
              exact ⟨fun hm => by have := HP.out.holds.lt k hm; omega, fun hm => by have := HP.out.holds.lt k hm; omega⟩)
            obtain ⟨q, cp, rfl, hjc⟩ : ∃ q cp, v1 = .slice (some ⟨q, 0, none⟩) (m + 1) cp ∧ m + 1 ≤ cp := by
              rw [← HJ.out] at o1
              obtain ⟨_, ⟨_, e⟩ | ⟨g, cap, cur, e, _, _, hn, _⟩⟩ := o1
              · omega
              · exact ⟨g, cap, e, hn⟩
            clear hb1 o1
            go_wp2_with fail
            refine (tPop M _ (x :: r') _ P1.out.holds (by have := HJ.out; omega)).mono ?_
            intro e w2 h2
            obtain ⟨rfl, q1, q2⟩ := pop_one h2
            have P2 := Lib.hid ((P1.out.step q1 q2 same_or).up (below_al (o := .cells (tmC x) 27) (Below.refl _ _)))
            have O2 := Lib.hid ((O1.out.mine1 q2).up (below_al (o := .cells (tmC x) 27) (Below.refl _ _)))
            have LX := Lib.hid (Lies.new w2 (tmC x) 27)
            obtain ⟨A5, c5, e5, hrow⟩ := O2.out.row
            rw [← HJ.out] at e5
            cases e5
            have HR := Lib.hid (row_tail (c := cp) hrow (fun e => List.eq_nil_of_length_eq_zero (by rw [← HMR.out]; omega)))
            obtain ⟨_, _, ee, t0, t1⟩ := row_at hrow (k := 0) (x := x) rfl
            cases ee
            rw [Nat.zero_mul] at t0 t1
            have b0 := LX.out.cell (j := 0) rfl
            have b1 := LX.out.cell (j := 1) rfl
            clear q1 q2 h2 hrow
            go_wp2_with fail
            have HLK : Hid (∀ (W : World) (A6 : Option Addr) (c6 : Nat), Row W A6 (tc r') → Row W (if cp = 1 then some ⟨q, 0, none⟩ else some ⟨q, 2, none⟩) (tc r') → Calls Try.prog 14 #[.slice A6 m c6, .slice (if cp = 1 then some ⟨q, 0, none⟩ else some ⟨q, 2, none⟩) m (cp - 1)] W (TellsB true W)) :=
              Lib.hid fun W A6 c6 h1 h2 => by rw [HMR.out]; exact rfLike r' (by rw [← HMR.out]; omega) _ _ _ _ W h1 h2
            have HAL : Hid (∀ (W : World), LookAt wc M wc.heap.size r' (if cp = 1 then some ⟨q, 0, none⟩ else some ⟨q, 2, none⟩) W → Calls Try.prog 18 #[.pointer (some ⟨wc.heap.size, 0, none⟩)] W (fun e W' => ∃ A6 c6, e = .returned (.slice A6 m c6) ∧ Row W' A6 (tc r') ∧ Below W.heap.size W W')) :=
              Lib.hid fun W hW => (tAll M _ r' _ hW.one.holds (by rw [← HMR.out]; omega)).mono fun e W' ⟨v, e1, o, hb⟩ => by
                obtain ⟨A6, c6, e2, _, _, h6, _⟩ := own_to_row o
                exact ⟨A6, c6, by rw [e1, e2, ← HMR.out], h6, hb⟩
            have HS0 : Hid (LookAt wc M wc.heap.size r' (if cp = 1 then some ⟨q, 0, none⟩ else some ⟨q, 2, none⟩) (w2.alloc (.cells (tmC x) 27)).drew) := Lib.hid ⟨P2.out.up (below_drewOf (Below.refl _ _)), HR.out⟩
            have hcp2 : (1 : Int) ≤ (m : Int) + 1 := by omega
            have hmc : (m : Int) + 1 ≤ (cp : Int) := by omega
            obtain ⟨W, hW⟩ : ∃ W, W = w2.alloc (.cells (tmC x) 27) := ⟨_, rfl⟩
            rw [← hW] at HS0 t0 t1 b0 b1
            have hW2 : w2.alloc (.cells #[.int .i64 x.at_, .string (kS x.name)] 27) = W := hW.symm
            rw [hW2]
            clear hW hW2 LX O2 P2 HR
            have S0 : W.drew.cell? ⟨w2.heap.size, 0, none⟩ = some (.int .i64 x.at_) ∧ W.drew.cell? ⟨w2.heap.size, 1, none⟩ = some (.string (kS x.name)) ∧ W.drew.cell? ⟨q, 0, none⟩ = some (.int .i64 x.at_) ∧ W.drew.cell? ⟨q, 0 + 1, none⟩ = some (.string (kS x.name)) ∧ LookAt wc M wc.heap.size r' (if cp = 1 then some ⟨q, 0, none⟩ else some ⟨q, 2, none⟩) W.drew := ⟨b0, b1, t0, t1, HS0.out⟩
            clear b0 b1 t0 t1
            by_cases hcp : cp = 1
            · simp only [if_pos hcp] at HLK HAL S0 HS0
              subst hcp
              have hm0 : m = 0 := by omega
              subst hm0
              go_region_held3 (fun w' => w'.cell? ⟨w2.heap.size, 0, none⟩ = some (.int .i64 x.at_) ∧ w'.cell? ⟨w2.heap.size, 1, none⟩ = some (.string (kS x.name)) ∧ w'.cell? ⟨q, 0, none⟩ = some (.int .i64 x.at_) ∧ w'.cell? ⟨q, 0 + 1, none⟩ = some (.string (kS x.name)) ∧ LookAt wc M wc.heap.size r' (some ⟨q, 0, none⟩) w') (first | assumption | exact look_keep hb5 (by assumption))
                (first
                  | (go_at_call 18; refine (HAL.out _ (look_of (by assumption))).mono ?_; rintro e w5 ⟨A6, c6, rfl, q5, hb5⟩; have HQ5 := Lib.hid q5; clear q5; dsimp only)
                  | (go_at_call 14; refine (HLK.out _ _ _ HQ5.out (look_of (by assumption)).row).mono ?_; rintro e w5 ⟨rfl, hb5⟩; dsimp only))
              rename_i hs
              have HE := Lib.hid (look_of hs).one
              clear hs HQ5 HLK HAL
              by_cases hbr : (1 : Int) < (n : Int) - 3
              · go_wp2_with first
                  | (go_at_call 9
                     refine (tNew _).mono ?_
                     rintro e w9 ⟨rfl, rfl⟩
                     have O := Lib.hid (One.new_ (w0 := wc) HE.out.below))
                  | (go_at_call 18
                     refine (tAll _ _ [] _ O.out.holds (by simp)).mono ?_
                     rintro e w10 ⟨v10, rfl, o10, hb10⟩
                     obtain ⟨A10, c10, rfl, _⟩ := own_to_row o10
                     have HB := Lib.hid (below_next O.out.below hb10)
                     clear o10 hb10)
                go_ret
                exact ⟨rfl, HB.out⟩
              · have hbr2 : (n : Int) - 3 ≤ 1 := by omega
                clear hbr
                go_wp2_with fail
                go_roundw
                case rel => exact ⟨r', 0, M, by go_num, HMR.out, Nat.zero_le _, HE.out⟩
                case measure => simp [intOf]
            · simp only [if_neg hcp] at HLK HAL S0 HS0
              go_region_held3 (fun w' => w'.cell? ⟨w2.heap.size, 0, none⟩ = some (.int .i64 x.at_) ∧ w'.cell? ⟨w2.heap.size, 1, none⟩ = some (.string (kS x.name)) ∧ w'.cell? ⟨q, 0, none⟩ = some (.int .i64 x.at_) ∧ w'.cell? ⟨q, 0 + 1, none⟩ = some (.string (kS x.name)) ∧ LookAt wc M wc.heap.size r' (some ⟨q, 2, none⟩) w') (first | assumption | exact look_keep hb5 (by assumption))
                (first
                  | (go_at_call 18; refine (HAL.out _ (look_of (by assumption))).mono ?_; rintro e w5 ⟨A6, c6, rfl, q5, hb5⟩; have HQ5 := Lib.hid q5; clear q5; dsimp only)
                  | (go_at_call 14; refine (HLK.out _ _ _ HQ5.out (look_of (by assumption)).row).mono ?_; rintro e w5 ⟨rfl, hb5⟩; dsimp only))
              rename_i hs
              have HE := Lib.hid (look_of hs).one
              clear hs HQ5 HLK HAL
              by_cases hbr : (m : Int) + 1 < (n : Int) - 3
              · go_wp2_with first
                  | (go_at_call 9
                     refine (tNew _).mono ?_
                     rintro e w9 ⟨rfl, rfl⟩
                     have O := Lib.hid (One.new_ (w0 := wc) HE.out.below))
                  | (go_at_call 18
                     refine (tAll _ _ [] _ O.out.holds (by simp)).mono ?_
                     rintro e w10 ⟨v10, rfl, o10, hb10⟩
                     obtain ⟨A10, c10, rfl, _⟩ := own_to_row o10
                     have HB := Lib.hid (below_next O.out.below hb10)
                     clear o10 hb10)
                go_ret
                exact ⟨rfl, HB.out⟩
              · have hbr2 : (n : Int) - 3 ≤ (m : Int) + 1 := by omega
                clear hbr
                go_wp2_with fail
                go_roundw
                case rel => exact ⟨r', m, M, by go_num, HMR.out, by omega, HE.out⟩
                case measure => simp [intOf]
theorem lawTimerLooks : Lift.Owes 8 [25] := by
  intro H enc W base args ds ps hval hA _ _
  obtain ⟨v0, d0, rfl, rfl, h0⟩ := trodAll_one hA
  obtain ⟨A, c, xs, rfl, hl, hc, hrow⟩ := openTimers (hval 0 _ v0 rfl rfl) h0
  exact walkTimerLooks xs A c W hrow hl hc
end Tim
theorem lawTimerLooks : Lift.Owes 8 [25] := Tim.lawTimerLooks
end Go.Proofs.Ytklgehfbfokdlaa
