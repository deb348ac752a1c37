/- The walk of the law TimerPlays. -/
import Derived.Test.YtklgehfbfokdlaaLawsTimB
namespace Go.Proofs.Ytklgehfbfokdlaa
open Go.ChangeShapes Go.WideShapes Go.ChangeAt Go.RowKit
set_option linter.unusedVariables false
namespace Tim
theorem ac_0 {l : List (Int × Tm)} {i : Nat} {x : Int × Tm} (h : l[i]? = some x) : (ac l)[i * 3]? = some (.int .i64 x.1) := flat_get aL aL_len (j := 0) h (by omega)
theorem ac_1 {l : List (Int × Tm)} {i : Nat} {x : Int × Tm} (h : l[i]? = some x) : (ac l)[i * 3 + 1]? = some (.int .i64 x.2.at_) := flat_get aL aL_len (j := 1) h (by omega)
theorem ac_2 {l : List (Int × Tm)} {i : Nat} {x : Int × Tm} (h : l[i]? = some x) : (ac l)[i * 3 + 2]? = some (.string (kS x.2.name)) := flat_get aL aL_len (j := 2) h (by omega)
/-- The cells of an act. -/
structure ActAt (w : World) (b o : Nat) (x : Int × Tm) : Prop where
  c0 : w.cell? ⟨b, o, none⟩ = some (.int .i64 x.1)
  c1 : w.cell? ⟨b, o + 1, none⟩ = some (.int .i64 x.2.at_)
  c2 : w.cell? ⟨b, o + 2, none⟩ = some (.string (kS x.2.name))
theorem row_act {w : World} {A : Option Addr} {d : List (Int × Tm)} (h : Row w A (ac d)) {k : Nat} {x : Int × Tm} (hk : d[k]? = some x) : ∃ b off, A = some ⟨b, off, none⟩ ∧ ActAt w b (off + k * 3) x := by
  rcases h with h | ⟨b, off, rfl, h⟩
  · have := ac_0 hk
    rw [h] at this; simp at this
  · exact ⟨b, off, rfl, h _ _ (ac_0 hk), by rw [Nat.add_assoc]; exact h _ _ (ac_1 hk), by rw [Nat.add_assoc]; exact h _ _ (ac_2 hk)⟩
abbrev acC (x : Int × Tm) : Array Value := #[.int .i64 x.1, .int .i64 x.2.at_, .string (kS x.2.name)]
/-- The Heap and the row in order, side by side. -/
structure PlayAt (w0 : World) (hp : Nat) (M : Nat → Prop) (L : List Tm) (A : Option Addr) (c : Nat) (w : World) : Prop where
  one : One w0 w M hp L
  row : Row w A (tc L)
  off : Off M w A
  cap : L.length ≤ c
  max : c ≤ maxLen
theorem PlayAt.up {w0 w w' : World} {hp : Nat} {M : Nat → Prop} {L : List Tm} {A : Option Addr} {c : Nat} (H : PlayAt w0 hp M L A c w) (hb : Below w.heap.size w w') : PlayAt w0 hp M L A c w' :=
  ⟨H.one.up hb, H.row.below hb, H.off.step (fun k hk => .inl hk) hb.size, H.cap, H.max⟩
/-- A row of the call's own, new since the Heap's last turn. -/
theorem PlayAt.of_own {w0 w2 : World} {hp B : Nat} {M : Nat → Prop} {L : List Tm} {v : Value} (H : One w0 w2 M hp L) (ho : w2.ownsRow B 27 2 v L.length (tc L)) (hM : ∀ k, v.ownBlock = some k → ¬ M k) :
    ∃ A c, v = .slice A L.length c ∧ PlayAt w0 hp M L A c w2 := by
  obtain ⟨A, c, rfl, h1, h2, h3, h4⟩ := own_to_row ho
  exact ⟨A, c, rfl, H, h3, fun a ha => ⟨hM a.block (by rw [ha]; rfl), (h4 a ha).2⟩, h1, h2⟩
theorem pop_noneZ {M : Nat → Prop} {h : Nat} {w : World} {e : Ending} {w' : World} (H : PopPost (fun _ => true) M h [] w e w') : e = .returned (.tuple #[.agg #[.int .i64 0, .string ⟨#[]⟩], .bool false]) ∧ Holds M w' h [] ∧ Mine M w w' := pop_none H
theorem row_next {w : World} {q off c : Nat} {x : Tm} {r : List Tm} (h : Row w (some ⟨q, off, none⟩) (tc (x :: r))) (h0 : c = 1 → r = []) : Row w (if c = 1 then some ⟨q, off, none⟩ else some ⟨q, off + 2, none⟩) (tc r) := by
  split
  · rw [h0 (by assumption)]; exact Row.nil
  · rcases h with h | ⟨b, o, e, h⟩
    · simp [tc, tL] at h
    · cases e
      refine .inr ⟨q, off + 2, rfl, fun j u hu => ?_⟩
      have := h (j + 2) u (by simpa [tc, tL] using hu)
      rw [show off + 2 + j = off + (j + 2) by omega]
      exact this
set_option maxRecDepth 100000 in
set_option maxHeartbeats 8000000 in
theorem walkTimerPlays (acts : List (Int × Tm)) (A : Option Addr) (c : Nat) (w : World) (hA : Row w A (ac acts)) (hl : acts.length ≤ c) (hc : c ≤ 9223372036854775807) :
    Calls Try.prog 3 #[.slice A acts.length c] w (TellsB true w) := by
  have he : ∀ (x : Tm) (w : World), (binOp .neq 27 (tmV x) (tmV x)).run Try.prog w = .ok (.bool false) w := run_sameTm
  have HA := Lib.hid hA
  clear hA
  obtain ⟨n, hn⟩ : ∃ n, n = acts.length := ⟨_, rfl⟩
  rw [← hn] at hl ⊢
  have HN := Lib.hid hn
  clear hn
  have hnc : n ≤ 9223372036854775807 := by omega
  go_enter Try.func3, Try.ntmps3
  go_wp2_with (go_at_call 9; refine (tNew _).mono ?_; rintro e w1 ⟨rfl, rfl⟩)
  have P0 : Hid (PlayAt w w.heap.size (· = w.heap.size) [] none 0 (w.alloc (.cells #[.slice none 0 0] 50))) := Lib.hid ⟨One.new_ (Below.refl _ _), Row.nil, (fun a ha => by cases ha), Nat.le_refl _, (by simp [maxLen])⟩
  go_loopw [17, 4] (fun s17 s4 wr => ∃ (k : Nat) (M : Nat → Prop) (L : List Tm) (AL : Option Addr) (cL m : Nat), s17 = .int .i64 k ∧ s4 = .slice AL m cL ∧ m = L.length ∧ m ≤ k ∧ k ≤ n ∧ k ≤ 300 ∧ PlayAt w w.heap.size M L AL cL wr) (fun s17 _ _ => n - (intOf s17).toNat)
  case atStart => exact ⟨0, _, [], none, 0, 0, rfl, rfl, rfl, Nat.le_refl _, Nat.zero_le _, by omega, P0.out⟩
  case round =>
    clear P0
    obtain ⟨k, M, L, AL, cL, m, rfl, rfl, hm, hmk, hk, hk3, hp⟩ := hrel
    have HP := Lib.hid hp
    have HM := Lib.hid hm
    have hmc : m ≤ cL := by rw [hm]; exact hp.cap
    have hcm : cL ≤ 9223372036854775807 := hp.max
    clear hp hm
    by_cases hlt : k < n
    · by_cases hbr : k = 300
      · obtain ⟨x, hx⟩ : ∃ x, acts[k]? = some x := ⟨_, List.getElem?_eq_getElem (by rw [← HN.out]; exact hlt)⟩
        obtain ⟨bb, off, rfl, c0, c1, c2⟩ := row_act (HA.out.below HP.out.one.below) hx
        have h3 : (300 : Int) ≤ (k : Int) := by omega
        clear hbr
        have P1 := Lib.hid (HP.out.up (below_al (o := .cells (acC x) 29) (Below.refl _ _)))
        clear hx
        go_wp2_with fail
        refine (tAll M _ L _ P1.out.one.holds (by have := HM.out; omega)).mono ?_
        rintro e w1 ⟨v1, rfl, o1, hb1⟩
        have P2 := Lib.hid (P1.out.up hb1)
        obtain ⟨A1, c1', rfl, _, _, h1, _⟩ := own_to_row o1
        have H1 := Lib.hid h1
        have HLK := Lib.hid (rfLike L (by have := HM.out; omega) A1 AL c1' cL _ H1.out P2.out.row)
        rw [← HM.out] at HLK ⊢
        clear hb1 o1 h1
        go_wp2_with (go_at_call 14; refine HLK.out.mono ?_; rintro e w2 ⟨rfl, hb2⟩; have P3 := Lib.hid (P2.out.up hb2); clear hb2)
        go_ret
        exact ⟨rfl, P3.out.one.below⟩
      · have hk4 : k < 300 := by omega
        obtain ⟨x, hx⟩ : ∃ x, acts[k]? = some x := ⟨_, List.getElem?_eq_getElem (by rw [← HN.out]; exact hlt)⟩
        obtain ⟨bb, off, rfl, c0, c1, c2⟩ := row_act (HA.out.below HP.out.one.below) hx
        have P1 := Lib.hid (HP.out.up (below_al (o := .cells (acC x) 29) (Below.refl _ _)))
        have LX := Lib.hid (Lies.new wr (acC x) 29)
        have NX : Hid (¬ M wr.heap.size) := Lib.hid fun hm => by have := HP.out.one.holds.lt _ hm; omega
        clear hx
        by_cases h0 : x.1 = 0
        · have e0 : (x.1 == 0) = true := eq_b h0
          clear h0
          go_wp2_with fail
          refine (tPush M _ L x.2 _ P1.out.one.holds (by have := HM.out; omega)).mono ?_
          rintro e w1 ⟨rfl, M1, q1, q2, _, q4⟩
          have O2 := Lib.hid (P1.out.one.step q1 q2 q4)
          have R2 := Lib.hid (q2.rowOff P1.out.row P1.out.off)
          have L2 := q2.lies LX.out NX.out
          have d1 := L2.cell (j := 1) rfl
          have d2 := L2.cell (j := 2) rfl
          have HW := Lib.hid (rfWith x.2 L AL cL w1 R2.out (by have := HM.out; omega))
          rw [← HM.out] at HW
          clear q1 q2 q4 L2
          go_wp2_with fail
          refine HW.out.mono ?_
          rintro e w2 ⟨v2, rfl, o2, hb2⟩
          obtain ⟨A2, c2', rfl, hp3⟩ := PlayAt.of_own (O2.out.up hb2) o2 fun k hk hm => by have := O2.out.holds.lt k hm; have := (own_lt o2 k hk).1; omega
          have P3 := Lib.hid hp3
          clear o2 hb2 hp3 d1 d2
          go_wp2_with fail
          obtain ⟨m', hm'⟩ : ∃ m', m' = (ins x.2 L).length := ⟨_, rfl⟩
          have HLEN := Lib.hid (tLen M1 w.heap.size (ins x.2 L) _ P3.out.one.holds)
          rw [← hm'] at HLEN ⊢
          have HM' := Lib.hid hm'
          have hmb : m' ≤ k + 1 := by rw [hm']; have := HM.out; rw [ins_len]; omega
          clear hm'
          refine HLEN.out.mono ?_
          rintro e w9 ⟨rfl, rfl⟩
          go_wp2_with fail
          go_roundw
          case rel => exact ⟨k + 1, M1, (ins x.2 L), _, _, m', by go_num, rfl, HM'.out, hmb, by omega, by omega, P3.out⟩
          case measure => simp [intOf]; omega
        · by_cases h1 : x.1 = 1
          · by_cases hL : L = []
            · have e0 : (x.1 == 0) = false := ne_b h0
              have e1 : (x.1 == 1) = true := eq_b h1
              clear h0 h1
              subst hL
              obtain rfl : m = 0 := HM.out
              have hz : ∀ w : World, (binOp .neq 27 (.agg #[.int .i64 0, .string ⟨#[]⟩]) (.agg #[.int .i64 0, .string ⟨#[]⟩])).run Try.prog w = .ok (.bool false) w := fun w => run_sameTm ⟨0, []⟩ w
              go_wp2_with fail
              refine (tPop M _ [] _ P1.out.one.holds (by simp)).mono ?_
              intro e w1 h1
              obtain ⟨rfl, q1, q2⟩ := pop_noneZ h1
              have P2 : Hid (PlayAt w w.heap.size M [] AL cL w1) := Lib.hid ⟨P1.out.one.step q1 q2 same_or, q2.rowOff P1.out.row P1.out.off, P1.out.off.step (fun k hk => .inl hk) q2.size, P1.out.cap, P1.out.max⟩
              have P3 := Lib.hid (P2.out.up (below_al (o := .cells #[.int .i64 0, .string ⟨#[]⟩] 27) (Below.refl _ _)))
              clear q1 q2 h1
              go_wp2_with fail
              have HLEN : Hid (Calls Try.prog 19 #[.pointer (some ⟨w.heap.size, 0, none⟩)] (w1.alloc (.cells #[.int .i64 0, .string ⟨#[]⟩] 27)) (SaysI 0 (w1.alloc (.cells #[.int .i64 0, .string ⟨#[]⟩] 27)))) := Lib.hid (tLen M w.heap.size ([] : List Tm) _ P3.out.one.holds)
              refine HLEN.out.mono ?_
              rintro e w9 ⟨rfl, rfl⟩
              go_wp2_with fail
              go_roundw
              case rel => exact ⟨k + 1, M, [], _, _, 0, by go_num, rfl, rfl, Nat.zero_le _, by omega, by omega, P3.out⟩
              case measure => simp [intOf]; omega
            · have e0 : (x.1 == 0) = false := ne_b h0
              have e1 : (x.1 == 1) = true := eq_b h1
              clear h0 h1
              obtain ⟨y, r, rfl⟩ := List.exists_cons_of_ne_nil hL
              clear hL
              obtain ⟨mm, hmm⟩ : ∃ mm, mm = r.length := ⟨_, rfl⟩
              obtain rfl : m = mm + 1 := by rw [HM.out, hmm]; rfl
              have HMM := Lib.hid hmm
              clear hmm
              have hm0 : ((mm : Int) + 1 == 0) = false := ne_b (by omega)
              have hmb0 : mm + 1 ≤ 300 := by omega
              go_wp2_with fail
              refine (tPop M _ (y :: r) _ P1.out.one.holds (by have := HM.out; omega)).mono ?_
              intro e w1 h1
              obtain ⟨rfl, q1, q2⟩ := pop_one h1
              have O2 := Lib.hid ((P1.out.one.step q1 q2 same_or).up (below_al (o := .cells (tmC y) 27) (Below.refl _ _)))
              have R2 := Lib.hid ((q2.rowOff P1.out.row P1.out.off).below (below_al (o := .cells (tmC y) 27) (Below.refl _ _)))
              have F2 : Hid (Off M (w1.alloc (.cells (tmC y) 27)) AL) := Lib.hid ((P1.out.off.step (fun k hk => .inl hk) q2.size).step (fun k hk => .inl hk) (by simp))
              obtain ⟨b, off2, rfl, t0, t1⟩ := row_at R2.out (k := 0) (x := y) rfl
              rw [Nat.zero_mul, Nat.add_zero] at t0 t1
              have RN := Lib.hid (row_next (c := cL) R2.out (fun e => List.eq_nil_of_length_eq_zero (by rw [← HMM.out]; omega)))
              have hcap : (1 : Int) ≤ (mm : Int) + 1 := by omega
              clear q1 q2 h1 R2
              have LT := Lib.hid (Lies.new w1 (tmC y) 27)
              have hbl := (F2.out _ rfl).2
              by_cases hcp : cL = 1
              · subst hcp
                obtain rfl : mm = 0 := by omega
                rw [if_pos rfl] at RN
                go_wp2_with fail
                go_quiet (fail)
                have P3 : Hid (PlayAt w w.heap.size M r (some ⟨b, off2, none⟩) 0 ((w1.alloc (.cells (tmC y) 27)).drewN nq)) := Lib.hid ⟨O2.out.up (below_drewN (Below.refl _ _)), RN.out, F2.out, by rw [← HMM.out]; exact Nat.le_refl _, by simp [maxLen]⟩
                go_wp2_with fail
                have HLEN := Lib.hid (tLen M w.heap.size r _ P3.out.one.holds)
                rw [← HMM.out] at HLEN
                refine HLEN.out.mono ?_
                rintro e w9 ⟨rfl, rfl⟩
                go_wp2_with fail
                go_roundw
                case rel => exact ⟨k + 1, M, r, _, _, 0, by go_num, rfl, HMM.out, by omega, by omega, by omega, P3.out⟩
                case measure => simp [intOf]; omega
              · rw [if_neg hcp] at RN
                have hcb : cL - 1 ≤ maxLen := by unfold maxLen; omega
                have HCB := Lib.hid hcb
                clear hcb
                go_wp2_with fail
                go_quiet (fail)
                have P3 : Hid (PlayAt w w.heap.size M r (some ⟨b, off2 + 2, none⟩) (cL - 1) ((w1.alloc (.cells (tmC y) 27)).drewN nq)) := Lib.hid ⟨O2.out.up (below_drewN (Below.refl _ _)), RN.out, fun a ha => by cases ha; exact F2.out ⟨b, off2, none⟩ rfl, by rw [← HMM.out]; omega, HCB.out⟩
                go_wp2_with fail
                have HLEN := Lib.hid (tLen M w.heap.size r _ P3.out.one.holds)
                rw [← HMM.out] at HLEN
                refine HLEN.out.mono ?_
                rintro e w9 ⟨rfl, rfl⟩
                go_wp2_with fail
                go_roundw
                case rel => exact ⟨k + 1, M, r, _, _, mm, by go_num, rfl, HMM.out, by omega, by omega, by omega, P3.out⟩
                case measure => simp [intOf]; omega
          · by_cases h2 : x.1 = 2
            · have e0 : (x.1 == 0) = false := ne_b h0
              have e1 : (x.1 == 1) = false := ne_b h1
              have e2 : (x.1 == 2) = true := eq_b h2
              clear h0 h1 h2
              have HPT := Lib.hid (rfParts x.2.at_ L AL cL _ P1.out.row (by have := HM.out; omega))
              rw [← HM.out] at HPT
              go_wp2_with fail
              refine HPT.out.mono ?_
              rintro e w1 ⟨v1, v2, rfl, two⟩
              have P2 := Lib.hid (P1.out.up two.a.below)
              have d1 := (LX.out.below two.a.below).cell (j := 1) rfl
              have F1 : Hid (∀ k, v1.ownBlock = some k → ¬ M k) := Lib.hid fun k hk hm => by have := P1.out.one.holds.lt k hm; have := (two.a.far hk).1; omega
              have F2 : Hid (∀ k, v2.ownBlock = some k → ¬ M k) := Lib.hid fun k hk hm => by have := P1.out.one.holds.lt k hm; have := (two.b.far hk).1; omega
              obtain ⟨A1, c1', rfl, _, _, _, _⟩ := own_to_row two.a.own
              have TW := Lib.hid two
              clear two
              go_wp2_with fail
              refine (tDue M _ L x.2.at_ _ P2.out.one.holds (by have := HM.out; omega)).mono ?_
              rintro e w2 ⟨v3, rfl, o3, q1, q2⟩
              have O3 := Lib.hid (P2.out.one.step q1 q2 same_or)
              have R1 := Lib.hid (ownsRow_block TW.out.a.own fun k hk hlt => q2.block k hlt (F1.out k hk))
              have R2 := Lib.hid (ownsRow_block TW.out.b.own fun k hk hlt => q2.block k hlt (F2.out k hk))
              obtain ⟨A3, c3, rfl, _, _, h3, _⟩ := own_to_row o3
              obtain ⟨A4, c4, e4, _, _, h4, _⟩ := own_to_row R1.out
              cases e4
              have HLK := Lib.hid (rfLike (due x.2.at_ L) (by have := due_le x.2.at_ L; have := HM.out; omega) A3 A1 c3 c1' _ h3 h4)
              clear q1 q2 o3 h3 h4 d1
              go_wp2_with fail
              refine HLK.out.mono ?_
              rintro e w3 ⟨rfl, hb3⟩
              obtain ⟨A5, c5, rfl, hp3⟩ := PlayAt.of_own (O3.out.up hb3) (ownsRow_block R2.out fun k _ hlt => hb3.block k hlt) F2.out
              have P3 := Lib.hid hp3
              clear hb3 hp3
              go_wp2_with fail
              obtain ⟨m', hm'⟩ : ∃ m', m' = (rest x.2.at_ L).length := ⟨_, rfl⟩
              have HLEN := Lib.hid (tLen M w.heap.size (rest x.2.at_ L) _ P3.out.one.holds)
              rw [← hm'] at HLEN ⊢
              have HM' := Lib.hid hm'
              have hmb : m' ≤ k + 1 := by rw [hm']; have := HM.out; have := rest_le x.2.at_ L; omega
              clear hm'
              refine HLEN.out.mono ?_
              rintro e w9 ⟨rfl, rfl⟩
              go_wp2_with fail
              go_roundw
              case rel => exact ⟨k + 1, M, rest x.2.at_ L, _, _, m', by go_num, rfl, HM'.out, hmb, by omega, by omega, P3.out⟩
              case measure => simp [intOf]; omega
            · by_cases h3 : x.1 = 3
              · have e0 : (x.1 == 0) = false := ne_b h0
                have e1 : (x.1 == 1) = false := ne_b h1
                have e2 : (x.1 == 2) = false := ne_b h2
                have e3 : (x.1 == 3) = true := eq_b h3
                clear h0 h1 h2 h3
                obtain ⟨mo, hmo⟩ : ∃ mo, mo = (others x.2.name L).length := ⟨_, rfl⟩
                have hmol : mo ≤ m := by rw [hmo, HM.out]; exact others_le _ _
                have HPT := Lib.hid (rfWithout x.2.name L AL cL _ P1.out.row (by have := HM.out; omega))
                rw [← HM.out] at HPT
                go_wp2_with fail
                refine HPT.out.mono ?_
                rintro e w1 ⟨v1, rfl, o1, hb1⟩
                have P2 := Lib.hid (P1.out.up hb1)
                have d2 := (LX.out.below hb1).cell (j := 2) rfl
                have F1 : Hid (∀ k, v1.ownBlock = some k → ¬ M k) := Lib.hid fun k hk hm => by have := P1.out.one.holds.lt k hm; have := (own_lt o1 k hk).1; omega
                obtain ⟨A1, c1', rfl, _, _, _, _⟩ := own_to_row o1
                have OW := Lib.hid o1
                have HD := Lib.hid (tDrop M _ L x.2.name _ P2.out.one.holds (by have := HM.out; omega))
                rw [← hmo, ← HM.out] at HD
                have HMO := Lib.hid hmo
                rw [← hmo]
                clear o1 hb1 hmo
                go_wp2_with fail
                refine HD.out.mono ?_
                rintro e w2 ⟨rfl, q1, q2⟩
                have O3 := Lib.hid (P2.out.one.step q1 q2 same_or)
                obtain ⟨A5, c5, e5, hp3⟩ := PlayAt.of_own O3.out (ownsRow_block OW.out fun k hk hlt => q2.block k hlt (F1.out k hk)) F1.out
                cases e5
                have P3 := Lib.hid hp3
                clear q1 q2 hp3 d2
                go_wp2_with fail
                have HLEN := Lib.hid (tLen M w.heap.size (others x.2.name L) _ P3.out.one.holds)
                rw [← HMO.out] at HLEN
                refine HLEN.out.mono ?_
                rintro e w9 ⟨rfl, rfl⟩
                go_wp2_with fail
                go_roundw
                case rel => exact ⟨k + 1, M, others x.2.name L, _, _, mo, by go_num, rfl, HMO.out, by omega, by omega, by omega, P3.out⟩
                case measure => simp [intOf]; omega
              · have e0 : (x.1 == 0) = false := ne_b h0
                have e1 : (x.1 == 1) = false := ne_b h1
                have e2 : (x.1 == 2) = false := ne_b h2
                have e3 : (x.1 == 3) = false := ne_b h3
                clear h0 h1 h2 h3
                go_wp2_with fail
                refine (tAll M _ L _ P1.out.one.holds (by have := HM.out; omega)).mono ?_
                rintro e w1 ⟨v1, rfl, o1, hb1⟩
                have P2 := Lib.hid (P1.out.up hb1)
                obtain ⟨A1, c1', rfl, _, _, h1, _⟩ := own_to_row o1
                have H1 := Lib.hid h1
                have HLK := Lib.hid (rfLike L (by have := HM.out; omega) A1 AL c1' cL _ H1.out P2.out.row)
                rw [← HM.out] at HLK ⊢
                clear hb1 o1 h1
                go_wp2_with fail
                refine HLK.out.mono ?_
                rintro e w2 ⟨rfl, hb2⟩
                have P3 := Lib.hid (P2.out.up hb2)
                clear hb2
                go_wp2_with fail
                have HLEN := Lib.hid (tLen M w.heap.size L _ P3.out.one.holds)
                rw [← HM.out] at HLEN
                refine HLEN.out.mono ?_
                rintro e w9 ⟨rfl, rfl⟩
                go_wp2_with fail
                go_roundw
                case rel => exact ⟨k + 1, M, L, _, _, m, by go_num, rfl, HM.out, by omega, by omega, by omega, P3.out⟩
                case measure => simp [intOf]; omega
    · have hge : n ≤ k := by omega
      go_wp2_with fail
      refine (tAll M _ L _ HP.out.one.holds (by have := HM.out; omega)).mono ?_
      rintro e w1 ⟨v1, rfl, o1, hb1⟩
      have P2 := Lib.hid (HP.out.up hb1)
      obtain ⟨A1, c1', rfl, _, _, h1, _⟩ := own_to_row o1
      have H1 := Lib.hid h1
      have HLK := Lib.hid (rfLike L (by have := HM.out; omega) A1 AL c1' cL _ H1.out P2.out.row)
      rw [← HM.out] at HLK ⊢
      clear hb1 o1 h1
      go_wp2_with (go_at_call 14; refine HLK.out.mono ?_; rintro e w2 ⟨rfl, hb2⟩; have P3 := Lib.hid (P2.out.up hb2); clear hb2)
      go_ret
      exact ⟨rfl, P3.out.one.below⟩
theorem lawTimerPlays : Lift.Owes 3 [22] := by
  intro H enc W base args ds ps hval hA _ _
  obtain ⟨v0, d0, rfl, rfl, h0⟩ := trodAll_one hA
  obtain ⟨A, c, xs, rfl, hl, hc, hrow⟩ := openActs (hval 0 _ v0 rfl rfl) h0
  exact walkTimerPlays xs A c W hrow hl hc
end Tim
theorem lawTimerPlays : Lift.Owes 3 [22] := Tim.lawTimerPlays
end Go.Proofs.Ytklgehfbfokdlaa
