/- The walk of the law PaneDue. -/
import Derived.Test.YtklpfifellghlaaPaneAdd
import Derived.Test.YtklpfifellghlaaPaneOpen
import Derived.Test.YtklpfifellghlaaLift
namespace Go.Proofs.Ytklpfifellghlaa
open Go.ChangeShapes Go.WideShapes Go.ChangeAt Go.RowKit
open Pan
set_option linter.unusedVariables false
namespace Pan
def few (l : List Pn) : List Pn := if 60 < l.length ∧ l.length < 2000 then l.take 60 else l
theorem few_row {w : World} {A : Option Addr} {xs : List Pn} (h : Row w A (pc xs)) : Row w A (pc (few xs)) := by
  unfold few; split
  · exact h.takeP 60
  · exact h
theorem few_len (xs : List Pn) : (few xs).length ≤ xs.length := by
  unfold few; split
  · rw [List.length_take]; omega
  · exact Nat.le_refl _
end Pan
theorem lwFewP (xs : List Pn) (A : Option Addr) (c : Nat) (w : World) (hl : xs.length ≤ c) (hc : c ≤ 9223372036854775807) : Calls Try.prog 10 #[.slice A xs.length c] w fun e w' => e = .returned (.slice A (few xs).length c) ∧ w = w' := by
  by_cases h : 60 < xs.length ∧ xs.length < 2000
  · have hf := Lib.hid (show (few xs).length = 60 from by unfold few; rw [if_pos h, List.length_take]; omega)
    obtain ⟨h1, h2⟩ := h
    have h3 : (60 : Int) ≤ c := by omega
    have h4 : (60 : Int) < xs.length := by omega
    have h5 : (xs.length : Int) < 2000 := by omega
    go_enter Try.func10, Try.ntmps10
    go_wp2_with fail
    go_ret
    exact ⟨by rw [hf.out]; rfl, rfl⟩
  · have hf := Lib.hid (show few xs = xs from by unfold few; rw [if_neg h])
    by_cases h1 : 60 < xs.length
    · have h4 : (60 : Int) < xs.length := by omega
      have h5 : decide ((xs.length : Int) < 2000) = false := decide_eq_false (by omega)
      clear h
      go_enter Try.func10, Try.ntmps10
      go_wp2_with fail
      go_ret
      exact ⟨by rw [hf.out]; rfl, rfl⟩
    · have h4 : decide ((60 : Int) < xs.length) = false := decide_eq_false (by omega)
      clear h h1
      go_enter Try.func10, Try.ntmps10
      go_wp2_with fail
      go_ret
      exact ⟨by rw [hf.out]; rfl, rfl⟩
theorem walkPaneDue_not (xs : List Pn) (A : Option Addr) (c : Nat) (m m2 : Int) (w : World) (hA : Row w A (pc xs)) (hl : xs.length ≤ c) (hc : c ≤ 9223372036854775807) (hr : right (few xs) = false) :
    Calls Try.prog 8 #[.slice A xs.length c, .int .i64 m, .int .i64 m2] w (TellsB true w) := by
  have HF := Lib.hid (lwFewP xs A c w hl hc)
  have hfl := few_len xs
  have HR := Lib.hid (fun w' (hb : Below w.heap.size w w') => paRight (few xs) A c w' ((few_row hA).below hb) (by omega))
  have HD := Lib.hid (paDue_not (few xs) A c m w (few_row hA) (by omega) hr)
  rw [hr] at HR
  obtain ⟨ys, hy⟩ : ∃ ys, ys = few xs := ⟨_, rfl⟩
  rw [← hy] at HF HR HD
  clear hy hA hr hfl
  go_enter Try.func8, Try.ntmps8
  go_wp2_with fail
  refine HF.out.mono ?_
  rintro e w0 ⟨rfl, rfl⟩
  go_wp2_with fail
  refine HD.out.mono ?_
  rintro e w1 ⟨A1, c1, A2, c2, rfl, _, _, _, _, _, _, hb1⟩
  have HB1 := Lib.hid hb1
  clear hb1
  go_wp2_with fail
  refine (HR.out _ HB1.out).mono ?_
  rintro e w2 ⟨rfl, hb2⟩
  have HB2 := Lib.hid (below_next HB1.out hb2)
  clear hb2
  go_wp2_with fail
  refine (lawAlive _).mono ?_
  rintro e w3 ⟨rfl, hb3⟩
  have HB3 := Lib.hid (below_next HB2.out hb3)
  clear hb3
  go_wp2_with fail
  go_ret
  exact ⟨rfl, HB3.out⟩
/-- What is due later: its beginning. -/
def DueLater (us : List Pn) (w : World) (e : Ending) (w' : World) : Prop :=
  ∃ n A c A2 n2 c2, e = .returned (.tuple #[.slice A n c, .slice A2 n2 c2]) ∧ us.length ≤ n ∧ n ≤ c ∧ c ≤ maxLen ∧ Row w' A (pc us) ∧ Below w.heap.size w w'
set_option maxRecDepth 100000 in
set_option maxHeartbeats 4000000 in
theorem walkPaneDue_ok (xs : List Pn) (A : Option Addr) (c : Nat) (m m2 : Int) (w : World) (hA : Row w A (pc xs)) (hl : xs.length ≤ c) (hc : c ≤ 9223372036854775807) (hr : right (few xs) = true) :
    Calls Try.prog 8 #[.slice A xs.length c, .int .i64 m, .int .i64 m2] w (TellsB true w) := by
  have HF := Lib.hid (lwFewP xs A c w hl hc)
  have hfl := few_len xs
  have HR := Lib.hid (fun w' (hb : Below w.heap.size w w') => paRight (few xs) A c w' ((few_row hA).below hb) (by omega))
  have HD := Lib.hid (fun m w' (hb : Below w.heap.size w w') => paDue (few xs) A c m w' ((few_row hA).below hb) (by omega) hc hr)
  obtain ⟨h20, _, ho⟩ := (right_iff _).1 hr
  have HROW := Lib.hid (few_row hA)
  rw [hr] at HR
  obtain ⟨ys, hy⟩ : ∃ ys, ys = few xs := ⟨_, rfl⟩
  rw [← hy] at HF HR HD ho h20 HROW hfl
  have HL := Lib.hid (fun A A' c c' w' => paLike ys (by omega) A A' c c' w')
  have HSUM := Lib.hid (due_rest m ys ho)
  obtain ⟨us, ha⟩ : ∃ us, us = Pan.due m ys := ⟨_, rfl⟩
  obtain ⟨zs, hb⟩ : ∃ zs, zs = Pan.rest m ys := ⟨_, rfl⟩
  have HD1 := Lib.hid (HD.out m)
  have HAS : Hid (∀ x ∈ us, x.p.hi ≤ m) := Lib.hid fun x hx => by rw [ha] at hx; simpa using (List.mem_filter.1 hx).2
  have HBS : Hid (∀ x ∈ zs, m < x.p.hi) := Lib.hid fun x hx => by rw [hb] at hx; simpa using (List.mem_filter.1 hx).2
  rw [← ha, ← hb] at HSUM HD1
  have hn : us.length + zs.length = ys.length := by rw [← List.length_append, HSUM.out]
  have HLAT : Hid (∀ M, m ≤ M → (Pan.due M ys).take us.length = us) := Lib.hid fun M hM => by rw [ha]; exact due_later hM ys ho
  have HLA := Lib.hid (fun A A' c c' w' => paLike us (by omega) A A' c c' w')
  have HDX : Hid (∀ M w', m ≤ M → Below w.heap.size w w' → Calls Try.prog 17 #[.slice A ys.length c, .int .i64 M] w' (DueLater us w')) := Lib.hid fun M w' hM hb => (HD.out M w' hb).mono fun e w'' ⟨A1, c1, A2, c2, h1, h2, h3, h4, h5, h6, h7, h8⟩ => by
    have h9 := HLAT.out M hM
    have h10 := congrArg List.length h9
    rw [List.length_take] at h10
    exact ⟨_, A1, c1, A2, _, c2, h1, by omega, h2, h3, by rw [← h9]; exact h6.takeP _, h8⟩
  clear hy hA hr ho ha hb HD
  go_enter Try.func8, Try.ntmps8
  go_wp2_with fail
  refine HF.out.mono ?_
  rintro e w0 ⟨rfl, rfl⟩
  go_wp2_with fail
  refine (HD1.out _ (Below.refl _ _)).mono ?_
  rintro e w1 ⟨A1, c1, A2, c2, rfl, a1, a2, a3, a4, r1, r2, hb1⟩
  have HB1 := Lib.hid hb1
  have R1 := Lib.hid r1
  have R2 := Lib.hid r2
  clear hb1 r1 r2
  go_wp2_with fail
  refine (HR.out _ HB1.out).mono ?_
  rintro e w2 ⟨rfl, hb2⟩
  have HB2 := Lib.hid (below_next HB1.out hb2)
  have R1 := Lib.hid (R1.out.below hb2)
  have R2 := Lib.hid (R2.out.below hb2)
  clear hb2
  go_wp2_with (at_builtin; refine hold_mk ?_)
  refine hold_out ?_
  have BT : Built w2 (w2.alloc (.cells #[] 52)) (.slice (some ⟨w2.heap.size, 0, none⟩) 0 0) [] := ⟨own_new (Nat.le_refl _), below_al (Below.refl _ _)⟩
  refine wpPush rfl _ _ rfl _ [] rfl BT A1 us.length c1 us rfl (R1.out.below BT.below) rfl (by simp; omega) ?_
  intro v3 w3 bt3 _ _
  clear BT
  have BT3 := Lib.hid bt3
  clear bt3
  go_wp2_with (at_builtin; refine hold_mk ?_)
  refine hold_out ?_
  refine wpPush rfl _ _ rfl _ _ rfl BT3.out A2 zs.length c2 zs rfl (R2.out.below BT3.out.below) rfl (by simp; omega) ?_
  intro v4 w4 bt4 _ _
  rw [List.nil_append, HSUM.out] at bt4
  obtain ⟨A5, c5, rfl, q1, q2, _, q3, _⟩ := own_form bt4.own (by omega)
  have HB4 := Lib.hid (below_next HB2.out bt4.below)
  have R1 := Lib.hid (R1.out.below bt4.below)
  have R2 := Lib.hid (R2.out.below bt4.below)
  have Q3 := Lib.hid q3
  clear bt4 q3
  go_wp2_with fail
  refine (HL.out _ _ _ _ _ Q3.out (HROW.out.below HB4.out)).mono ?_
  rintro e w5 ⟨rfl, hb5⟩
  have HB5 := Lib.hid (below_next HB4.out hb5)
  have R1 := Lib.hid (R1.out.below hb5)
  have R2 := Lib.hid (R2.out.below hb5)
  clear hb5
  go_wp2_with fail
  go_loopw [47] (fun i wr => ∃ k : Nat, i = .int .i64 k ∧ k ≤ us.length ∧ Below w5.heap.size w5 wr) (fun i _ => us.length - (intOf i).toNat)
  case atStart => exact ⟨0, rfl, Nat.zero_le _, Below.refl _ _⟩
  case round =>
    obtain ⟨k, rfl, hk, hb⟩ := hrel
    have HB := Lib.hid hb
    clear hb
    by_cases hlt : k < us.length
    · obtain ⟨x, hx⟩ : ∃ x, us[k]? = some x := ⟨_, List.getElem?_eq_getElem hlt⟩
      obtain ⟨b, off, rfl, c0, c1, c2, c3, c4, c5⟩ := (R1.out.below HB.out).pn hx
      have hd : decide (m < x.p.hi) = false := decide_eq_false (by have := HAS.out x (List.mem_of_getElem? hx); omega)
      clear hx
      go_wp2_with fail
      go_roundw
      case rel => exact ⟨k + 1, by go_num, by omega, below_next HB.out (below_al (Below.refl _ _))⟩
      case measure => simp [intOf]; omega
    · have HB6 := Lib.hid (below_next HB5.out HB.out)
      have R1 := Lib.hid (R1.out.below HB.out)
      have R2 := Lib.hid (R2.out.below HB.out)
      have hge : us.length ≤ k := by omega
      clear hlt hk
      go_wp2_with fail
      go_loopw [59] (fun i wr2 => ∃ k : Nat, i = .int .i64 k ∧ k ≤ zs.length ∧ Below wr.heap.size wr wr2) (fun i _ => zs.length - (intOf i).toNat)
      case atStart => exact ⟨0, rfl, Nat.zero_le _, Below.refl _ _⟩
      case round =>
        obtain ⟨k2, rfl, hk2, hb⟩ := hrel
        have HB := Lib.hid hb
        clear hb
        by_cases hlt2 : k2 < zs.length
        · obtain ⟨x, hx⟩ : ∃ x, zs[k2]? = some x := ⟨_, List.getElem?_eq_getElem hlt2⟩
          obtain ⟨b, off, rfl, c0, c1, c2, c3, c4, c5⟩ := (R2.out.below HB.out).pn hx
          have hd : decide (x.p.hi ≤ m) = false := decide_eq_false (by have := HBS.out x (List.mem_of_getElem? hx); omega)
          clear hx
          go_wp2_with fail
          go_roundw
          case rel => exact ⟨k2 + 1, by go_num, by omega, below_next HB.out (below_al (Below.refl _ _))⟩
          case measure => simp [intOf]; omega
        · have hge2 : zs.length ≤ k2 := by omega
          have HB7 := Lib.hid (below_next HB6.out HB.out)
          have R1 := Lib.hid (R1.out.below HB.out)
          clear hlt2 hk2
          go_wp2_with fail
          all_goals
            refine (HDX.out _ _ (by omega) HB7.out).mono ?_
            rintro e w6 ⟨n6, A6, c6, A7, n7, c7, rfl, q4, q5, q6, q7, hb6⟩
            have HB8 := Lib.hid (below_next HB7.out hb6)
            have R1 := Lib.hid (R1.out.below hb6)
            have R6 := Lib.hid q7
            clear hb6 q7
            go_wp2_with fail
            refine (lawAlive _).mono ?_
            rintro e w7 ⟨rfl, hb7⟩
            have HB9 := Lib.hid (below_next HB8.out hb7)
            have R1 := Lib.hid (R1.out.below hb7)
            have R6 := Lib.hid (R6.out.below hb7)
            have g1 : (us.length : Int) ≤ n6 := by omega
            have g2 : (us.length : Int) ≤ c6 := by omega
            clear hb7
            go_wp2_with fail
            refine (HLA.out _ _ _ _ _ R6.out R1.out).mono ?_
            rintro e w8 ⟨rfl, hb8⟩
            have HB10 := Lib.hid (below_next HB9.out hb8)
            clear hb8
            go_wp2_with fail
            go_ret
            exact ⟨rfl, HB10.out⟩
theorem lawPaneDue : Lift.Owes 8 [22, 2, 2] := by
  intro H enc W base args ds ps hval hA _ _
  obtain ⟨v0, v1, v2, d0, d1, d2, p0, p1, p2, rfl, rfl, rfl, h0, h1, h2⟩ := trodAll_three hA
  obtain ⟨A, c, xs, rfl, hl, hc, hrow⟩ := openPanes (hval 0 _ v0 rfl rfl) h0
  obtain ⟨a, rfl, rfl, rfl, _⟩ := open_int Try.underlying2 (hval 1 _ v1 rfl rfl) h1
  obtain ⟨b, rfl, rfl, rfl, _⟩ := open_int Try.underlying2 (hval 2 _ v2 rfl rfl) h2
  have hc' : c ≤ 9223372036854775807 := hc
  by_cases h : right (few xs) = true
  · exact walkPaneDue_ok xs A c a b W hrow hl hc' h
  · exact walkPaneDue_not xs A c a b W hrow hl hc' (by simpa using h)
end Go.Proofs.Ytklpfifellghlaa
