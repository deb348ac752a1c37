/- The code's Right: slices.ContainsFunc over the bodies. -/
import Derived.Test.YtbdlmokgmgpbfaaLinkCk
namespace Go.Proofs.Ytbdlmokgmgpbfaa
open Go.ChangeShapes Go.WideShapes Go.ChangeAt Go.RowKit
set_option linter.unusedVariables false
set_option maxRecDepth 8000
namespace Lk
open Gen (TellsB TellsI)
def anyLong (l : List ByteArray) : Bool := l.any (fun b => decide ((4096 : Int) < b.size))
theorem any_take {l : List ByteArray} {k : Nat} {b : ByteArray} (h : l[k]? = some b) : anyLong (l.take (k + 1)) = (anyLong (l.take k) || decide ((4096 : Int) < b.size)) := by
  unfold anyLong
  rw [List.take_add_one, h, List.any_append]
  simp
theorem any_mem {l : List ByteArray} {k : Nat} {b : ByteArray} (h : l[k]? = some b) (hb : (4096 : Int) < b.size) : anyLong l = true := by
  unfold anyLong
  exact List.any_eq_true.2 ⟨b, List.mem_of_getElem? h, decide_eq_true hb⟩
/-- A place, or none. -/
def AtI (b : Bool) (w : World) (e : Ending) (w' : World) : Prop := ∃ i : Int, e = .returned (.int .i64 i) ∧ (0 ≤ i ↔ b = true) ∧ w' = w
set_option maxRecDepth 100000 in
theorem ckIndexF (bs : List ByteArray) (n : Nat) (A : Option Addr) (c : Nat) (hn : n = bs.length) (hl : n ≤ 4611686018427387904) (w : World) (h : Row w A (bcs bs)) :
    Calls Try.prog 42 #[.slice A n c, .func (.func 24) #[] #[]] w (AtI (anyLong bs) w) := by
  have HR := Lib.hid h
  have HN := Lib.hid hn
  have HL := Lib.hid (fun s w => ckLong s w)
  clear h hn
  go_enter Try.func42, Try.ntmps42
  go_wp2_with fail
  go_loop [8] (fun i => ∃ k : Nat, i = .int .i64 k ∧ k ≤ n ∧ anyLong (bs.take k) = false) (fun i => n - (intOf i).toNat)
  case atStart => exact ⟨0, rfl, Nat.zero_le _, rfl⟩
  case round =>
    obtain ⟨k, rfl, hk, hany⟩ := hrel
    have HA := Lib.hid hany
    clear hany
    by_cases hlt : k < n
    · obtain ⟨b, hb⟩ : ∃ b, bs[k]? = some b := ⟨_, List.getElem?_eq_getElem (by rw [← HN.out]; exact hlt)⟩
      obtain ⟨q, off, rfl, d0⟩ := bcs_get HR.out hb
      have HX := Lib.hid hb
      have hw := wrapL (k := k) (by omega)
      clear hb
      by_cases h4 : (4096 : Int) < b.size
      · have HLB := Lib.hid (fun w => show Calls Try.prog 24 #[.string b] w (Lk.SaysB true w) from (decide_eq_true h4) ▸ HL.out b w)
        have HY := Lib.hid (any_mem HX.out h4)
        clear h4
        go_wp2_with fail
        refine (HLB.out _).mono ?_
        rintro e w1 ⟨rfl, rfl⟩
        go_wp2_with fail
        go_ret
        exact ⟨_, rfl, ⟨fun _ => HY.out, fun _ => by omega⟩, rfl⟩
      · have HLB := Lib.hid (fun w => show Calls Try.prog 24 #[.string b] w (Lk.SaysB false w) from (decide_eq_false h4) ▸ HL.out b w)
        have HY : Hid (anyLong (bs.take (k + 1)) = false) := Lib.hid (by rw [any_take HX.out, HA.out, decide_eq_false h4]; rfl)
        clear h4
        go_wp2_with fail
        refine (HLB.out _).mono ?_
        rintro e w1 ⟨rfl, rfl⟩
        go_wp2_with fail
        go_round
        case rel => exact ⟨k + 1, rfl, by omega, HY.out⟩
        case measure => simp [intOf]; omega
    · have hge : n ≤ k := by omega
      have HY : Hid (anyLong bs = false) := Lib.hid (by have := HA.out; rwa [List.take_of_length_le (by rw [← HN.out]; exact hge)] at this)
      go_wp2_with fail
      go_ret
      exact ⟨-1, rfl, by rw [HY.out]; simp, rfl⟩
set_option maxRecDepth 100000 in
theorem ckContains (bs : List ByteArray) (n : Nat) (A : Option Addr) (c : Nat) (hn : n = bs.length) (hl : n ≤ 4611686018427387904) (w : World) (h : Row w A (bcs bs)) :
    Calls Try.prog 31 #[.slice A n c, .func (.func 24) #[] #[]] w (SaysB (anyLong bs) w) := by
  have HI := Lib.hid (ckIndexF bs n A c hn hl w h)
  obtain ⟨b, hb⟩ : ∃ b, b = anyLong bs := ⟨_, rfl⟩
  rw [← hb] at HI ⊢
  clear hb h hn hl
  go_enter Try.func31, Try.ntmps31
  go_wp2_with fail
  refine HI.out.mono ?_
  rintro e w1 ⟨i, rfl, hi, rfl⟩
  cases b
  · have g : decide (0 ≤ i) = false := decide_eq_false fun h => by simpa using hi.1 h
    clear hi HI
    go_wp2_with fail
    go_ret
    exact ⟨rfl, rfl⟩
  · have g : decide (0 ≤ i) = true := decide_eq_true (hi.2 rfl)
    clear hi HI
    go_wp2_with fail
    go_ret
    exact ⟨rfl, rfl⟩
theorem any_iff (bs : List ByteArray) : anyLong bs = false ↔ ∀ b ∈ bs, b.size ≤ 4096 := by
  unfold anyLong
  rw [List.any_eq_false]
  constructor
  · intro h b hb
    have := h b hb
    simp only [decide_eq_true_eq] at this
    omega
  · intro h b hb
    have := h b hb
    simp only [decide_eq_true_eq]
    omega
/-- Which of the five parts of Right fails first. -/
theorem right_ways {ep ba ti : Int} {bs : List ByteArray} {n : Nat} {r : Bool} (hn : n = bs.length) (hr : r = rightS ⟨ep, ba, bs, ti⟩) :
    (isNo ep = false ∧ r = false) ∨ (isNo ep = true ∧ ¬ (n : Int) ≤ 8 ∧ r = false) ∨ (isNo ep = true ∧ (n : Int) ≤ 8 ∧ decide (0 ≤ ba ∧ ba + n ≤ 1073741824) = false ∧ r = false) ∨
      (isNo ep = true ∧ (n : Int) ≤ 8 ∧ decide (0 ≤ ba ∧ ba + n ≤ 1073741824) = true ∧ anyLong bs = true ∧ r = false) ∨
      (isNo ep = true ∧ (n : Int) ≤ 8 ∧ decide (0 ≤ ba ∧ ba + n ≤ 1073741824) = true ∧ anyLong bs = false ∧ timerOk n ti = r) := by
  have hiff := right_iff ⟨ep, ba, bs, ti⟩
  rw [← hr] at hiff
  simp only at hiff
  rw [← hn] at hiff
  cases h1 : isNo ep
  · left
    refine ⟨rfl, no_r hiff.1 fun h => ?_⟩
    rw [(isNo_iff ep).2 h.2.2.1] at h1
    cases h1
  · by_cases h2 : (n : Int) ≤ 8
    · by_cases h3 : 0 ≤ ba ∧ ba + (n : Int) ≤ 1073741824
      · cases h4 : anyLong bs
        · right; right; right; right
          refine ⟨rfl, h2, decide_eq_true h3, rfl, ?_⟩
          have g1 := (any_iff bs).1 h4
          have g2 := (isNo_iff ep).1 h1
          cases r
          · unfold timerOk
            refine decide_eq_false fun h => ?_
            have := hiff.2 ⟨g1, by omega, g2, h3, fun e => h.2.2.2 e, fun e => by have := h.2.2.1; have := h.1; have := h.2.1; constructor <;> omega⟩
            cases this
          · obtain ⟨_, _, _, _, k1, k2⟩ := hiff.1 rfl
            unfold timerOk
            refine decide_eq_true ?_
            by_cases e : n = 0
            · have := k1 e; refine ⟨by omega, by omega, by constructor <;> intro <;> assumption⟩
            · have := k2 (by omega); refine ⟨by omega, by omega, by constructor <;> intro <;> omega⟩
        · right; right; right; left
          refine ⟨rfl, h2, decide_eq_true h3, rfl, no_r hiff.1 fun h => ?_⟩
          rw [(any_iff bs).2 h.1] at h4
          cases h4
      · right; right; left
        exact ⟨rfl, h2, decide_eq_false h3, no_r hiff.1 fun h => h3 h.2.2.2.1⟩
    · right; left
      exact ⟨rfl, h2, no_r hiff.1 fun h => h2 (by omega)⟩
set_option maxRecDepth 100000 in
set_option maxHeartbeats 1000000 in
theorem ckRight (ep ba : Int) (bs : List ByteArray) (n : Nat) (ti : Int) (A : Option Addr) (c : Nat) (r : Bool) (hn : n = bs.length) (hr : r = rightS ⟨ep, ba, bs, ti⟩) (w : World) (h : Row w A (bcs bs)) (hl : n ≤ 4611686018427387904) :
    Calls Try.prog 12 #[.agg #[.int .i64 ep, .int .i64 ba, .slice A n c, .int .i64 ti]] w (TellsB r w) := by
  have hb0 := below_al (o := .cells #[.int .i64 ep, .int .i64 ba, .slice A n c, .int .i64 ti] 24) (Below.refl w.heap.size w)
  have HB := Lib.hid hb0
  have HR := Lib.hid (h.below hb0)
  have LS := Lib.hid (Lies.new w #[.int .i64 ep, .int .i64 ba, .slice A n c, .int .i64 ti] 24)
  have HE := Lib.hid (fun w => ckEpoch ep w)
  have HM := Lib.hid (fun w => ckNumbers ep ba ti n A c hl w)
  have HC := Lib.hid (fun w h => ckContains bs n A c hn hl w h)
  have HT := Lib.hid (fun w => ckTimer ep ba ti n A c w)
  have hway := right_ways hn hr
  clear h hn hr hb0 hl
  rcases hway with ⟨h1, rfl⟩ | ⟨h1, h2, rfl⟩ | ⟨h1, h2, h3, rfl⟩ | ⟨h1, h2, h3, h4, rfl⟩ | ⟨h1, h2, h3, h4, h5⟩
  · rw [h1] at HE
    clear h1 HM HC HT
    go_enter Try.func12, Try.ntmps12
    go_wp2_with fail
    refine (HE.out _).mono ?_
    rintro e1 w1 ⟨rfl, rfl⟩
    go_wp2_with fail
    go_ret
    exact ⟨rfl, HB.out⟩
  · rw [h1] at HE
    clear h1 HM HC HT
    go_enter Try.func12, Try.ntmps12
    go_wp2_with fail
    refine (HE.out _).mono ?_
    rintro e1 w1 ⟨rfl, rfl⟩
    go_wp2_with fail
    go_ret
    exact ⟨rfl, HB.out⟩
  all_goals (
    rw [h1] at HE
    rw [h3] at HM
    clear h1 h3
    go_enter Try.func12, Try.ntmps12
    go_wp2_with fail
    refine (HE.out _).mono ?_
    rintro e1 w1 ⟨rfl, rfl⟩
    go_wp2_with fail
    refine (HM.out _).mono ?_
    rintro e2 w2 ⟨rfl, hb2⟩
    have HB2 := Lib.hid (below_next HB.out hb2)
    have HR2 := Lib.hid (HR.out.below hb2)
    have LS2 := Lib.hid (LS.out.below hb2)
    clear hb2)
  · go_wp2_with fail
    go_ret
    exact ⟨rfl, HB2.out⟩
  · have x2 := LS2.out.cell (j := 2) rfl
    rw [h4] at HC
    clear h4
    go_wp2_with fail
    refine (HC.out _ HR2.out).mono ?_
    rintro e3 w3 ⟨rfl, rfl⟩
    go_wp2_with fail
    go_ret
    exact ⟨rfl, HB2.out⟩
  · have x0 := LS2.out.cell (j := 0) rfl
    have x1 := LS2.out.cell (j := 1) rfl
    have x2 := LS2.out.cell (j := 2) rfl
    have x3 := LS2.out.cell (j := 3) rfl
    rw [h4] at HC
    rw [h5] at HT
    clear h4 h5
    go_wp2_with fail
    refine (HC.out _ HR2.out).mono ?_
    rintro e3 w3 ⟨rfl, rfl⟩
    go_wp2_with fail
    refine (HT.out _).mono ?_
    rintro e4 w4 ⟨rfl, hb4⟩
    have HB4 := Lib.hid (below_next HB2.out hb4)
    clear hb4
    go_wp2_with fail
    go_ret
    exact ⟨by cases r <;> rfl, HB4.out⟩
end Lk
end Go.Proofs.Ytbdlmokgmgpbfaa
