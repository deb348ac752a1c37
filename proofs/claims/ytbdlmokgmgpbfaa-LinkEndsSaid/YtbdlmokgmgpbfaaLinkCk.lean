/- The code's checks: epochs, numbers, long bodies, the end of a sender, timers. -/
import Derived.Test.YtbdlmokgmgpbfaaLinkBld
import Derived.Test.YtbdlmokgmgpbfaaHold
namespace Go.Proofs.Ytbdlmokgmgpbfaa
open Go.ChangeShapes Go.WideShapes Go.ChangeAt Go.RowKit
set_option linter.unusedVariables false
set_option maxRecDepth 8000
namespace Lk
open Gen (TellsB TellsI)
def isNo (n : Int) : Bool := decide (0 ≤ n ∧ n ≤ 1073741824)
theorem isNo_yes {n : Int} (h1 : 0 ≤ n) (h2 : n ≤ 1073741824) : isNo n = true := decide_eq_true ⟨h1, h2⟩
theorem isNo_no {n : Int} (h : ¬ (0 ≤ n ∧ n ≤ 1073741824)) : isNo n = false := decide_eq_false h
theorem isNo_iff (n : Int) : isNo n = true ↔ 0 ≤ n ∧ n ≤ 1073741824 := by unfold isNo; exact decide_eq_true_iff
theorem ckEpoch (n : Int) (w : World) : Calls Try.prog 29 #[.int .i64 n] w (SaysB (isNo n) w) := by
  obtain ⟨b, hb⟩ : ∃ b, b = isNo n := ⟨_, rfl⟩
  have hway : (0 ≤ n ∧ n ≤ 1073741824 ∧ b = true) ∨ (0 ≤ n ∧ ¬ n ≤ 1073741824 ∧ b = false) ∨ (¬ 0 ≤ n ∧ b = false) := by
    by_cases h1 : 0 ≤ n
    · by_cases h2 : n ≤ 1073741824
      · left; exact ⟨h1, h2, hb.trans (isNo_yes h1 h2)⟩
      · right; left; exact ⟨h1, h2, hb.trans (isNo_no (fun h => h2 h.2))⟩
    · right; right; exact ⟨h1, hb.trans (isNo_no (fun h => h1 h.1))⟩
  rw [← hb]
  clear hb
  rcases hway with ⟨h1, h2, rfl⟩ | ⟨h1, h2, rfl⟩ | ⟨h1, rfl⟩
  all_goals (
    go_enter Try.func29, Try.ntmps29
    go_wp2_with fail
    go_ret
    exact ⟨rfl, rfl⟩)
theorem ckNumber (n : Int) (w : World) : Calls Try.prog 41 #[.int .i64 n] w (SaysB (isNo n) w) := by
  obtain ⟨b, hb⟩ : ∃ b, b = isNo n := ⟨_, rfl⟩
  have hway : (0 ≤ n ∧ n ≤ 1073741824 ∧ b = true) ∨ (0 ≤ n ∧ ¬ n ≤ 1073741824 ∧ b = false) ∨ (¬ 0 ≤ n ∧ b = false) := by
    by_cases h1 : 0 ≤ n
    · by_cases h2 : n ≤ 1073741824
      · left; exact ⟨h1, h2, hb.trans (isNo_yes h1 h2)⟩
      · right; left; exact ⟨h1, h2, hb.trans (isNo_no (fun h => h2 h.2))⟩
    · right; right; exact ⟨h1, hb.trans (isNo_no (fun h => h1 h.1))⟩
  rw [← hb]
  clear hb
  rcases hway with ⟨h1, h2, rfl⟩ | ⟨h1, h2, rfl⟩ | ⟨h1, rfl⟩
  all_goals (
    go_enter Try.func41, Try.ntmps41
    go_wp2_with fail
    go_ret
    exact ⟨rfl, rfl⟩)
theorem ckLong (s : ByteArray) (w : World) : Calls Try.prog 24 #[.string s] w (SaysB (decide ((4096 : Int) < s.size)) w) := by
  go_enter Try.func24, Try.ntmps24
  go_wp2_with fail
  go_ret
  exact ⟨rfl, rfl⟩
/-- A sender's end. -/
theorem ckEnd (ep ba ti : Int) (n : Nat) (A : Option Addr) (c : Nat) (e : Int) (he : IntKind.i64.wrap (ba + (n : Int)) = e) (w : World) :
    Calls Try.prog 25 #[.agg #[.int .i64 ep, .int .i64 ba, .slice A n c, .int .i64 ti]] w (TellsI e w) := by
  go_enter Try.func25, Try.ntmps25
  go_wp2_with fail
  go_ret
  exact ⟨rfl, below_al (Below.refl _ _)⟩
set_option maxRecDepth 100000 in
theorem ckNumbers (ep ba ti : Int) (n : Nat) (A : Option Addr) (c : Nat) (hn : n ≤ 4611686018427387904) (w : World) :
    Calls Try.prog 30 #[.agg #[.int .i64 ep, .int .i64 ba, .slice A n c, .int .i64 ti]] w (TellsB (decide (0 ≤ ba ∧ ba + n ≤ 1073741824)) w) := by
  obtain ⟨b, hb⟩ : ∃ b, b = decide (0 ≤ ba ∧ ba + n ≤ 1073741824) := ⟨_, rfl⟩
  rw [← hb]
  have HB := Lib.hid (below_al (o := .cells #[.int .i64 ep, .int .i64 ba, .slice A n c, .int .i64 ti] 24) (Below.refl w.heap.size w))
  by_cases h1 : 0 ≤ ba ∧ ba ≤ 1073741824
  · have H1 := Lib.hid (fun w => show Calls Try.prog 41 #[.int .i64 ba] w (Lk.SaysB true w) from (isNo_yes h1.1 h1.2) ▸ ckNumber ba w)
    have HE := Lib.hid (fun w => ckEnd ep ba ti n A c (ba + n) (wrap64L (by omega) (by omega)) w)
    have H2 := Lib.hid (fun w => show Calls Try.prog 41 #[.int .i64 (ba + n)] w (Lk.SaysB b w) from (show isNo (ba + n) = b by
      rw [hb]
      by_cases h2 : ba + n ≤ 1073741824
      · rw [isNo_yes (by omega) h2, decide_eq_true ⟨h1.1, h2⟩]
      · rw [isNo_no (fun h => h2 h.2), decide_eq_false (fun h => h2 h.2)]) ▸ ckNumber (ba + n) w)
    obtain ⟨e, he⟩ : ∃ e, e = ba + (n : Int) := ⟨_, rfl⟩
    rw [← he] at HE H2
    clear h1 hb hn he
    go_enter Try.func30, Try.ntmps30
    go_wp2_with fail
    refine (H1.out _).mono ?_
    rintro e1 w1 ⟨rfl, rfl⟩
    go_wp2_with fail
    refine (HE.out _).mono ?_
    rintro e2 w2 ⟨rfl, hb2⟩
    have HB2 := Lib.hid (below_next HB.out hb2)
    clear hb2
    go_wp2_with fail
    refine (H2.out _).mono ?_
    rintro e3 w3 ⟨rfl, rfl⟩
    go_wp2_with fail
    go_ret
    exact ⟨by cases b <;> rfl, HB2.out⟩
  · have H1 := Lib.hid (fun w => show Calls Try.prog 41 #[.int .i64 ba] w (Lk.SaysB false w) from (isNo_no h1) ▸ ckNumber ba w)
    have e0 : b = false := hb.trans (decide_eq_false (by omega))
    subst e0
    clear h1 hb hn
    go_enter Try.func30, Try.ntmps30
    go_wp2_with fail
    refine (H1.out _).mono ?_
    rintro e1 w1 ⟨rfl, rfl⟩
    go_wp2_with fail
    go_ret
    exact ⟨rfl, HB.out⟩
def timerOk (n : Nat) (ti : Int) : Bool := decide (0 ≤ ti ∧ ti ≤ 4 ∧ (ti = 0 ↔ n = 0))
theorem ckTimer (ep ba ti : Int) (n : Nat) (A : Option Addr) (c : Nat) (w : World) :
    Calls Try.prog 32 #[.agg #[.int .i64 ep, .int .i64 ba, .slice A n c, .int .i64 ti]] w (TellsB (timerOk n ti) w) := by
  obtain ⟨b, hb⟩ : ∃ b, b = timerOk n ti := ⟨_, rfl⟩
  rw [← hb]
  have HB := Lib.hid (below_al (o := .cells #[.int .i64 ep, .int .i64 ba, .slice A n c, .int .i64 ti] 24) (Below.refl w.heap.size w))
  have hway : (¬ 0 ≤ ti ∧ b = false) ∨ (0 ≤ ti ∧ ¬ ti ≤ 4 ∧ b = false) ∨ (0 ≤ ti ∧ ti ≤ 4 ∧ (ti == 0) = true ∧ ((n : Int) == 0) = true ∧ b = true) ∨ (0 ≤ ti ∧ ti ≤ 4 ∧ (ti == 0) = true ∧ ((n : Int) == 0) = false ∧ b = false) ∨
      (0 ≤ ti ∧ ti ≤ 4 ∧ (ti == 0) = false ∧ ((n : Int) == 0) = true ∧ b = false) ∨ (0 ≤ ti ∧ ti ≤ 4 ∧ (ti == 0) = false ∧ ((n : Int) == 0) = false ∧ b = true) := by
    unfold timerOk at hb
    by_cases h1 : 0 ≤ ti
    · by_cases h2 : ti ≤ 4
      · by_cases h3 : ti = 0
        · by_cases h4 : n = 0
          · right; right; left; exact ⟨h1, h2, eq_b h3, eq_b (by omega), hb.trans (decide_eq_true ⟨h1, h2, by simp [h3, h4]⟩)⟩
          · right; right; right; left; exact ⟨h1, h2, eq_b h3, ne_b (by omega), hb.trans (decide_eq_false (by rintro ⟨_, _, h⟩; exact h4 (h.1 h3)))⟩
        · by_cases h4 : n = 0
          · right; right; right; right; left; exact ⟨h1, h2, ne_b h3, eq_b (by omega), hb.trans (decide_eq_false (by rintro ⟨_, _, h⟩; exact h3 (h.2 h4)))⟩
          · right; right; right; right; right; exact ⟨h1, h2, ne_b h3, ne_b (by omega), hb.trans (decide_eq_true ⟨h1, h2, by simp [h3, h4]⟩)⟩
      · right; left; exact ⟨h1, h2, hb.trans (decide_eq_false (by omega))⟩
    · left; exact ⟨h1, hb.trans (decide_eq_false (by omega))⟩
  clear hb
  rcases hway with ⟨h1, rfl⟩ | ⟨h1, h2, rfl⟩ | ⟨h1, h2, h3, h4, rfl⟩ | ⟨h1, h2, h3, h4, rfl⟩ | ⟨h1, h2, h3, h4, rfl⟩ | ⟨h1, h2, h3, h4, rfl⟩
  all_goals (
    go_enter Try.func32, Try.ntmps32
    go_wp2_with fail
    go_ret
    exact ⟨rfl, HB.out⟩)
theorem ckReceiver (ep want : Int) (w : World) : Calls Try.prog 36 #[.agg #[.int .i64 ep, .int .i64 want]] w (TellsB (isNo ep && isNo want) w) := by
  have HB := Lib.hid (below_al (o := .cells #[.int .i64 ep, .int .i64 want] 41) (Below.refl w.heap.size w))
  have H1 := Lib.hid (fun w => ckEpoch ep w)
  have H2 := Lib.hid (fun w => ckNumber want w)
  obtain ⟨b1, hb1⟩ : ∃ b, b = isNo ep := ⟨_, rfl⟩
  obtain ⟨b2, hb2⟩ : ∃ b, b = isNo want := ⟨_, rfl⟩
  rw [← hb1] at H1 ⊢
  rw [← hb2] at H2 ⊢
  clear hb1 hb2
  cases b1
  · go_enter Try.func36, Try.ntmps36
    go_wp2_with fail
    refine (H1.out _).mono ?_
    rintro e1 w1 ⟨rfl, rfl⟩
    go_wp2_with fail
    go_ret
    exact ⟨rfl, HB.out⟩
  · go_enter Try.func36, Try.ntmps36
    go_wp2_with fail
    refine (H1.out _).mono ?_
    rintro e1 w1 ⟨rfl, rfl⟩
    go_wp2_with fail
    refine (H2.out _).mono ?_
    rintro e1 w1 ⟨rfl, rfl⟩
    go_wp2_with fail
    go_ret
    exact ⟨by cases b2 <;> rfl, HB.out⟩
theorem ckPacket (ep no : Int) (body : ByteArray) (w : World) : Calls Try.prog 37 #[.agg #[.int .i64 ep, .int .i64 no, .string body]] w (TellsB (isNo no && decide (body.size ≤ 4096)) w) := by
  have HB := Lib.hid (below_al (o := .cells #[.int .i64 ep, .int .i64 no, .string body] 26) (Below.refl w.heap.size w))
  have H1 := Lib.hid (fun w => ckNumber no w)
  obtain ⟨b1, hb1⟩ : ∃ b, b = isNo no := ⟨_, rfl⟩
  obtain ⟨b2, hb2⟩ : ∃ b, b = decide ((4096 : Int) < body.size) := ⟨_, rfl⟩
  have H2 := Lib.hid (fun w => show Calls Try.prog 24 #[.string body] w (Lk.SaysB b2 w) from hb2 ▸ ckLong body w)
  have e2 : decide (body.size ≤ 4096) = !b2 := by
    rw [hb2]
    by_cases h : body.size ≤ 4096
    · rw [decide_eq_true h, decide_eq_false (by omega)]; rfl
    · rw [decide_eq_false h, decide_eq_true (by omega)]; rfl
  rw [e2]
  rw [← hb1] at H1 ⊢
  clear hb1 hb2 e2
  cases b1
  · go_enter Try.func37, Try.ntmps37
    go_wp2_with fail
    refine (H1.out _).mono ?_
    rintro e1 w1 ⟨rfl, rfl⟩
    go_wp2_with fail
    go_ret
    exact ⟨rfl, HB.out⟩
  · go_enter Try.func37, Try.ntmps37
    go_wp2_with fail
    refine (H1.out _).mono ?_
    rintro e1 w1 ⟨rfl, rfl⟩
    go_wp2_with fail
    refine (H2.out _).mono ?_
    rintro e1 w1 ⟨rfl, rfl⟩
    go_wp2_with fail
    go_ret
    exact ⟨by cases b2 <;> rfl, HB.out⟩
end Lk
end Go.Proofs.Ytbdlmokgmgpbfaa
