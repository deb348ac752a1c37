/- Contracts of the reference's Right. -/
import Derived.Test.YtgbklmncfajcgaaItemOk
namespace Go.Proofs.Ytgbklmncfajcgaa
open Go.RowKit
open Itm
set_option linter.unusedVariables false
set_option maxRecDepth 8000
theorem rf_1_m_v (ek : ByteArray) (ea ev m n lo hi : Int) (rk : ByteArray) (rn rv : Int)  (gm : m ≠ 0) : right ⟨1, ek, ea, ev, m, n, lo, hi, rk, rn, rv⟩ = false := by
  simp [right, eqI, gm]
theorem rf_1_m (ek : ByteArray) (ea ev m n lo hi : Int) (rk : ByteArray) (rn rv : Int)  (gm : m ≠ 0) (w : World) :
    Calls Try.prog 26 #[itV ⟨1, ek, ea, ev, m, n, lo, hi, rk, rn, rv⟩] w (Tells (right ⟨1, ek, ea, ev, m, n, lo, hi, rk, rn, rv⟩) w) := by
  have hc := Lib.hid (rf_1_m_v ek ea ev m n lo hi rk rn rv gm)
  have qm := nb gm
  clear gm
  go_enter Try.func26, Try.ntmps26
  go_wp2_with fail
  go_ret
  exact ⟨by rw [hc.out]; rfl, by repeat first | exact Below.refl _ _ | refine below_drewOf ?_ | refine below_al ?_⟩
theorem rf_1_n_v (ek : ByteArray) (ea ev m n lo hi : Int) (rk : ByteArray) (rn rv : Int) (gm : m = 0) (gn : n ≠ 0) : right ⟨1, ek, ea, ev, m, n, lo, hi, rk, rn, rv⟩ = false := by
  simp [right, eqI, gn]
theorem rf_1_n (ek : ByteArray) (ea ev m n lo hi : Int) (rk : ByteArray) (rn rv : Int) (gm : m = 0) (gn : n ≠ 0) (w : World) :
    Calls Try.prog 26 #[itV ⟨1, ek, ea, ev, m, n, lo, hi, rk, rn, rv⟩] w (Tells (right ⟨1, ek, ea, ev, m, n, lo, hi, rk, rn, rv⟩) w) := by
  have hc := Lib.hid (rf_1_n_v ek ea ev m n lo hi rk rn rv gm gn)
  have qm := nb0 gm
  have qn := nb gn
  clear gm gn
  go_enter Try.func26, Try.ntmps26
  go_wp2_with fail
  go_ret
  exact ⟨by rw [hc.out]; rfl, by repeat first | exact Below.refl _ _ | refine below_drewOf ?_ | refine below_al ?_⟩
theorem rf_1_R_v (ek : ByteArray) (ea ev m n lo hi : Int) (rk : ByteArray) (rn rv : Int) (gm : m = 0) (gn : n = 0) (gR : eqR rk no lo hi rn rv 0 0 0 0 = false) : right ⟨1, ek, ea, ev, m, n, lo, hi, rk, rn, rv⟩ = false := by
  simp only [right, eqI]
  simp [gR]
theorem rf_1_R (ek : ByteArray) (ea ev m n lo hi : Int) (rk : ByteArray) (rn rv : Int) (gm : m = 0) (gn : n = 0) (gR : eqR rk no lo hi rn rv 0 0 0 0 = false) (w : World) :
    Calls Try.prog 26 #[itV ⟨1, ek, ea, ev, m, n, lo, hi, rk, rn, rv⟩] w (Tells (right ⟨1, ek, ea, ev, m, n, lo, hi, rk, rn, rv⟩) w) := by
  have hc := Lib.hid (rf_1_R_v ek ea ev m n lo hi rk rn rv gm gn gR)
  have qm := nb0 gm
  have qn := nb0 gn
  have qR : ∀ w, (binOp .neq 40 (.agg #[.int .i64 lo, .int .i64 hi, .string rk, .int .i64 rn, .int .i64 rv]) (.agg #[.int .i64 0, .int .i64 0, .string no, .int .i64 0, .int .i64 0])).run Try.prog w = .ok (.bool true) w := fun w => (run_neR rk no lo hi rn rv 0 0 0 0 w).trans (by rw [gR]; rfl)
  clear gm gn gR
  go_enter Try.func26, Try.ntmps26
  go_wp2_with fail
  go_ret
  exact ⟨by rw [hc.out]; rfl, by repeat first | exact Below.refl _ _ | refine below_drewOf ?_ | refine below_al ?_⟩
theorem rf_1_ok_v (ek : ByteArray) (ea ev m n lo hi : Int) (rk : ByteArray) (rn rv : Int) (gm : m = 0) (gn : n = 0) (gR : eqR rk no lo hi rn rv 0 0 0 0 = true) : right ⟨1, ek, ea, ev, m, n, lo, hi, rk, rn, rv⟩ = okEv ek ea := by
  simp only [eqR, eqS, Bool.and_eq_true, beq_iff_eq] at gR
  simp [right, eqI, eqE, eqR, eqS, gm, gn, gR]
theorem rf_1_ok (ek : ByteArray) (ea ev m n lo hi : Int) (rk : ByteArray) (rn rv : Int) (gm : m = 0) (gn : n = 0) (gR : eqR rk no lo hi rn rv 0 0 0 0 = true) (w : World) :
    Calls Try.prog 26 #[itV ⟨1, ek, ea, ev, m, n, lo, hi, rk, rn, rv⟩] w (Tells (right ⟨1, ek, ea, ev, m, n, lo, hi, rk, rn, rv⟩) w) := by
  have hc := Lib.hid (rf_1_ok_v ek ea ev m n lo hi rk rn rv gm gn gR)
  have qm := nb0 gm
  have qn := nb0 gn
  have qR : ∀ w, (binOp .neq 40 (.agg #[.int .i64 lo, .int .i64 hi, .string rk, .int .i64 rn, .int .i64 rv]) (.agg #[.int .i64 0, .int .i64 0, .string no, .int .i64 0, .int .i64 0])).run Try.prog w = .ok (.bool false) w := fun w => (run_neR rk no lo hi rn rv 0 0 0 0 w).trans (by rw [gR]; rfl)
  clear gm gn gR
  go_enter Try.func26, Try.ntmps26
  go_wp2_with fail
  refine (rfEvent _ _ _ _).mono ?_
  rintro e w5 ⟨rfl, rfl⟩
  go_wp2_with fail
  go_ret
  exact ⟨by rw [hc.out]; rfl, by repeat first | exact Below.refl _ _ | refine below_drewOf ?_ | refine below_al ?_⟩
theorem rfRight_1 (ek : ByteArray) (ea ev m n lo hi : Int) (rk : ByteArray) (rn rv : Int) (w : World) : Calls Try.prog 26 #[itV ⟨1, ek, ea, ev, m, n, lo, hi, rk, rn, rv⟩] w (Tells (right ⟨1, ek, ea, ev, m, n, lo, hi, rk, rn, rv⟩) w) := by
  by_cases gm : m = 0
  case neg => exact rf_1_m ek ea ev m n lo hi rk rn rv  gm w
  by_cases gn : n = 0
  case neg => exact rf_1_n ek ea ev m n lo hi rk rn rv gm gn w
  by_cases gR : eqR rk no lo hi rn rv 0 0 0 0 = true
  case neg => exact rf_1_R ek ea ev m n lo hi rk rn rv gm gn (by simpa using gR) w
  exact rf_1_ok ek ea ev m n lo hi rk rn rv gm gn gR w
theorem rf_2_E_v (ek : ByteArray) (ea ev m n lo hi : Int) (rk : ByteArray) (rn rv : Int)  (gE : eqE ek no ea ev 0 0 = false) : right ⟨2, ek, ea, ev, m, n, lo, hi, rk, rn, rv⟩ = false := by
  simp only [right, eqI]
  simp [gE]
theorem rf_2_E (ek : ByteArray) (ea ev m n lo hi : Int) (rk : ByteArray) (rn rv : Int)  (gE : eqE ek no ea ev 0 0 = false) (w : World) :
    Calls Try.prog 26 #[itV ⟨2, ek, ea, ev, m, n, lo, hi, rk, rn, rv⟩] w (Tells (right ⟨2, ek, ea, ev, m, n, lo, hi, rk, rn, rv⟩) w) := by
  have hc := Lib.hid (rf_2_E_v ek ea ev m n lo hi rk rn rv gE)
  have qE : ∀ w, (binOp .neq 36 (.agg #[.string ek, .int .i64 ea, .int .i64 ev]) (.agg #[.string no, .int .i64 0, .int .i64 0])).run Try.prog w = .ok (.bool true) w := fun w => (run_neE ek no ea ev 0 0 w).trans (by rw [gE]; rfl)
  clear gE
  go_enter Try.func26, Try.ntmps26
  go_wp2_with fail
  go_ret
  exact ⟨by rw [hc.out]; rfl, by repeat first | exact Below.refl _ _ | refine below_drewOf ?_ | refine below_al ?_⟩
theorem rf_2_n_v (ek : ByteArray) (ea ev m n lo hi : Int) (rk : ByteArray) (rn rv : Int) (gE : eqE ek no ea ev 0 0 = true) (gn : n ≠ 0) : right ⟨2, ek, ea, ev, m, n, lo, hi, rk, rn, rv⟩ = false := by
  simp [right, eqI, gn]
theorem rf_2_n (ek : ByteArray) (ea ev m n lo hi : Int) (rk : ByteArray) (rn rv : Int) (gE : eqE ek no ea ev 0 0 = true) (gn : n ≠ 0) (w : World) :
    Calls Try.prog 26 #[itV ⟨2, ek, ea, ev, m, n, lo, hi, rk, rn, rv⟩] w (Tells (right ⟨2, ek, ea, ev, m, n, lo, hi, rk, rn, rv⟩) w) := by
  have hc := Lib.hid (rf_2_n_v ek ea ev m n lo hi rk rn rv gE gn)
  have qE : ∀ w, (binOp .neq 36 (.agg #[.string ek, .int .i64 ea, .int .i64 ev]) (.agg #[.string no, .int .i64 0, .int .i64 0])).run Try.prog w = .ok (.bool false) w := fun w => (run_neE ek no ea ev 0 0 w).trans (by rw [gE]; rfl)
  have qn := nb gn
  clear gE gn
  go_enter Try.func26, Try.ntmps26
  go_wp2_with fail
  go_ret
  exact ⟨by rw [hc.out]; rfl, by repeat first | exact Below.refl _ _ | refine below_drewOf ?_ | refine below_al ?_⟩
theorem rf_2_R_v (ek : ByteArray) (ea ev m n lo hi : Int) (rk : ByteArray) (rn rv : Int) (gE : eqE ek no ea ev 0 0 = true) (gn : n = 0) (gR : eqR rk no lo hi rn rv 0 0 0 0 = false) : right ⟨2, ek, ea, ev, m, n, lo, hi, rk, rn, rv⟩ = false := by
  simp only [right, eqI]
  simp [gR]
theorem rf_2_R (ek : ByteArray) (ea ev m n lo hi : Int) (rk : ByteArray) (rn rv : Int) (gE : eqE ek no ea ev 0 0 = true) (gn : n = 0) (gR : eqR rk no lo hi rn rv 0 0 0 0 = false) (w : World) :
    Calls Try.prog 26 #[itV ⟨2, ek, ea, ev, m, n, lo, hi, rk, rn, rv⟩] w (Tells (right ⟨2, ek, ea, ev, m, n, lo, hi, rk, rn, rv⟩) w) := by
  have hc := Lib.hid (rf_2_R_v ek ea ev m n lo hi rk rn rv gE gn gR)
  have qE : ∀ w, (binOp .neq 36 (.agg #[.string ek, .int .i64 ea, .int .i64 ev]) (.agg #[.string no, .int .i64 0, .int .i64 0])).run Try.prog w = .ok (.bool false) w := fun w => (run_neE ek no ea ev 0 0 w).trans (by rw [gE]; rfl)
  have qn := nb0 gn
  have qR : ∀ w, (binOp .neq 40 (.agg #[.int .i64 lo, .int .i64 hi, .string rk, .int .i64 rn, .int .i64 rv]) (.agg #[.int .i64 0, .int .i64 0, .string no, .int .i64 0, .int .i64 0])).run Try.prog w = .ok (.bool true) w := fun w => (run_neR rk no lo hi rn rv 0 0 0 0 w).trans (by rw [gR]; rfl)
  clear gE gn gR
  go_enter Try.func26, Try.ntmps26
  go_wp2_with fail
  go_ret
  exact ⟨by rw [hc.out]; rfl, by repeat first | exact Below.refl _ _ | refine below_drewOf ?_ | refine below_al ?_⟩
theorem rf_2_ok_v (ek : ByteArray) (ea ev m n lo hi : Int) (rk : ByteArray) (rn rv : Int) (gE : eqE ek no ea ev 0 0 = true) (gn : n = 0) (gR : eqR rk no lo hi rn rv 0 0 0 0 = true) : right ⟨2, ek, ea, ev, m, n, lo, hi, rk, rn, rv⟩ = wn m 0 1099511627776 := by
  simp only [eqE, eqR, eqS, Bool.and_eq_true, beq_iff_eq] at gE gR
  simp [right, eqI, eqE, eqR, eqS, gE, gn, gR]
theorem rf_2_ok1 (ek : ByteArray) (ea ev m n lo hi : Int) (rk : ByteArray) (rn rv : Int) (gE : eqE ek no ea ev 0 0 = true) (gn : n = 0) (gR : eqR rk no lo hi rn rv 0 0 0 0 = true) (h1 : 0 ≤ m) (h2 : m ≤ 1099511627776) (w : World) :
    Calls Try.prog 26 #[itV ⟨2, ek, ea, ev, m, n, lo, hi, rk, rn, rv⟩] w (Tells (right ⟨2, ek, ea, ev, m, n, lo, hi, rk, rn, rv⟩) w) := by
  have hc := Lib.hid ((rf_2_ok_v ek ea ev m n lo hi rk rn rv gE gn gR).trans (wn_true h1 h2))
  have qE : ∀ w, (binOp .neq 36 (.agg #[.string ek, .int .i64 ea, .int .i64 ev]) (.agg #[.string no, .int .i64 0, .int .i64 0])).run Try.prog w = .ok (.bool false) w := fun w => (run_neE ek no ea ev 0 0 w).trans (by rw [gE]; rfl)
  have qn := nb0 gn
  have qR : ∀ w, (binOp .neq 40 (.agg #[.int .i64 lo, .int .i64 hi, .string rk, .int .i64 rn, .int .i64 rv]) (.agg #[.int .i64 0, .int .i64 0, .string no, .int .i64 0, .int .i64 0])).run Try.prog w = .ok (.bool false) w := fun w => (run_neR rk no lo hi rn rv 0 0 0 0 w).trans (by rw [gR]; rfl)
  clear gE gn gR
  go_enter Try.func26, Try.ntmps26
  go_wp2_with fail
  go_ret
  exact ⟨by rw [hc.out]; rfl, by repeat first | exact Below.refl _ _ | refine below_drewOf ?_ | refine below_al ?_⟩
theorem rf_2_ok2 (ek : ByteArray) (ea ev m n lo hi : Int) (rk : ByteArray) (rn rv : Int) (gE : eqE ek no ea ev 0 0 = true) (gn : n = 0) (gR : eqR rk no lo hi rn rv 0 0 0 0 = true) (h1 : 0 ≤ m) (h2 : ¬ m ≤ 1099511627776) (w : World) :
    Calls Try.prog 26 #[itV ⟨2, ek, ea, ev, m, n, lo, hi, rk, rn, rv⟩] w (Tells (right ⟨2, ek, ea, ev, m, n, lo, hi, rk, rn, rv⟩) w) := by
  have hc := Lib.hid ((rf_2_ok_v ek ea ev m n lo hi rk rn rv gE gn gR).trans (wn_hi h2))
  have hd : decide (m ≤ 1099511627776) = false := decide_eq_false h2
  have qE : ∀ w, (binOp .neq 36 (.agg #[.string ek, .int .i64 ea, .int .i64 ev]) (.agg #[.string no, .int .i64 0, .int .i64 0])).run Try.prog w = .ok (.bool false) w := fun w => (run_neE ek no ea ev 0 0 w).trans (by rw [gE]; rfl)
  have qn := nb0 gn
  have qR : ∀ w, (binOp .neq 40 (.agg #[.int .i64 lo, .int .i64 hi, .string rk, .int .i64 rn, .int .i64 rv]) (.agg #[.int .i64 0, .int .i64 0, .string no, .int .i64 0, .int .i64 0])).run Try.prog w = .ok (.bool false) w := fun w => (run_neR rk no lo hi rn rv 0 0 0 0 w).trans (by rw [gR]; rfl)
  clear gE gn gR
  go_enter Try.func26, Try.ntmps26
  go_wp2_with fail
  go_ret
  exact ⟨by rw [hc.out]; rfl, by repeat first | exact Below.refl _ _ | refine below_drewOf ?_ | refine below_al ?_⟩
theorem rf_2_ok3 (ek : ByteArray) (ea ev m n lo hi : Int) (rk : ByteArray) (rn rv : Int) (gE : eqE ek no ea ev 0 0 = true) (gn : n = 0) (gR : eqR rk no lo hi rn rv 0 0 0 0 = true) (h1 : ¬ 0 ≤ m) (w : World) :
    Calls Try.prog 26 #[itV ⟨2, ek, ea, ev, m, n, lo, hi, rk, rn, rv⟩] w (Tells (right ⟨2, ek, ea, ev, m, n, lo, hi, rk, rn, rv⟩) w) := by
  have hc := Lib.hid ((rf_2_ok_v ek ea ev m n lo hi rk rn rv gE gn gR).trans (wn_lo h1))
  have qE : ∀ w, (binOp .neq 36 (.agg #[.string ek, .int .i64 ea, .int .i64 ev]) (.agg #[.string no, .int .i64 0, .int .i64 0])).run Try.prog w = .ok (.bool false) w := fun w => (run_neE ek no ea ev 0 0 w).trans (by rw [gE]; rfl)
  have qn := nb0 gn
  have qR : ∀ w, (binOp .neq 40 (.agg #[.int .i64 lo, .int .i64 hi, .string rk, .int .i64 rn, .int .i64 rv]) (.agg #[.int .i64 0, .int .i64 0, .string no, .int .i64 0, .int .i64 0])).run Try.prog w = .ok (.bool false) w := fun w => (run_neR rk no lo hi rn rv 0 0 0 0 w).trans (by rw [gR]; rfl)
  clear gE gn gR
  go_enter Try.func26, Try.ntmps26
  go_wp2_with fail
  go_ret
  exact ⟨by rw [hc.out]; rfl, by repeat first | exact Below.refl _ _ | refine below_drewOf ?_ | refine below_al ?_⟩
theorem rfRight_2 (ek : ByteArray) (ea ev m n lo hi : Int) (rk : ByteArray) (rn rv : Int) (w : World) : Calls Try.prog 26 #[itV ⟨2, ek, ea, ev, m, n, lo, hi, rk, rn, rv⟩] w (Tells (right ⟨2, ek, ea, ev, m, n, lo, hi, rk, rn, rv⟩) w) := by
  by_cases gE : eqE ek no ea ev 0 0 = true
  case neg => exact rf_2_E ek ea ev m n lo hi rk rn rv  (by simpa using gE) w
  by_cases gn : n = 0
  case neg => exact rf_2_n ek ea ev m n lo hi rk rn rv gE gn w
  by_cases gR : eqR rk no lo hi rn rv 0 0 0 0 = true
  case neg => exact rf_2_R ek ea ev m n lo hi rk rn rv gE gn (by simpa using gR) w
  by_cases h1 : 0 ≤ m
  · by_cases h2 : m ≤ 1099511627776
    · exact rf_2_ok1 ek ea ev m n lo hi rk rn rv gE gn gR h1 h2 w
    · exact rf_2_ok2 ek ea ev m n lo hi rk rn rv gE gn gR h1 h2 w
  · exact rf_2_ok3 ek ea ev m n lo hi rk rn rv gE gn gR h1 w
theorem rf_3_E_v (ek : ByteArray) (ea ev m n lo hi : Int) (rk : ByteArray) (rn rv : Int)  (gE : eqE ek no ea ev 0 0 = false) : right ⟨3, ek, ea, ev, m, n, lo, hi, rk, rn, rv⟩ = false := by
  simp only [right, eqI]
  simp [gE]
theorem rf_3_E (ek : ByteArray) (ea ev m n lo hi : Int) (rk : ByteArray) (rn rv : Int)  (gE : eqE ek no ea ev 0 0 = false) (w : World) :
    Calls Try.prog 26 #[itV ⟨3, ek, ea, ev, m, n, lo, hi, rk, rn, rv⟩] w (Tells (right ⟨3, ek, ea, ev, m, n, lo, hi, rk, rn, rv⟩) w) := by
  have hc := Lib.hid (rf_3_E_v ek ea ev m n lo hi rk rn rv gE)
  have qE : ∀ w, (binOp .neq 36 (.agg #[.string ek, .int .i64 ea, .int .i64 ev]) (.agg #[.string no, .int .i64 0, .int .i64 0])).run Try.prog w = .ok (.bool true) w := fun w => (run_neE ek no ea ev 0 0 w).trans (by rw [gE]; rfl)
  clear gE
  go_enter Try.func26, Try.ntmps26
  go_wp2_with fail
  go_ret
  exact ⟨by rw [hc.out]; rfl, by repeat first | exact Below.refl _ _ | refine below_drewOf ?_ | refine below_al ?_⟩
theorem rf_3_m_v (ek : ByteArray) (ea ev m n lo hi : Int) (rk : ByteArray) (rn rv : Int) (gE : eqE ek no ea ev 0 0 = true) (gm : m ≠ 0) : right ⟨3, ek, ea, ev, m, n, lo, hi, rk, rn, rv⟩ = false := by
  simp [right, eqI, gm]
theorem rf_3_m (ek : ByteArray) (ea ev m n lo hi : Int) (rk : ByteArray) (rn rv : Int) (gE : eqE ek no ea ev 0 0 = true) (gm : m ≠ 0) (w : World) :
    Calls Try.prog 26 #[itV ⟨3, ek, ea, ev, m, n, lo, hi, rk, rn, rv⟩] w (Tells (right ⟨3, ek, ea, ev, m, n, lo, hi, rk, rn, rv⟩) w) := by
  have hc := Lib.hid (rf_3_m_v ek ea ev m n lo hi rk rn rv gE gm)
  have qE : ∀ w, (binOp .neq 36 (.agg #[.string ek, .int .i64 ea, .int .i64 ev]) (.agg #[.string no, .int .i64 0, .int .i64 0])).run Try.prog w = .ok (.bool false) w := fun w => (run_neE ek no ea ev 0 0 w).trans (by rw [gE]; rfl)
  have qm := nb gm
  clear gE gm
  go_enter Try.func26, Try.ntmps26
  go_wp2_with fail
  go_ret
  exact ⟨by rw [hc.out]; rfl, by repeat first | exact Below.refl _ _ | refine below_drewOf ?_ | refine below_al ?_⟩
theorem rf_3_n_v (ek : ByteArray) (ea ev m n lo hi : Int) (rk : ByteArray) (rn rv : Int) (gE : eqE ek no ea ev 0 0 = true) (gm : m = 0) (gn : n ≠ 0) : right ⟨3, ek, ea, ev, m, n, lo, hi, rk, rn, rv⟩ = false := by
  simp [right, eqI, gn]
theorem rf_3_n (ek : ByteArray) (ea ev m n lo hi : Int) (rk : ByteArray) (rn rv : Int) (gE : eqE ek no ea ev 0 0 = true) (gm : m = 0) (gn : n ≠ 0) (w : World) :
    Calls Try.prog 26 #[itV ⟨3, ek, ea, ev, m, n, lo, hi, rk, rn, rv⟩] w (Tells (right ⟨3, ek, ea, ev, m, n, lo, hi, rk, rn, rv⟩) w) := by
  have hc := Lib.hid (rf_3_n_v ek ea ev m n lo hi rk rn rv gE gm gn)
  have qE : ∀ w, (binOp .neq 36 (.agg #[.string ek, .int .i64 ea, .int .i64 ev]) (.agg #[.string no, .int .i64 0, .int .i64 0])).run Try.prog w = .ok (.bool false) w := fun w => (run_neE ek no ea ev 0 0 w).trans (by rw [gE]; rfl)
  have qm := nb0 gm
  have qn := nb gn
  clear gE gm gn
  go_enter Try.func26, Try.ntmps26
  go_wp2_with fail
  go_ret
  exact ⟨by rw [hc.out]; rfl, by repeat first | exact Below.refl _ _ | refine below_drewOf ?_ | refine below_al ?_⟩
theorem rf_3_R_v (ek : ByteArray) (ea ev m n lo hi : Int) (rk : ByteArray) (rn rv : Int) (gE : eqE ek no ea ev 0 0 = true) (gm : m = 0) (gn : n = 0) (gR : eqR rk no lo hi rn rv 0 0 0 0 = false) : right ⟨3, ek, ea, ev, m, n, lo, hi, rk, rn, rv⟩ = false := by
  simp only [right, eqI]
  simp [gR]
theorem rf_3_R (ek : ByteArray) (ea ev m n lo hi : Int) (rk : ByteArray) (rn rv : Int) (gE : eqE ek no ea ev 0 0 = true) (gm : m = 0) (gn : n = 0) (gR : eqR rk no lo hi rn rv 0 0 0 0 = false) (w : World) :
    Calls Try.prog 26 #[itV ⟨3, ek, ea, ev, m, n, lo, hi, rk, rn, rv⟩] w (Tells (right ⟨3, ek, ea, ev, m, n, lo, hi, rk, rn, rv⟩) w) := by
  have hc := Lib.hid (rf_3_R_v ek ea ev m n lo hi rk rn rv gE gm gn gR)
  have qE : ∀ w, (binOp .neq 36 (.agg #[.string ek, .int .i64 ea, .int .i64 ev]) (.agg #[.string no, .int .i64 0, .int .i64 0])).run Try.prog w = .ok (.bool false) w := fun w => (run_neE ek no ea ev 0 0 w).trans (by rw [gE]; rfl)
  have qm := nb0 gm
  have qn := nb0 gn
  have qR : ∀ w, (binOp .neq 40 (.agg #[.int .i64 lo, .int .i64 hi, .string rk, .int .i64 rn, .int .i64 rv]) (.agg #[.int .i64 0, .int .i64 0, .string no, .int .i64 0, .int .i64 0])).run Try.prog w = .ok (.bool true) w := fun w => (run_neR rk no lo hi rn rv 0 0 0 0 w).trans (by rw [gR]; rfl)
  clear gE gm gn gR
  go_enter Try.func26, Try.ntmps26
  go_wp2_with fail
  go_ret
  exact ⟨by rw [hc.out]; rfl, by repeat first | exact Below.refl _ _ | refine below_drewOf ?_ | refine below_al ?_⟩
theorem rf_3_ok_v (ek : ByteArray) (ea ev m n lo hi : Int) (rk : ByteArray) (rn rv : Int) (gE : eqE ek no ea ev 0 0 = true) (gm : m = 0) (gn : n = 0) (gR : eqR rk no lo hi rn rv 0 0 0 0 = true) : right ⟨3, ek, ea, ev, m, n, lo, hi, rk, rn, rv⟩ = true := by
  simp only [eqE, eqR, eqS, Bool.and_eq_true, beq_iff_eq] at gE gR
  simp [right, eqI, eqE, eqR, eqS, gE, gm, gn, gR]
theorem rf_3_ok (ek : ByteArray) (ea ev m n lo hi : Int) (rk : ByteArray) (rn rv : Int) (gE : eqE ek no ea ev 0 0 = true) (gm : m = 0) (gn : n = 0) (gR : eqR rk no lo hi rn rv 0 0 0 0 = true) (w : World) :
    Calls Try.prog 26 #[itV ⟨3, ek, ea, ev, m, n, lo, hi, rk, rn, rv⟩] w (Tells (right ⟨3, ek, ea, ev, m, n, lo, hi, rk, rn, rv⟩) w) := by
  have hc := Lib.hid (rf_3_ok_v ek ea ev m n lo hi rk rn rv gE gm gn gR)
  have qE : ∀ w, (binOp .neq 36 (.agg #[.string ek, .int .i64 ea, .int .i64 ev]) (.agg #[.string no, .int .i64 0, .int .i64 0])).run Try.prog w = .ok (.bool false) w := fun w => (run_neE ek no ea ev 0 0 w).trans (by rw [gE]; rfl)
  have qm := nb0 gm
  have qn := nb0 gn
  have qR : ∀ w, (binOp .neq 40 (.agg #[.int .i64 lo, .int .i64 hi, .string rk, .int .i64 rn, .int .i64 rv]) (.agg #[.int .i64 0, .int .i64 0, .string no, .int .i64 0, .int .i64 0])).run Try.prog w = .ok (.bool false) w := fun w => (run_neR rk no lo hi rn rv 0 0 0 0 w).trans (by rw [gR]; rfl)
  clear gE gm gn gR
  go_enter Try.func26, Try.ntmps26
  go_wp2_with fail
  go_ret
  exact ⟨by rw [hc.out]; rfl, by repeat first | exact Below.refl _ _ | refine below_drewOf ?_ | refine below_al ?_⟩
theorem rfRight_3 (ek : ByteArray) (ea ev m n lo hi : Int) (rk : ByteArray) (rn rv : Int) (w : World) : Calls Try.prog 26 #[itV ⟨3, ek, ea, ev, m, n, lo, hi, rk, rn, rv⟩] w (Tells (right ⟨3, ek, ea, ev, m, n, lo, hi, rk, rn, rv⟩) w) := by
  by_cases gE : eqE ek no ea ev 0 0 = true
  case neg => exact rf_3_E ek ea ev m n lo hi rk rn rv  (by simpa using gE) w
  by_cases gm : m = 0
  case neg => exact rf_3_m ek ea ev m n lo hi rk rn rv gE gm w
  by_cases gn : n = 0
  case neg => exact rf_3_n ek ea ev m n lo hi rk rn rv gE gm gn w
  by_cases gR : eqR rk no lo hi rn rv 0 0 0 0 = true
  case neg => exact rf_3_R ek ea ev m n lo hi rk rn rv gE gm gn (by simpa using gR) w
  exact rf_3_ok ek ea ev m n lo hi rk rn rv gE gm gn gR w
theorem rf_4_E_v (ek : ByteArray) (ea ev m n lo hi : Int) (rk : ByteArray) (rn rv : Int)  (gE : eqE ek no ea ev 0 0 = false) : right ⟨4, ek, ea, ev, m, n, lo, hi, rk, rn, rv⟩ = false := by
  simp only [right, eqI]
  simp [gE]
theorem rf_4_E (ek : ByteArray) (ea ev m n lo hi : Int) (rk : ByteArray) (rn rv : Int)  (gE : eqE ek no ea ev 0 0 = false) (w : World) :
    Calls Try.prog 26 #[itV ⟨4, ek, ea, ev, m, n, lo, hi, rk, rn, rv⟩] w (Tells (right ⟨4, ek, ea, ev, m, n, lo, hi, rk, rn, rv⟩) w) := by
  have hc := Lib.hid (rf_4_E_v ek ea ev m n lo hi rk rn rv gE)
  have qE : ∀ w, (binOp .neq 36 (.agg #[.string ek, .int .i64 ea, .int .i64 ev]) (.agg #[.string no, .int .i64 0, .int .i64 0])).run Try.prog w = .ok (.bool true) w := fun w => (run_neE ek no ea ev 0 0 w).trans (by rw [gE]; rfl)
  clear gE
  go_enter Try.func26, Try.ntmps26
  go_wp2_with fail
  go_ret
  exact ⟨by rw [hc.out]; rfl, by repeat first | exact Below.refl _ _ | refine below_drewOf ?_ | refine below_al ?_⟩
theorem rf_4_m_v (ek : ByteArray) (ea ev m n lo hi : Int) (rk : ByteArray) (rn rv : Int) (gE : eqE ek no ea ev 0 0 = true) (gm : m ≠ 0) : right ⟨4, ek, ea, ev, m, n, lo, hi, rk, rn, rv⟩ = false := by
  simp [right, eqI, gm]
theorem rf_4_m (ek : ByteArray) (ea ev m n lo hi : Int) (rk : ByteArray) (rn rv : Int) (gE : eqE ek no ea ev 0 0 = true) (gm : m ≠ 0) (w : World) :
    Calls Try.prog 26 #[itV ⟨4, ek, ea, ev, m, n, lo, hi, rk, rn, rv⟩] w (Tells (right ⟨4, ek, ea, ev, m, n, lo, hi, rk, rn, rv⟩) w) := by
  have hc := Lib.hid (rf_4_m_v ek ea ev m n lo hi rk rn rv gE gm)
  have qE : ∀ w, (binOp .neq 36 (.agg #[.string ek, .int .i64 ea, .int .i64 ev]) (.agg #[.string no, .int .i64 0, .int .i64 0])).run Try.prog w = .ok (.bool false) w := fun w => (run_neE ek no ea ev 0 0 w).trans (by rw [gE]; rfl)
  have qm := nb gm
  clear gE gm
  go_enter Try.func26, Try.ntmps26
  go_wp2_with fail
  go_ret
  exact ⟨by rw [hc.out]; rfl, by repeat first | exact Below.refl _ _ | refine below_drewOf ?_ | refine below_al ?_⟩
theorem rf_4_R_v (ek : ByteArray) (ea ev m n lo hi : Int) (rk : ByteArray) (rn rv : Int) (gE : eqE ek no ea ev 0 0 = true) (gm : m = 0) (gR : eqR rk no lo hi rn rv 0 0 0 0 = false) : right ⟨4, ek, ea, ev, m, n, lo, hi, rk, rn, rv⟩ = false := by
  simp only [right, eqI]
  simp [gR]
theorem rf_4_R (ek : ByteArray) (ea ev m n lo hi : Int) (rk : ByteArray) (rn rv : Int) (gE : eqE ek no ea ev 0 0 = true) (gm : m = 0) (gR : eqR rk no lo hi rn rv 0 0 0 0 = false) (w : World) :
    Calls Try.prog 26 #[itV ⟨4, ek, ea, ev, m, n, lo, hi, rk, rn, rv⟩] w (Tells (right ⟨4, ek, ea, ev, m, n, lo, hi, rk, rn, rv⟩) w) := by
  have hc := Lib.hid (rf_4_R_v ek ea ev m n lo hi rk rn rv gE gm gR)
  have qE : ∀ w, (binOp .neq 36 (.agg #[.string ek, .int .i64 ea, .int .i64 ev]) (.agg #[.string no, .int .i64 0, .int .i64 0])).run Try.prog w = .ok (.bool false) w := fun w => (run_neE ek no ea ev 0 0 w).trans (by rw [gE]; rfl)
  have qm := nb0 gm
  have qR : ∀ w, (binOp .neq 40 (.agg #[.int .i64 lo, .int .i64 hi, .string rk, .int .i64 rn, .int .i64 rv]) (.agg #[.int .i64 0, .int .i64 0, .string no, .int .i64 0, .int .i64 0])).run Try.prog w = .ok (.bool true) w := fun w => (run_neR rk no lo hi rn rv 0 0 0 0 w).trans (by rw [gR]; rfl)
  clear gE gm gR
  go_enter Try.func26, Try.ntmps26
  go_wp2_with fail
  go_ret
  exact ⟨by rw [hc.out]; rfl, by repeat first | exact Below.refl _ _ | refine below_drewOf ?_ | refine below_al ?_⟩
theorem rf_4_ok_v (ek : ByteArray) (ea ev m n lo hi : Int) (rk : ByteArray) (rn rv : Int) (gE : eqE ek no ea ev 0 0 = true) (gm : m = 0) (gR : eqR rk no lo hi rn rv 0 0 0 0 = true) : right ⟨4, ek, ea, ev, m, n, lo, hi, rk, rn, rv⟩ = wn n 1 1073741824 := by
  simp only [eqE, eqR, eqS, Bool.and_eq_true, beq_iff_eq] at gE gR
  simp [right, eqI, eqE, eqR, eqS, gE, gm, gR]
theorem rf_4_ok1 (ek : ByteArray) (ea ev m n lo hi : Int) (rk : ByteArray) (rn rv : Int) (gE : eqE ek no ea ev 0 0 = true) (gm : m = 0) (gR : eqR rk no lo hi rn rv 0 0 0 0 = true) (h1 : 1 ≤ n) (h2 : n ≤ 1073741824) (w : World) :
    Calls Try.prog 26 #[itV ⟨4, ek, ea, ev, m, n, lo, hi, rk, rn, rv⟩] w (Tells (right ⟨4, ek, ea, ev, m, n, lo, hi, rk, rn, rv⟩) w) := by
  have hc := Lib.hid ((rf_4_ok_v ek ea ev m n lo hi rk rn rv gE gm gR).trans (wn_true h1 h2))
  have qE : ∀ w, (binOp .neq 36 (.agg #[.string ek, .int .i64 ea, .int .i64 ev]) (.agg #[.string no, .int .i64 0, .int .i64 0])).run Try.prog w = .ok (.bool false) w := fun w => (run_neE ek no ea ev 0 0 w).trans (by rw [gE]; rfl)
  have qm := nb0 gm
  have qR : ∀ w, (binOp .neq 40 (.agg #[.int .i64 lo, .int .i64 hi, .string rk, .int .i64 rn, .int .i64 rv]) (.agg #[.int .i64 0, .int .i64 0, .string no, .int .i64 0, .int .i64 0])).run Try.prog w = .ok (.bool false) w := fun w => (run_neR rk no lo hi rn rv 0 0 0 0 w).trans (by rw [gR]; rfl)
  clear gE gm gR
  go_enter Try.func26, Try.ntmps26
  go_wp2_with fail
  go_ret
  exact ⟨by rw [hc.out]; rfl, by repeat first | exact Below.refl _ _ | refine below_drewOf ?_ | refine below_al ?_⟩
theorem rf_4_ok2 (ek : ByteArray) (ea ev m n lo hi : Int) (rk : ByteArray) (rn rv : Int) (gE : eqE ek no ea ev 0 0 = true) (gm : m = 0) (gR : eqR rk no lo hi rn rv 0 0 0 0 = true) (h1 : 1 ≤ n) (h2 : ¬ n ≤ 1073741824) (w : World) :
    Calls Try.prog 26 #[itV ⟨4, ek, ea, ev, m, n, lo, hi, rk, rn, rv⟩] w (Tells (right ⟨4, ek, ea, ev, m, n, lo, hi, rk, rn, rv⟩) w) := by
  have hc := Lib.hid ((rf_4_ok_v ek ea ev m n lo hi rk rn rv gE gm gR).trans (wn_hi h2))
  have hd : decide (n ≤ 1073741824) = false := decide_eq_false h2
  have qE : ∀ w, (binOp .neq 36 (.agg #[.string ek, .int .i64 ea, .int .i64 ev]) (.agg #[.string no, .int .i64 0, .int .i64 0])).run Try.prog w = .ok (.bool false) w := fun w => (run_neE ek no ea ev 0 0 w).trans (by rw [gE]; rfl)
  have qm := nb0 gm
  have qR : ∀ w, (binOp .neq 40 (.agg #[.int .i64 lo, .int .i64 hi, .string rk, .int .i64 rn, .int .i64 rv]) (.agg #[.int .i64 0, .int .i64 0, .string no, .int .i64 0, .int .i64 0])).run Try.prog w = .ok (.bool false) w := fun w => (run_neR rk no lo hi rn rv 0 0 0 0 w).trans (by rw [gR]; rfl)
  clear gE gm gR
  go_enter Try.func26, Try.ntmps26
  go_wp2_with fail
  go_ret
  exact ⟨by rw [hc.out]; rfl, by repeat first | exact Below.refl _ _ | refine below_drewOf ?_ | refine below_al ?_⟩
theorem rf_4_ok3 (ek : ByteArray) (ea ev m n lo hi : Int) (rk : ByteArray) (rn rv : Int) (gE : eqE ek no ea ev 0 0 = true) (gm : m = 0) (gR : eqR rk no lo hi rn rv 0 0 0 0 = true) (h1 : ¬ 1 ≤ n) (w : World) :
    Calls Try.prog 26 #[itV ⟨4, ek, ea, ev, m, n, lo, hi, rk, rn, rv⟩] w (Tells (right ⟨4, ek, ea, ev, m, n, lo, hi, rk, rn, rv⟩) w) := by
  have hc := Lib.hid ((rf_4_ok_v ek ea ev m n lo hi rk rn rv gE gm gR).trans (wn_lo h1))
  have qE : ∀ w, (binOp .neq 36 (.agg #[.string ek, .int .i64 ea, .int .i64 ev]) (.agg #[.string no, .int .i64 0, .int .i64 0])).run Try.prog w = .ok (.bool false) w := fun w => (run_neE ek no ea ev 0 0 w).trans (by rw [gE]; rfl)
  have qm := nb0 gm
  have qR : ∀ w, (binOp .neq 40 (.agg #[.int .i64 lo, .int .i64 hi, .string rk, .int .i64 rn, .int .i64 rv]) (.agg #[.int .i64 0, .int .i64 0, .string no, .int .i64 0, .int .i64 0])).run Try.prog w = .ok (.bool false) w := fun w => (run_neR rk no lo hi rn rv 0 0 0 0 w).trans (by rw [gR]; rfl)
  clear gE gm gR
  go_enter Try.func26, Try.ntmps26
  go_wp2_with fail
  go_ret
  exact ⟨by rw [hc.out]; rfl, by repeat first | exact Below.refl _ _ | refine below_drewOf ?_ | refine below_al ?_⟩
theorem rfRight_4 (ek : ByteArray) (ea ev m n lo hi : Int) (rk : ByteArray) (rn rv : Int) (w : World) : Calls Try.prog 26 #[itV ⟨4, ek, ea, ev, m, n, lo, hi, rk, rn, rv⟩] w (Tells (right ⟨4, ek, ea, ev, m, n, lo, hi, rk, rn, rv⟩) w) := by
  by_cases gE : eqE ek no ea ev 0 0 = true
  case neg => exact rf_4_E ek ea ev m n lo hi rk rn rv  (by simpa using gE) w
  by_cases gm : m = 0
  case neg => exact rf_4_m ek ea ev m n lo hi rk rn rv gE gm w
  by_cases gR : eqR rk no lo hi rn rv 0 0 0 0 = true
  case neg => exact rf_4_R ek ea ev m n lo hi rk rn rv gE gm (by simpa using gR) w
  by_cases h1 : 1 ≤ n
  · by_cases h2 : n ≤ 1073741824
    · exact rf_4_ok1 ek ea ev m n lo hi rk rn rv gE gm gR h1 h2 w
    · exact rf_4_ok2 ek ea ev m n lo hi rk rn rv gE gm gR h1 h2 w
  · exact rf_4_ok3 ek ea ev m n lo hi rk rn rv gE gm gR h1 w
theorem rf_5_E_v (ek : ByteArray) (ea ev m n lo hi : Int) (rk : ByteArray) (rn rv : Int)  (gE : eqE ek no ea ev 0 0 = false) : right ⟨5, ek, ea, ev, m, n, lo, hi, rk, rn, rv⟩ = false := by
  simp only [right, eqI]
  simp [gE]
theorem rf_5_E (ek : ByteArray) (ea ev m n lo hi : Int) (rk : ByteArray) (rn rv : Int)  (gE : eqE ek no ea ev 0 0 = false) (w : World) :
    Calls Try.prog 26 #[itV ⟨5, ek, ea, ev, m, n, lo, hi, rk, rn, rv⟩] w (Tells (right ⟨5, ek, ea, ev, m, n, lo, hi, rk, rn, rv⟩) w) := by
  have hc := Lib.hid (rf_5_E_v ek ea ev m n lo hi rk rn rv gE)
  have qE : ∀ w, (binOp .neq 36 (.agg #[.string ek, .int .i64 ea, .int .i64 ev]) (.agg #[.string no, .int .i64 0, .int .i64 0])).run Try.prog w = .ok (.bool true) w := fun w => (run_neE ek no ea ev 0 0 w).trans (by rw [gE]; rfl)
  clear gE
  go_enter Try.func26, Try.ntmps26
  go_wp2_with fail
  go_ret
  exact ⟨by rw [hc.out]; rfl, by repeat first | exact Below.refl _ _ | refine below_drewOf ?_ | refine below_al ?_⟩
theorem rf_5_m_v (ek : ByteArray) (ea ev m n lo hi : Int) (rk : ByteArray) (rn rv : Int) (gE : eqE ek no ea ev 0 0 = true) (gm : m ≠ 0) : right ⟨5, ek, ea, ev, m, n, lo, hi, rk, rn, rv⟩ = false := by
  simp [right, eqI, gm]
theorem rf_5_m (ek : ByteArray) (ea ev m n lo hi : Int) (rk : ByteArray) (rn rv : Int) (gE : eqE ek no ea ev 0 0 = true) (gm : m ≠ 0) (w : World) :
    Calls Try.prog 26 #[itV ⟨5, ek, ea, ev, m, n, lo, hi, rk, rn, rv⟩] w (Tells (right ⟨5, ek, ea, ev, m, n, lo, hi, rk, rn, rv⟩) w) := by
  have hc := Lib.hid (rf_5_m_v ek ea ev m n lo hi rk rn rv gE gm)
  have qE : ∀ w, (binOp .neq 36 (.agg #[.string ek, .int .i64 ea, .int .i64 ev]) (.agg #[.string no, .int .i64 0, .int .i64 0])).run Try.prog w = .ok (.bool false) w := fun w => (run_neE ek no ea ev 0 0 w).trans (by rw [gE]; rfl)
  have qm := nb gm
  clear gE gm
  go_enter Try.func26, Try.ntmps26
  go_wp2_with fail
  go_ret
  exact ⟨by rw [hc.out]; rfl, by repeat first | exact Below.refl _ _ | refine below_drewOf ?_ | refine below_al ?_⟩
theorem rf_5_n_v (ek : ByteArray) (ea ev m n lo hi : Int) (rk : ByteArray) (rn rv : Int) (gE : eqE ek no ea ev 0 0 = true) (gm : m = 0) (gn : n ≠ 0) : right ⟨5, ek, ea, ev, m, n, lo, hi, rk, rn, rv⟩ = false := by
  simp [right, eqI, gn]
theorem rf_5_n (ek : ByteArray) (ea ev m n lo hi : Int) (rk : ByteArray) (rn rv : Int) (gE : eqE ek no ea ev 0 0 = true) (gm : m = 0) (gn : n ≠ 0) (w : World) :
    Calls Try.prog 26 #[itV ⟨5, ek, ea, ev, m, n, lo, hi, rk, rn, rv⟩] w (Tells (right ⟨5, ek, ea, ev, m, n, lo, hi, rk, rn, rv⟩) w) := by
  have hc := Lib.hid (rf_5_n_v ek ea ev m n lo hi rk rn rv gE gm gn)
  have qE : ∀ w, (binOp .neq 36 (.agg #[.string ek, .int .i64 ea, .int .i64 ev]) (.agg #[.string no, .int .i64 0, .int .i64 0])).run Try.prog w = .ok (.bool false) w := fun w => (run_neE ek no ea ev 0 0 w).trans (by rw [gE]; rfl)
  have qm := nb0 gm
  have qn := nb gn
  clear gE gm gn
  go_enter Try.func26, Try.ntmps26
  go_wp2_with fail
  go_ret
  exact ⟨by rw [hc.out]; rfl, by repeat first | exact Below.refl _ _ | refine below_drewOf ?_ | refine below_al ?_⟩
theorem rf_5_ok_v (ek : ByteArray) (ea ev m n lo hi : Int) (rk : ByteArray) (rn rv : Int) (gE : eqE ek no ea ev 0 0 = true) (gm : m = 0) (gn : n = 0) : right ⟨5, ek, ea, ev, m, n, lo, hi, rk, rn, rv⟩ = okRes rk lo hi rn := by
  simp only [eqE, eqS, Bool.and_eq_true, beq_iff_eq] at gE
  simp [right, eqI, eqE, eqR, eqS, gE, gm, gn]
theorem rf_5_ok (ek : ByteArray) (ea ev m n lo hi : Int) (rk : ByteArray) (rn rv : Int) (gE : eqE ek no ea ev 0 0 = true) (gm : m = 0) (gn : n = 0) (w : World) :
    Calls Try.prog 26 #[itV ⟨5, ek, ea, ev, m, n, lo, hi, rk, rn, rv⟩] w (Tells (right ⟨5, ek, ea, ev, m, n, lo, hi, rk, rn, rv⟩) w) := by
  have hc := Lib.hid (rf_5_ok_v ek ea ev m n lo hi rk rn rv gE gm gn)
  have qE : ∀ w, (binOp .neq 36 (.agg #[.string ek, .int .i64 ea, .int .i64 ev]) (.agg #[.string no, .int .i64 0, .int .i64 0])).run Try.prog w = .ok (.bool false) w := fun w => (run_neE ek no ea ev 0 0 w).trans (by rw [gE]; rfl)
  have qm := nb0 gm
  have qn := nb0 gn
  clear gE gm gn
  go_enter Try.func26, Try.ntmps26
  go_wp2_with fail
  refine (rfResult _ _ _ _ _ _).mono ?_
  rintro e w5 ⟨rfl, rfl⟩
  go_wp2_with fail
  go_ret
  exact ⟨by rw [hc.out]; rfl, by repeat first | exact Below.refl _ _ | refine below_drewOf ?_ | refine below_al ?_⟩
theorem rfRight_5 (ek : ByteArray) (ea ev m n lo hi : Int) (rk : ByteArray) (rn rv : Int) (w : World) : Calls Try.prog 26 #[itV ⟨5, ek, ea, ev, m, n, lo, hi, rk, rn, rv⟩] w (Tells (right ⟨5, ek, ea, ev, m, n, lo, hi, rk, rn, rv⟩) w) := by
  by_cases gE : eqE ek no ea ev 0 0 = true
  case neg => exact rf_5_E ek ea ev m n lo hi rk rn rv  (by simpa using gE) w
  by_cases gm : m = 0
  case neg => exact rf_5_m ek ea ev m n lo hi rk rn rv gE gm w
  by_cases gn : n = 0
  case neg => exact rf_5_n ek ea ev m n lo hi rk rn rv gE gm gn w
  exact rf_5_ok ek ea ev m n lo hi rk rn rv gE gm gn w
theorem rfRight_else (k : Int) (ek : ByteArray) (ea ev m n lo hi : Int) (rk : ByteArray) (rn rv : Int) (h1 : k ≠ 1) (h2 : k ≠ 2) (h3 : k ≠ 3) (h4 : k ≠ 4) (h5 : k ≠ 5) (w : World) :
    Calls Try.prog 26 #[itV ⟨k, ek, ea, ev, m, n, lo, hi, rk, rn, rv⟩] w (Tells (right ⟨k, ek, ea, ev, m, n, lo, hi, rk, rn, rv⟩) w) := by
  have hc := Lib.hid (right_else k ek ea ev m n lo hi rk rn rv h1 h2 h3 h4 h5)
  rcases Int.lt_or_le k 1 with h | h
  · clear h1 h2 h3 h4 h5
    go_enter Try.func26, Try.ntmps26
    go_wp2_with fail
    go_ret
    exact ⟨by rw [hc.out]; rfl, by repeat first | exact Below.refl _ _ | refine below_drewOf ?_ | refine below_al ?_⟩
  · have h6 : 5 < k := by omega
    clear h1 h2 h3 h4 h5
    go_enter Try.func26, Try.ntmps26
    go_wp2_with fail
    go_ret
    exact ⟨by rw [hc.out]; rfl, by repeat first | exact Below.refl _ _ | refine below_drewOf ?_ | refine below_al ?_⟩
theorem rfRight (a : It) (w : World) : Calls Try.prog 26 #[itV a] w (Tells (right a) w) := by
  obtain ⟨k, ek, ea, ev, m, n, lo, hi, rk, rn, rv⟩ := a
  by_cases h1 : k = 1
  · subst h1; exact rfRight_1 ek ea ev m n lo hi rk rn rv w
  by_cases h2 : k = 2
  · subst h2; exact rfRight_2 ek ea ev m n lo hi rk rn rv w
  by_cases h3 : k = 3
  · subst h3; exact rfRight_3 ek ea ev m n lo hi rk rn rv w
  by_cases h4 : k = 4
  · subst h4; exact rfRight_4 ek ea ev m n lo hi rk rn rv w
  by_cases h5 : k = 5
  · subst h5; exact rfRight_5 ek ea ev m n lo hi rk rn rv w
  exact rfRight_else k ek ea ev m n lo hi rk rn rv h1 h2 h3 h4 h5 w
end Go.Proofs.Ytgbklmncfajcgaa
