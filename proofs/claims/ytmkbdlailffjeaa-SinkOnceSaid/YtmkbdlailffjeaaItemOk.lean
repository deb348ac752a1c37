/- Contracts of Right, of package item and of the reference. -/
import Derived.Test.YtmkbdlailffjeaaItemEq
import Derived.Test.YtmkbdlailffjeaaItemRight
import Derived.Deep.RegionHeld3
namespace Go.Proofs.Ytmkbdlailffjeaa
open Go.RowKit
open Itm
set_option linter.unusedVariables false
set_option maxRecDepth 8000
theorem right_1 (ek : ByteArray) (ea ev m n lo hi : Int) (rk : ByteArray) (rn rv : Int) (h : okEv ek ea = true) : right ⟨1, ek, ea, ev, m, n, lo, hi, rk, rn, rv⟩ = eqI ⟨1, ek, ea, ev, m, n, lo, hi, rk, rn, rv⟩ { bare 1 with ek := ek, ea := ea, ev := ev } := by simp [right, h]
theorem right_1n (ek : ByteArray) (ea ev m n lo hi : Int) (rk : ByteArray) (rn rv : Int) (h : okEv ek ea = false) : right ⟨1, ek, ea, ev, m, n, lo, hi, rk, rn, rv⟩ = false := by simp [right, h]
theorem right_2 (ek : ByteArray) (ea ev m n lo hi : Int) (rk : ByteArray) (rn rv : Int) (h : wn m 0 1099511627776 = true) : right ⟨2, ek, ea, ev, m, n, lo, hi, rk, rn, rv⟩ = eqI ⟨2, ek, ea, ev, m, n, lo, hi, rk, rn, rv⟩ { bare 2 with m := m } := by simp [right, h]
theorem right_2n (ek : ByteArray) (ea ev m n lo hi : Int) (rk : ByteArray) (rn rv : Int) (h : wn m 0 1099511627776 = false) : right ⟨2, ek, ea, ev, m, n, lo, hi, rk, rn, rv⟩ = false := by simp [right, h]
theorem right_4 (ek : ByteArray) (ea ev m n lo hi : Int) (rk : ByteArray) (rn rv : Int) (h : wn n 1 1073741824 = true) : right ⟨4, ek, ea, ev, m, n, lo, hi, rk, rn, rv⟩ = eqI ⟨4, ek, ea, ev, m, n, lo, hi, rk, rn, rv⟩ { bare 4 with n := n } := by simp [right, h]
theorem right_4n (ek : ByteArray) (ea ev m n lo hi : Int) (rk : ByteArray) (rn rv : Int) (h : wn n 1 1073741824 = false) : right ⟨4, ek, ea, ev, m, n, lo, hi, rk, rn, rv⟩ = false := by simp [right, h]
theorem right_5 (ek : ByteArray) (ea ev m n lo hi : Int) (rk : ByteArray) (rn rv : Int) (h : okRes rk lo hi rn = true) : right ⟨5, ek, ea, ev, m, n, lo, hi, rk, rn, rv⟩ = eqI ⟨5, ek, ea, ev, m, n, lo, hi, rk, rn, rv⟩ { bare 5 with lo := lo, hi := hi, rk := rk, rn := rn, rv := rv } := by simp [right, h]
theorem right_5n (ek : ByteArray) (ea ev m n lo hi : Int) (rk : ByteArray) (rn rv : Int) (h : okRes rk lo hi rn = false) : right ⟨5, ek, ea, ev, m, n, lo, hi, rk, rn, rv⟩ = false := by simp [right, h]
theorem right_3 (ek : ByteArray) (ea ev m n lo hi : Int) (rk : ByteArray) (rn rv : Int) : right ⟨3, ek, ea, ev, m, n, lo, hi, rk, rn, rv⟩ = eqI ⟨3, ek, ea, ev, m, n, lo, hi, rk, rn, rv⟩ (bare 3) := by simp [right]
theorem itRight_1 (ek : ByteArray) (ea ev m n lo hi : Int) (rk : ByteArray) (rn rv : Int) (w : World) :
    Calls Try.prog 33 #[itV ⟨1, ek, ea, ev, m, n, lo, hi, rk, rn, rv⟩] w (Tells (right ⟨1, ek, ea, ev, m, n, lo, hi, rk, rn, rv⟩) w) := by
  by_cases hw : okEv ek ea = true
  · have hc := Lib.hid (right_1 ek ea ev m n lo hi rk rn rv hw)
    have hE : ∀ w, (binOp .eql 65 (.agg #[.int .i64 1, .string ek, .int .i64 ea, .int .i64 ev, .int .i64 m, .int .i64 n, .int .i64 lo, .int .i64 hi, .string rk, .int .i64 rn, .int .i64 rv]) (.agg #[.int .i64 1, .string ek, .int .i64 ea, .int .i64 ev, .int .i64 0, .int .i64 0, .int .i64 0, .int .i64 0, .string no, .int .i64 0, .int .i64 0])).run Try.prog w = .ok (.bool (eqI ⟨1, ek, ea, ev, m, n, lo, hi, rk, rn, rv⟩ { bare 1 with ek := ek, ea := ea, ev := ev })) w := fun w => run_eqIt ⟨1, ek, ea, ev, m, n, lo, hi, rk, rn, rv⟩ { bare 1 with ek := ek, ea := ea, ev := ev } w
    go_enter Try.func33, Try.ntmps33
    go_wp2_with fail
    go_region_held3 (fun w' => w'.cell? ⟨w.heap.size, 1, none⟩ = some (.string ek) ∧ w'.cell? ⟨w.heap.size, 2, none⟩ = some (.int .i64 ea) ∧ w'.cell? ⟨w.heap.size, 3, none⟩ = some (.int .i64 ev)) (go_keep) ((go_at_call 43; refine (itEvent _ _ _ _).mono ?_; rintro e w5 ⟨rfl, rfl⟩))
    go_wp2_with fail
    go_ret
    exact ⟨by rw [hc.out]; rfl, by repeat first | exact Below.refl _ _ | refine below_drewOf ?_ | refine below_al ?_⟩
  · have hw' : okEv ek ea = false := by simpa using hw
    have hc := Lib.hid (right_1n ek ea ev m n lo hi rk rn rv hw')
    clear hw
    go_enter Try.func33, Try.ntmps33
    go_wp2_with fail
    go_region_held3 (fun w' => w'.cell? ⟨w.heap.size, 1, none⟩ = some (.string ek) ∧ w'.cell? ⟨w.heap.size, 2, none⟩ = some (.int .i64 ea) ∧ w'.cell? ⟨w.heap.size, 3, none⟩ = some (.int .i64 ev)) (go_keep) ((go_at_call 43; refine (itEvent _ _ _ _).mono ?_; rintro e w5 ⟨rfl, rfl⟩))
    go_wp2_with fail
    go_ret
    exact ⟨by rw [hc.out]; rfl, by repeat first | exact Below.refl _ _ | refine below_drewOf ?_ | refine below_al ?_⟩
theorem itRight_2 (ek : ByteArray) (ea ev m n lo hi : Int) (rk : ByteArray) (rn rv : Int) (w : World) :
    Calls Try.prog 33 #[itV ⟨2, ek, ea, ev, m, n, lo, hi, rk, rn, rv⟩] w (Tells (right ⟨2, ek, ea, ev, m, n, lo, hi, rk, rn, rv⟩) w) := by
  by_cases hw : wn m 0 1099511627776 = true
  · have hc := Lib.hid (right_2 ek ea ev m n lo hi rk rn rv hw)
    have hE : ∀ w, (binOp .eql 65 (.agg #[.int .i64 2, .string ek, .int .i64 ea, .int .i64 ev, .int .i64 m, .int .i64 n, .int .i64 lo, .int .i64 hi, .string rk, .int .i64 rn, .int .i64 rv]) (.agg #[.int .i64 2, .string no, .int .i64 0, .int .i64 0, .int .i64 m, .int .i64 0, .int .i64 0, .int .i64 0, .string no, .int .i64 0, .int .i64 0])).run Try.prog w = .ok (.bool (eqI ⟨2, ek, ea, ev, m, n, lo, hi, rk, rn, rv⟩ { bare 2 with m := m })) w := fun w => run_eqIt ⟨2, ek, ea, ev, m, n, lo, hi, rk, rn, rv⟩ { bare 2 with m := m } w
    go_enter Try.func33, Try.ntmps33
    go_wp2_with fail
    go_region_held3 (fun w' => w'.cell? ⟨w.heap.size, 4, none⟩ = some (.int .i64 m)) (go_keep) ((go_at_call 44; refine (itWithin _ _ _ _).mono ?_; rintro e w5 ⟨rfl, rfl⟩))
    go_wp2_with fail
    go_ret
    exact ⟨by rw [hc.out]; rfl, by repeat first | exact Below.refl _ _ | refine below_drewOf ?_ | refine below_al ?_⟩
  · have hw' : wn m 0 1099511627776 = false := by simpa using hw
    have hc := Lib.hid (right_2n ek ea ev m n lo hi rk rn rv hw')
    clear hw
    go_enter Try.func33, Try.ntmps33
    go_wp2_with fail
    go_region_held3 (fun w' => w'.cell? ⟨w.heap.size, 4, none⟩ = some (.int .i64 m)) (go_keep) ((go_at_call 44; refine (itWithin _ _ _ _).mono ?_; rintro e w5 ⟨rfl, rfl⟩))
    go_wp2_with fail
    go_ret
    exact ⟨by rw [hc.out]; rfl, by repeat first | exact Below.refl _ _ | refine below_drewOf ?_ | refine below_al ?_⟩
theorem itRight_4 (ek : ByteArray) (ea ev m n lo hi : Int) (rk : ByteArray) (rn rv : Int) (w : World) :
    Calls Try.prog 33 #[itV ⟨4, ek, ea, ev, m, n, lo, hi, rk, rn, rv⟩] w (Tells (right ⟨4, ek, ea, ev, m, n, lo, hi, rk, rn, rv⟩) w) := by
  by_cases hw : wn n 1 1073741824 = true
  · have hc := Lib.hid (right_4 ek ea ev m n lo hi rk rn rv hw)
    have hE : ∀ w, (binOp .eql 65 (.agg #[.int .i64 4, .string ek, .int .i64 ea, .int .i64 ev, .int .i64 m, .int .i64 n, .int .i64 lo, .int .i64 hi, .string rk, .int .i64 rn, .int .i64 rv]) (.agg #[.int .i64 4, .string no, .int .i64 0, .int .i64 0, .int .i64 0, .int .i64 n, .int .i64 0, .int .i64 0, .string no, .int .i64 0, .int .i64 0])).run Try.prog w = .ok (.bool (eqI ⟨4, ek, ea, ev, m, n, lo, hi, rk, rn, rv⟩ { bare 4 with n := n })) w := fun w => run_eqIt ⟨4, ek, ea, ev, m, n, lo, hi, rk, rn, rv⟩ { bare 4 with n := n } w
    go_enter Try.func33, Try.ntmps33
    go_wp2_with fail
    go_region_held3 (fun w' => w'.cell? ⟨w.heap.size, 5, none⟩ = some (.int .i64 n)) (go_keep) ((go_at_call 44; refine (itWithin _ _ _ _).mono ?_; rintro e w5 ⟨rfl, rfl⟩))
    go_wp2_with fail
    go_ret
    exact ⟨by rw [hc.out]; rfl, by repeat first | exact Below.refl _ _ | refine below_drewOf ?_ | refine below_al ?_⟩
  · have hw' : wn n 1 1073741824 = false := by simpa using hw
    have hc := Lib.hid (right_4n ek ea ev m n lo hi rk rn rv hw')
    clear hw
    go_enter Try.func33, Try.ntmps33
    go_wp2_with fail
    go_region_held3 (fun w' => w'.cell? ⟨w.heap.size, 5, none⟩ = some (.int .i64 n)) (go_keep) ((go_at_call 44; refine (itWithin _ _ _ _).mono ?_; rintro e w5 ⟨rfl, rfl⟩))
    go_wp2_with fail
    go_ret
    exact ⟨by rw [hc.out]; rfl, by repeat first | exact Below.refl _ _ | refine below_drewOf ?_ | refine below_al ?_⟩
theorem itRight_5 (ek : ByteArray) (ea ev m n lo hi : Int) (rk : ByteArray) (rn rv : Int) (w : World) :
    Calls Try.prog 33 #[itV ⟨5, ek, ea, ev, m, n, lo, hi, rk, rn, rv⟩] w (Tells (right ⟨5, ek, ea, ev, m, n, lo, hi, rk, rn, rv⟩) w) := by
  by_cases hw : okRes rk lo hi rn = true
  · have hc := Lib.hid (right_5 ek ea ev m n lo hi rk rn rv hw)
    have hE : ∀ w, (binOp .eql 65 (.agg #[.int .i64 5, .string ek, .int .i64 ea, .int .i64 ev, .int .i64 m, .int .i64 n, .int .i64 lo, .int .i64 hi, .string rk, .int .i64 rn, .int .i64 rv]) (.agg #[.int .i64 5, .string no, .int .i64 0, .int .i64 0, .int .i64 0, .int .i64 0, .int .i64 lo, .int .i64 hi, .string rk, .int .i64 rn, .int .i64 rv])).run Try.prog w = .ok (.bool (eqI ⟨5, ek, ea, ev, m, n, lo, hi, rk, rn, rv⟩ { bare 5 with lo := lo, hi := hi, rk := rk, rn := rn, rv := rv })) w := fun w => run_eqIt ⟨5, ek, ea, ev, m, n, lo, hi, rk, rn, rv⟩ { bare 5 with lo := lo, hi := hi, rk := rk, rn := rn, rv := rv } w
    go_enter Try.func33, Try.ntmps33
    go_wp2_with fail
    go_region_held3 (fun w' => w'.cell? ⟨w.heap.size, 6, none⟩ = some (.int .i64 lo) ∧ w'.cell? ⟨w.heap.size, 7, none⟩ = some (.int .i64 hi) ∧ w'.cell? ⟨w.heap.size, 8, none⟩ = some (.string rk) ∧ w'.cell? ⟨w.heap.size, 9, none⟩ = some (.int .i64 rn) ∧ w'.cell? ⟨w.heap.size, 10, none⟩ = some (.int .i64 rv)) (go_keep) ((go_at_call 45; refine (itResult _ _ _ _ _ _).mono ?_; rintro e w5 ⟨rfl, rfl⟩))
    go_wp2_with fail
    go_ret
    exact ⟨by rw [hc.out]; rfl, by repeat first | exact Below.refl _ _ | refine below_drewOf ?_ | refine below_al ?_⟩
  · have hw' : okRes rk lo hi rn = false := by simpa using hw
    have hc := Lib.hid (right_5n ek ea ev m n lo hi rk rn rv hw')
    clear hw
    go_enter Try.func33, Try.ntmps33
    go_wp2_with fail
    go_region_held3 (fun w' => w'.cell? ⟨w.heap.size, 6, none⟩ = some (.int .i64 lo) ∧ w'.cell? ⟨w.heap.size, 7, none⟩ = some (.int .i64 hi) ∧ w'.cell? ⟨w.heap.size, 8, none⟩ = some (.string rk) ∧ w'.cell? ⟨w.heap.size, 9, none⟩ = some (.int .i64 rn) ∧ w'.cell? ⟨w.heap.size, 10, none⟩ = some (.int .i64 rv)) (go_keep) ((go_at_call 45; refine (itResult _ _ _ _ _ _).mono ?_; rintro e w5 ⟨rfl, rfl⟩))
    go_wp2_with fail
    go_ret
    exact ⟨by rw [hc.out]; rfl, by repeat first | exact Below.refl _ _ | refine below_drewOf ?_ | refine below_al ?_⟩
theorem itRight_3 (ek : ByteArray) (ea ev m n lo hi : Int) (rk : ByteArray) (rn rv : Int) (w : World) :
    Calls Try.prog 33 #[itV ⟨3, ek, ea, ev, m, n, lo, hi, rk, rn, rv⟩] w (Tells (right ⟨3, ek, ea, ev, m, n, lo, hi, rk, rn, rv⟩) w) := by
  have hc := Lib.hid (right_3 ek ea ev m n lo hi rk rn rv)
  have hE : ∀ w, (binOp .eql 65 (.agg #[.int .i64 3, .string ek, .int .i64 ea, .int .i64 ev, .int .i64 m, .int .i64 n, .int .i64 lo, .int .i64 hi, .string rk, .int .i64 rn, .int .i64 rv]) (.agg #[.int .i64 3, .string no, .int .i64 0, .int .i64 0, .int .i64 0, .int .i64 0, .int .i64 0, .int .i64 0, .string no, .int .i64 0, .int .i64 0])).run Try.prog w = .ok (.bool (eqI ⟨3, ek, ea, ev, m, n, lo, hi, rk, rn, rv⟩ (bare 3))) w := fun w => run_eqIt ⟨3, ek, ea, ev, m, n, lo, hi, rk, rn, rv⟩ (bare 3) w
  go_enter Try.func33, Try.ntmps33
  go_wp2_with fail
  go_ret
  exact ⟨by rw [hc.out]; rfl, by repeat first | exact Below.refl _ _ | refine below_drewOf ?_ | refine below_al ?_⟩
theorem right_else (k : Int) (ek : ByteArray) (ea ev m n lo hi : Int) (rk : ByteArray) (rn rv : Int) (h1 : k ≠ 1) (h2 : k ≠ 2) (h3 : k ≠ 3) (h4 : k ≠ 4) (h5 : k ≠ 5) : right ⟨k, ek, ea, ev, m, n, lo, hi, rk, rn, rv⟩ = false := by simp [right, h1, h2, h3, h4, h5]
theorem itRight_else (k : Int) (ek : ByteArray) (ea ev m n lo hi : Int) (rk : ByteArray) (rn rv : Int) (h1 : k ≠ 1) (h2 : k ≠ 2) (h3 : k ≠ 3) (h4 : k ≠ 4) (h5 : k ≠ 5) (w : World) :
    Calls Try.prog 33 #[itV ⟨k, ek, ea, ev, m, n, lo, hi, rk, rn, rv⟩] w (Tells (right ⟨k, ek, ea, ev, m, n, lo, hi, rk, rn, rv⟩) w) := by
  have hc := Lib.hid (right_else k ek ea ev m n lo hi rk rn rv h1 h2 h3 h4 h5)
  have e1 := ne_b h1
  have e2 := ne_b h2
  have e3 := ne_b h3
  have e4 := ne_b h4
  have e5 := ne_b h5
  clear h1 h2 h3 h4 h5
  go_enter Try.func33, Try.ntmps33
  go_wp2_with fail
  go_ret
  exact ⟨by rw [hc.out]; rfl, by repeat first | exact Below.refl _ _ | refine below_drewOf ?_ | refine below_al ?_⟩
theorem itRight (a : It) (w : World) : Calls Try.prog 33 #[itV a] w (Tells (right a) w) := by
  obtain ⟨k, ek, ea, ev, m, n, lo, hi, rk, rn, rv⟩ := a
  by_cases h1 : k = 1
  · subst h1; exact itRight_1 ek ea ev m n lo hi rk rn rv w
  by_cases h2 : k = 2
  · subst h2; exact itRight_2 ek ea ev m n lo hi rk rn rv w
  by_cases h3 : k = 3
  · subst h3; exact itRight_3 ek ea ev m n lo hi rk rn rv w
  by_cases h4 : k = 4
  · subst h4; exact itRight_4 ek ea ev m n lo hi rk rn rv w
  by_cases h5 : k = 5
  · subst h5; exact itRight_5 ek ea ev m n lo hi rk rn rv w
  exact itRight_else k ek ea ev m n lo hi rk rn rv h1 h2 h3 h4 h5 w
end Go.Proofs.Ytmkbdlailffjeaa
