/- Contract of what writes a result. -/
import Derived.Test.YthgafhinlchghaaItemPut
namespace Go.Proofs.Ythgafhinlchghaa
open Go.RowKit
open Itm Vlq
set_option linter.unusedVariables false
theorem keepB5 {W a b : World} {p0 p1 p2 p3 p4 : Addr} {u0 u1 u2 u3 u4 : Value} (hb : Below a.heap.size a b)
    (h : a.cell? p0 = some u0 ∧ a.cell? p1 = some u1 ∧ a.cell? p2 = some u2 ∧ a.cell? p3 = some u3 ∧ a.cell? p4 = some u4 ∧ Below W.heap.size W a) :
    b.cell? p0 = some u0 ∧ b.cell? p1 = some u1 ∧ b.cell? p2 = some u2 ∧ b.cell? p3 = some u3 ∧ b.cell? p4 = some u4 ∧ Below W.heap.size W b :=
  ⟨keep1 hb h.1, keep1 hb h.2.1, keep1 hb h.2.2.1, keep1 hb h.2.2.2.1, keep1 hb h.2.2.2.2.1, below_next h.2.2.2.2.2 hb⟩
theorem res_box (lo hi : Int) (k : ByteArray) (n v : Int) (w : World) (t : TypeId) : Below w.heap.size w (w.alloc (.cells (resC lo hi k n v) t)) ∧ (w.alloc (.cells (resC lo hi k n v) t)).cell? ⟨w.heap.size, 0, none⟩ = some (.int .i64 lo) ∧ (w.alloc (.cells (resC lo hi k n v) t)).cell? ⟨w.heap.size, 1, none⟩ = some (.int .i64 hi) ∧ (w.alloc (.cells (resC lo hi k n v) t)).cell? ⟨w.heap.size, 2, none⟩ = some (.string k) ∧ (w.alloc (.cells (resC lo hi k n v) t)).cell? ⟨w.heap.size, 3, none⟩ = some (.int .i64 n) ∧ (w.alloc (.cells (resC lo hi k n v) t)).cell? ⟨w.heap.size, 4, none⟩ = some (.int .i64 v) := by
  refine ⟨below_al (Below.refl _ _), ?_, ?_, ?_, ?_, ?_⟩
  all_goals (unfold World.cell?; rw [show (w.alloc (.cells (resC lo hi k n v) t)).heap[w.heap.size]? = _ from heap_alloc_new w _]; rfl)
set_option maxHeartbeats 4000000 in
theorem itPutResult (lo hi : Int) (k : ByteArray) (n v : Int) (hk : k.size ≤ 16) (l0 : 0 ≤ lo) (l1 : lo ≤ 1099511627776) (g0 : 0 ≤ hi) (g1 : hi ≤ 1099511627776) (n0 : 0 ≤ n) (n1 : n ≤ 1099511627776)
    (h2 : -9223372036854775808 ≤ v) (h3 : v ≤ 9223372036854775807) (w : World) :
    Calls Try.prog 25 #[resV lo hi k n v] w (IsStr (resB k lo hi n v) w) := by
  obtain ⟨SK, lK, zK, hK⟩ := str_text hk
  obtain ⟨SL, lL, zL, hL⟩ := str_num l0 (by omega)
  obtain ⟨SH, lH, zH, hH⟩ := str_num g0 (by omega)
  obtain ⟨SN, lN, zN, hN⟩ := str_num n0 (by omega)
  obtain ⟨SV, lV, zV, hV⟩ := str_signed h2 h3
  have hc := Lib.hid (of_sl (show sl (SK ++ SL ++ SH ++ SN ++ SV) = resB k lo hi n v by rw [sl_cat, sl_cat, sl_cat, sl_cat, lK, lL, lH, lN, lV]; rfl))
  have q1 := add_run (a := SK) (b := SL) (by omega)
  have q2 := add_run (a := SK ++ SL) (b := SH) (by have := app_le zK zL; omega)
  have q3 := add_run (a := SK ++ SL ++ SH) (b := SN) (by have := app_le (app_le zK zL) zH; omega)
  have q4 := add_run (a := SK ++ SL ++ SH ++ SN) (b := SV) (by have := app_le (app_le (app_le zK zL) zH) zN; omega)
  clear hk l0 l1 g0 g1 n0 n1 h2 h3 lK lL lH lN lV
  go_enter Try.func25, Try.ntmps25
  go_wp2_with fail
  obtain ⟨hb1, c0, c1, c2, c3, c4⟩ := res_box lo hi k n v w 27
  generalize w.alloc (.cells (resC lo hi k n v) 27) = w1 at hb1 c0 c1 c2 c3 c4 ⊢
  have S0 : w1.drew.cell? ⟨w.heap.size, 0, none⟩ = some (.int .i64 lo) ∧ w1.drew.cell? ⟨w.heap.size, 1, none⟩ = some (.int .i64 hi) ∧ w1.drew.cell? ⟨w.heap.size, 2, none⟩ = some (.string k) ∧ w1.drew.cell? ⟨w.heap.size, 3, none⟩ = some (.int .i64 n) ∧ w1.drew.cell? ⟨w.heap.size, 4, none⟩ = some (.int .i64 v) ∧ Below w.heap.size w w1.drew := ⟨c0, c1, c2, c3, c4, below_drewOf hb1⟩
  go_region_held3 (fun w' => w'.cell? ⟨w.heap.size, 0, none⟩ = some (.int .i64 lo) ∧ w'.cell? ⟨w.heap.size, 1, none⟩ = some (.int .i64 hi) ∧ w'.cell? ⟨w.heap.size, 2, none⟩ = some (.string k) ∧ w'.cell? ⟨w.heap.size, 3, none⟩ = some (.int .i64 n) ∧ w'.cell? ⟨w.heap.size, 4, none⟩ = some (.int .i64 v) ∧ Below w.heap.size w w')
    (first | assumption | exact keepB5 hb5 (by assumption))
    ((first | (go_at_call 34; refine (Gives1.run (f := 34) (by assumption) _).mono ?_; rintro e w5 ⟨rfl, hb5⟩) | (go_at_call 23; refine (Gives1.run (f := 23) (by assumption) _).mono ?_; rintro e w5 ⟨rfl, hb5⟩) | (go_at_call 35; refine (Gives1.run (f := 35) (by assumption) _).mono ?_; rintro e w5 ⟨rfl, hb5⟩)))
  rename_i hs
  have hb6 := hs.2.2.2.2.2
  clear hs
  go_wp2_with fail
  go_ret
  exact ⟨by rw [← hc.out]; rfl, hb6⟩
end Go.Proofs.Ythgafhinlchghaa
