/- Contracts of what writes items, of package item and of the reference. -/
import Derived.Test.YthgafhinlchghaaItemOk
import Derived.Test.YthgafhinlchghaaVlqPut
namespace Go.Proofs.Ythgafhinlchghaa
open Go.RowKit
open Itm Vlq
set_option linter.unusedVariables false
set_option maxRecDepth 100000 in
theorem itNum (z : Int) (h0 : 0 ≤ z) (h1 : z ≤ 9223372036854775807) (w : World) : Calls Try.prog 23 #[.int .i64 z] w (IsStr (enc z.toNat) w) := by
  obtain ⟨n, rfl⟩ := Int.eq_ofNat_of_zero_le h0
  have HV := Lib.hid (fun w => vlqPut_pos n h1 w)
  clear h0
  go_enter Try.func23, Try.ntmps23
  go_wp2_with fail
  refine (HV.out _).mono ?_
  rintro e w2 ⟨rfl, hb⟩
  go_wp2_with fail
  go_ret
  exact ⟨rfl, hb⟩
theorem itText (s : ByteArray) (h : s.size ≤ 4096) (w : World) : Calls Try.prog 34 #[.string s] w (IsStr (enc s.size ++ sl s) w) := by
  have HV := Lib.hid (fun w => vlqText_ok s h w)
  go_enter Try.func34, Try.ntmps34
  go_wp2_with fail
  refine (HV.out _).mono ?_
  rintro e w2 ⟨rfl, hb⟩
  go_wp2_with fail
  go_ret
  exact ⟨rfl, hb⟩
set_option maxRecDepth 100000 in
theorem rfNum (z : Int) (h0 : 0 ≤ z) (h1 : z ≤ 9223372036854775807) (w : World) : Calls Try.prog 26 #[.int .i64 z] w (IsStr (enc z.toNat) w) := by
  obtain ⟨n, rfl⟩ := Int.eq_ofNat_of_zero_le h0
  have HV := Lib.hid (fun w => refDigits n (by omega) w)
  clear h0
  go_enter Try.func26, Try.ntmps26
  go_wp2_with fail
  refine (HV.out _).mono ?_
  rintro e w2 ⟨rfl, hb⟩
  go_wp2_with fail
  go_ret
  exact ⟨rfl, hb⟩
theorem rfText (s : ByteArray) (h : s.size ≤ 4096) (w : World) : Calls Try.prog 27 #[.string s] w (IsStr (enc s.size ++ sl s) w) := by
  have HV := Lib.hid (fun w => rfNum s.size (by omega) (by omega) w)
  have hc := Lib.hid (cat_eq (enc s.size) s)
  have hl := enc_len s.size (by omega)
  go_enter Try.func27, Try.ntmps27
  go_wp2_with fail
  refine (HV.out _).mono ?_
  rintro e w2 ⟨rfl, hb⟩
  go_wp2_with fail
  go_ret
  exact ⟨by rw [← hc.out]; rfl, hb⟩
theorem rfWhole (v : Int) (h1 : -9223372036854775808 ≤ v) (h2 : v ≤ 9223372036854775807) (w : World) : Calls Try.prog 28 #[.int .i64 v] w (IsStr (enc (zz v)) w) := by
  have HV := Lib.hid (fun w => refDigits (zz v) (zz_lt h1 h2) w)
  go_enter Try.func28, Try.ntmps28
  go_wp2_with fail
  refine (refFolded v h1 h2 _).mono ?_
  rintro e w2 ⟨rfl, rfl⟩
  go_wp2_with fail
  refine (HV.out _).mono ?_
  rintro e w2 ⟨rfl, hb⟩
  go_wp2_with fail
  go_ret
  exact ⟨rfl, hb⟩
theorem cat2 (l r : List UInt8) : (⟨l.toArray⟩ : ByteArray) ++ ⟨r.toArray⟩ = ⟨(l ++ r).toArray⟩ := cat_eq l _
theorem keep1 {a b : World} {p : Addr} {u : Value} (hb : Below a.heap.size a b) (h : a.cell? p = some u) : b.cell? p = some u := (hb.cell (lt_of_cell h)).trans h
/-- The bytes of an event, of a result. -/
def evB (k : ByteArray) (a v : Int) : List UInt8 := (enc k.size ++ sl k) ++ enc a.toNat ++ enc (zz v)
def resB (k : ByteArray) (lo hi n v : Int) : List UInt8 := (enc k.size ++ sl k) ++ enc lo.toNat ++ enc hi.toNat ++ enc n.toNat ++ enc (zz v)
/-- A call gives a string of these bytes, no longer than that. -/
def Gvs (S : ByteArray) (w : World) (e : Ending) (w' : World) : Prop := e = .returned (.string S) ∧ Below w.heap.size w w'
structure Gives1 (f : FuncId) (v : Value) (S : ByteArray) : Prop where
  run : ∀ w, Calls Try.prog f #[v] w (Gvs S w)
def Str (f : FuncId) (v : Value) (l : List UInt8) (n : Nat) : Prop := ∃ S : ByteArray, sl S = l ∧ S.size ≤ n ∧ Gives1 f v S
theorem str_of {f : FuncId} {v : Value} {l : List UInt8} {n : Nat} (hl : l.length ≤ n) (h : ∀ w, Calls Try.prog f #[v] w (IsStr l w)) : Str f v l n :=
  ⟨⟨l.toArray⟩, rfl, by rw [Lib.size_eq]; exact hl, ⟨h⟩⟩
theorem str_num {z : Int} (h0 : 0 ≤ z) (h1 : z ≤ 9223372036854775807) : Str 23 (.int .i64 z) (enc z.toNat) 10 := str_of (enc_len _ (by omega)) (itNum z h0 h1)
theorem str_rfnum {z : Int} (h0 : 0 ≤ z) (h1 : z ≤ 9223372036854775807) : Str 26 (.int .i64 z) (enc z.toNat) 10 := str_of (enc_len _ (by omega)) (rfNum z h0 h1)
theorem txt_len {s : ByteArray} (h : s.size ≤ 16) : (enc s.size ++ sl s).length ≤ 26 := by
  have h1 := enc_len s.size (by omega)
  have h2 : (sl s).length = s.size := by simp [sl]
  rw [List.length_append]; omega
theorem str_text {s : ByteArray} (h : s.size ≤ 16) : Str 34 (.string s) (enc s.size ++ sl s) 26 := str_of (txt_len h) (itText s (by omega))
theorem str_rftext {s : ByteArray} (h : s.size ≤ 16) : Str 27 (.string s) (enc s.size ++ sl s) 26 := str_of (txt_len h) (rfText s (by omega))
theorem str_signed {v : Int} (h1 : -9223372036854775808 ≤ v) (h2 : v ≤ 9223372036854775807) : Str 35 (.int .i64 v) (enc (zz v)) 10 := str_of (enc_len _ (zz_lt h1 h2)) (vlqSigned v h1 h2)
theorem str_whole {v : Int} (h1 : -9223372036854775808 ≤ v) (h2 : v ≤ 9223372036854775807) : Str 28 (.int .i64 v) (enc (zz v)) 10 := str_of (enc_len _ (zz_lt h1 h2)) (rfWhole v h1 h2)
theorem sl_cat (a b : ByteArray) : sl (a ++ b) = sl a ++ sl b := by
  show (a ++ b).data.toList = _
  rw [ByteArray.data_append, Array.toList_append]
theorem of_sl {a : ByteArray} {l : List UInt8} (h : sl a = l) : a = ⟨l.toArray⟩ := by subst h; rfl
theorem add_run {a b : ByteArray} (h : a.size + b.size ≤ 100000) (w : World) : (Op.stringOp .add a b).run Try.prog w = .ok (.string (a ++ b)) w := run_string_add_sum (P := Try.prog) w a b (by omega)
theorem app_le {a b : ByteArray} {n m : Nat} (h1 : a.size ≤ n) (h2 : b.size ≤ m) : (a ++ b).size ≤ n + m := by rw [ByteArray.size_append]; omega
theorem ev_box (k : ByteArray) (a v : Int) (w : World) (t : TypeId) : Below w.heap.size w (w.alloc (.cells (evC k a v) t)) ∧ (w.alloc (.cells (evC k a v) t)).cell? ⟨w.heap.size, 0, none⟩ = some (.string k) ∧
    (w.alloc (.cells (evC k a v) t)).cell? ⟨w.heap.size, 1, none⟩ = some (.int .i64 a) ∧ (w.alloc (.cells (evC k a v) t)).cell? ⟨w.heap.size, 2, none⟩ = some (.int .i64 v) := by
  refine ⟨below_al (Below.refl _ _), ?_, ?_, ?_⟩
  all_goals (unfold World.cell?; rw [show (w.alloc (.cells (evC k a v) t)).heap[w.heap.size]? = _ from heap_alloc_new w _]; rfl)
theorem keepB3 {W a b : World} {p0 p1 p2 : Addr} {u0 u1 u2 : Value} (hb : Below a.heap.size a b) (h : a.cell? p0 = some u0 ∧ a.cell? p1 = some u1 ∧ a.cell? p2 = some u2 ∧ Below W.heap.size W a) :
    b.cell? p0 = some u0 ∧ b.cell? p1 = some u1 ∧ b.cell? p2 = some u2 ∧ Below W.heap.size W b :=
  ⟨keep1 hb h.1, keep1 hb h.2.1, keep1 hb h.2.2.1, below_next h.2.2.2 hb⟩
theorem itPutEvent (k : ByteArray) (a v : Int) (hk : k.size ≤ 16) (h0 : 0 ≤ a) (h1 : a ≤ 1099511627776) (h2 : -9223372036854775808 ≤ v) (h3 : v ≤ 9223372036854775807) (w : World) :
    Calls Try.prog 24 #[evV k a v] w (IsStr (evB k a v) w) := by
  obtain ⟨SK, lK, zK, hK⟩ := str_text hk
  obtain ⟨SA, lA, zA, hA⟩ := str_num h0 (by omega)
  obtain ⟨SV, lV, zV, hV⟩ := str_signed h2 h3
  have hc := Lib.hid (of_sl (show sl (SK ++ SA ++ SV) = evB k a v by rw [sl_cat, sl_cat, lK, lA, lV]; rfl))
  have q1 := add_run (a := SK) (b := SA) (by omega)
  have q2 := add_run (a := SK ++ SA) (b := SV) (by have := app_le zK zA; omega)
  clear hk h0 h1 h2 h3 lK lA lV
  go_enter Try.func24, Try.ntmps24
  go_wp2_with fail
  obtain ⟨hb1, c0, c1, c2⟩ := ev_box k a v w 23
  generalize w.alloc (.cells (evC k a v) 23) = w1 at hb1 c0 c1 c2 ⊢
  have S0 : w1.drew.cell? ⟨w.heap.size, 0, none⟩ = some (.string k) ∧ w1.drew.cell? ⟨w.heap.size, 1, none⟩ = some (.int .i64 a) ∧ w1.drew.cell? ⟨w.heap.size, 2, none⟩ = some (.int .i64 v) ∧ Below w.heap.size w w1.drew := ⟨c0, c1, c2, below_drewOf hb1⟩
  go_region_held3 (fun w' => w'.cell? ⟨w.heap.size, 0, none⟩ = some (.string k) ∧ w'.cell? ⟨w.heap.size, 1, none⟩ = some (.int .i64 a) ∧ w'.cell? ⟨w.heap.size, 2, none⟩ = some (.int .i64 v) ∧ Below w.heap.size w w')
    (first | assumption | exact keepB3 hb5 (by assumption))
    ((first | (go_at_call 34; refine (Gives1.run (f := 34) (by assumption) _).mono ?_; rintro e w5 ⟨rfl, hb5⟩) | (go_at_call 23; refine (Gives1.run (f := 23) (by assumption) _).mono ?_; rintro e w5 ⟨rfl, hb5⟩) | (go_at_call 35; refine (Gives1.run (f := 35) (by assumption) _).mono ?_; rintro e w5 ⟨rfl, hb5⟩)))
  rename_i hs
  have hb6 := hs.2.2.2
  clear hs
  go_wp2_with fail
  go_ret
  exact ⟨by rw [← hc.out]; rfl, hb6⟩
end Go.Proofs.Ythgafhinlchghaa
