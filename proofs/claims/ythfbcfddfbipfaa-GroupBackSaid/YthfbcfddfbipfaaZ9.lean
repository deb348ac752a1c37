/- VlqPut, ItemPut, Clone, VlqRead, put together. -/
import Derived.Test.YthfbcfddfbipfaaZ8
import Derived.Test.YthfbcfddfbipfaaRows
import Derived.Test.YthfbcfddfbipfaaZ3
import Derived.Lib.Strings
import Derived.Lib.Walk
import Derived.Lib.BufferWrite
import Derived.Lib.UnsafeStr
import Derived.Laws.MakeOwn
/- Contracts of package vlq's calls that write, and of the reference's. -/
namespace Go.Proofs.Ythfbcfddfbipfaa
open Go.RowKit
open Vlq
set_option linter.unusedVariables false
def IsStrErr (l : List UInt8) (r : Int) (w : World) (e : Ending) (w' : World) : Prop := e = .returned (.tuple #[.string ⟨l.toArray⟩, .int .i64 r]) ∧ Below w.heap.size w w'
theorem zz_neg {n : Int} (h : n < 0) : ((zz n : Nat) : Int) = 2 * -(n + 1) + 1 := by unfold zz; rw [if_pos h]; omega
theorem zz_pos {n : Int} (h : 0 ≤ n) : ((zz n : Nat) : Int) = 2 * n := by unfold zz; rw [if_neg (by omega)]; omega
set_option maxRecDepth 100000 in
theorem vlqZigzag (n : Int) (h1 : -9223372036854775808 ≤ n) (h2 : n ≤ 9223372036854775807) (w : World) :
    Calls Try.prog 83 #[.int .i64 n] w fun e w' => e = .returned (.int .u64 (zz n : Nat)) ∧ w = w' := by
  rcases Int.lt_or_le n 0 with h | h
  · have hc := Lib.hid (zz_neg h)
    go_enter Try.func83, Try.ntmps83
    go_wp2
    go_ret
    exact ⟨by rw [hc.out]; rfl, rfl⟩
  · have hc := Lib.hid (zz_pos h)
    go_enter Try.func83, Try.ntmps83
    go_wp2
    go_ret
    exact ⟨by rw [hc.out]; rfl, rfl⟩
theorem mul_two (a : Int) : a * 2 = 2 * a := by omega
set_option maxRecDepth 100000 in
theorem refFolded (n : Int) (h1 : -9223372036854775808 ≤ n) (h2 : n ≤ 9223372036854775807) (w : World) :
    Calls Try.prog 95 #[.int .i64 n] w fun e w' => e = .returned (.int .u64 (zz n : Nat)) ∧ w = w' := by
  rcases Int.lt_or_le n 0 with h | h
  · have hc := Lib.hid (zz_neg h)
    go_enter Try.func95, Try.ntmps95
    go_wp2
    go_ret
    exact ⟨by rw [hc.out, ← mul_two]; rfl, rfl⟩
  · have hc := Lib.hid (zz_pos h)
    go_enter Try.func95, Try.ntmps95
    go_wp2
    go_ret
    exact ⟨by rw [hc.out, ← mul_two]; rfl, rfl⟩
theorem vlqSigned (n : Int) (h1 : -9223372036854775808 ≤ n) (h2 : n ≤ 9223372036854775807) (w : World) :
    Calls Try.prog 50 #[.int .i64 n] w (IsStr (enc (zz n)) w) := by
  go_enter Try.func50, Try.ntmps50
  go_wp2_with fail
  refine (vlqZigzag n h1 h2 _).mono ?_
  rintro e w' ⟨rfl, rfl⟩
  go_wp2_with fail
  refine (vlqEncode _ (zz_lt h1 h2) _).mono ?_
  rintro e w2 ⟨rfl, hb⟩
  go_wp2_with fail
  go_ret
  exact ⟨rfl, hb⟩
theorem vlqPut_neg (n : Int) (h : n < 0) (w : World) :
    Calls Try.prog 81 #[.int .i64 n] w (IsStrErr [] 1 w) := by
  go_enter Try.func81, Try.ntmps81
  go_wp2_with fail
  go_ret2
  exact ⟨rfl, Below.refl _ _⟩
set_option maxRecDepth 100000 in
theorem vlqPut_pos (n : Nat) (h : (n : Int) ≤ 9223372036854775807) (w : World) :
    Calls Try.prog 81 #[.int .i64 n] w (IsStrErr (enc n) 0 w) := by
  go_enter Try.func81, Try.ntmps81
  go_wp2_with fail
  refine (vlqEncode n (by omega) _).mono ?_
  rintro e w2 ⟨rfl, hb⟩
  go_wp2_with fail
  go_ret2
  exact ⟨rfl, hb⟩
/-- The bytes of a string, as a list. -/
abbrev sl (s : ByteArray) : List UInt8 := s.data.toList
theorem cat_eq (l : List UInt8) (s : ByteArray) : (⟨l.toArray⟩ : ByteArray) ++ s = ⟨(l ++ sl s).toArray⟩ := by
  apply ByteArray.ext
  rw [ByteArray.data_append]
  apply Array.ext'
  simp
theorem vlqText_long (s : ByteArray) (h : 4096 < s.size) (w : World) :
    Calls Try.prog 85 #[.string s] w (IsStrErr [] 2 w) := by
  go_enter Try.func85, Try.ntmps85
  go_wp2_with fail
  go_ret2
  exact ⟨rfl, Below.refl _ _⟩
set_option maxRecDepth 100000 in
theorem vlqText_ok (s : ByteArray) (h : s.size ≤ 4096) (w : World) :
    Calls Try.prog 85 #[.string s] w (IsStrErr (enc s.size ++ sl s) 0 w) := by
  have hl := enc_len s.size (by omega)
  have hc := Lib.hid (cat_eq (enc s.size) s)
  go_enter Try.func85, Try.ntmps85
  go_wp2_with fail
  refine (vlqEncode s.size (by omega) _).mono ?_
  rintro e w2 ⟨rfl, hb⟩
  go_wp2_with fail
  go_ret2
  exact ⟨by rw [← hc.out]; rfl, hb⟩
theorem own_one {w : World} {B : Nat} {e : TypeId} {u : Value} (h : B ≤ w.heap.size) : (w.alloc (.cells #[u] e)).ownsRow B e 1 (.slice (some ⟨w.heap.size, 0, none⟩) 1 1) 1 [u] :=
  ⟨rfl, .inr ⟨w.heap.size, 1, #[u], rfl, h, heap_alloc_new w _, Nat.le_refl _, by simp [maxLen], by simp, by simp⟩⟩
theorem one_u8 (w : World) (t : TypeId) {x : Int} {c : UInt8} (h : x = c.toNat) : Row (w.alloc (.cells #[.int .u8 x] t)) (some ⟨w.heap.size, 0, none⟩) ([c].map u8v) := by
  subst h; exact one_new _ _ _
theorem half_next {n m : Nat} (hm : 0 < m) {l : List UInt8} (h : hi m ++ l = enc n) : hi (m / 128) ++ (UInt8.ofNat (m % 128 + 128) :: l) = enc n := by
  rw [← h, hi_pos (by omega : m ≠ 0), List.append_assoc]; rfl
/-- Where the digits stand while the reference puts them ahead, one by one. -/
def Half (n m : Nat) (v : Value) (wr w : World) : Prop :=
  ∃ A c l, v = .slice A l.length c ∧ l.length ≤ c ∧ c ≤ maxLen ∧ Row wr A (l.map u8v) ∧ hi m ++ l = enc n ∧ Below w.heap.size w wr
theorem refEnd (n : Nat) (hn : n < 18446744073709551616) {l : List UInt8} {m : Nat} (h : hi m ++ l = enc n) : l.length ≤ 10 := by
  have h1 := enc_len n hn
  rw [← h, List.length_append] at h1
  omega
set_option maxRecDepth 100000 in
theorem refDigits (n : Nat) (hn : n < 18446744073709551616) (w : World) : Calls Try.prog 94 #[.int .u64 n] w (IsStr (enc n) w) := by
  obtain ⟨i0, hi0, hz0, hz1, hz2⟩ := info_parts info_u8
  go_enter Try.func94, Try.ntmps94
  go_wp2_with fail
  go_loopw [0, 3] (fun u v wr => ∃ m : Nat, m ≤ n ∧ u = .int .u64 m ∧ Half n m v wr w) (fun u _ _ => (intOf u).toNat)
  case atStart => exact ⟨n / 128, Nat.div_le_self _ _, by go_num, _, _, [UInt8.ofNat (n % 128)], rfl, by simp, by simp [maxLen], one_u8 _ _ (u8_arg0 n).symm, rfl, (Below.refl _ _).alloc (Nat.le_refl _) _⟩
  case round =>
    obtain ⟨m, hmn, rfl, A, c, l, rfl, hlc, hcm, hr, he, hb⟩ := hrel
    have hll := refEnd n hn he
    by_cases hm : 0 < m
    · have hx := u8_arg m
      have HX := Lib.hid hx.symm
      have HE := Lib.hid (half_next hm he)
      have hwr := hb.size
      clear hx he
      go_wp2_with
        (at_builtin
         refine wpApp rfl (.tmp 16) (.tmp 17) _ rfl w.heap.size 5 i0 _ 1 1 Try.underlying80 hi0 hz0 hz1 hz2 rfl (by omega) _ 1 [.int .u8 ((m : Int) % 128 + 128)] rfl (own_one hwr) A l.length c (l.map u8v) rfl (hr.below ((Below.refl _ _).alloc (Nat.le_refl _) _)) (by simp) (by intro u hu; obtain ⟨z, _, rfl⟩ := List.mem_map.1 hu; rfl) (by unfold maxLen; omega) (by omega) (by simp; omega) ?_
         intro v1 w1 hown1 hb1
         have hbw := (hb.alloc hwr (.cells #[.int .u8 ((m : Int) % 128 + 128)] 5)).trans hb1
         obtain ⟨A1, k1, rfl, g1, g2, _, hr1, _⟩ := own_form hown1 (by omega)
         clear hown1 hb1 hr hb)
      go_roundw
      case rel =>
        refine ⟨m / 128, Nat.le_trans (Nat.div_le_self _ _) hmn, by go_num, A1, k1, UInt8.ofNat (m % 128 + 128) :: l, ?_, ?_, g2, ?_, HE.out, hbw⟩
        · rw [List.length_cons, Nat.add_comm]
        · rw [List.length_cons]; omega
        · rw [List.map_cons, u8v, ← HX.out]; exact hr1
      case measure => simp [intOf]; omega
    · obtain rfl : m = 0 := by omega
      rw [hi_zero, List.nil_append] at he
      subst he
      have hcv := run_row_str (P := Try.prog) (c := c) Try.underlying80 Try.underlying5 Try.underlying9 hr
      clear hr
      go_wp2_with fail
      go_ret
      exact ⟨rfl, hb⟩
end Go.Proofs.Ythfbcfddfbipfaa
/- Contracts of what writes items, of package item and of the reference. -/
namespace Go.Proofs.Ythfbcfddfbipfaa
open Go.RowKit
open Itm Vlq
set_option linter.unusedVariables false
set_option maxRecDepth 8000
theorem cat2 (l r : List UInt8) : (⟨l.toArray⟩ : ByteArray) ++ ⟨r.toArray⟩ = ⟨(l ++ r).toArray⟩ := cat_eq l _
theorem keep1 {a b : World} {p : Addr} {u : Value} (hb : Below a.heap.size a b) (h : a.cell? p = some u) : b.cell? p = some u := (hb.cell (lt_of_cell h)).trans h
/-- The bytes of an event, of a result. -/
def evB (k : ByteArray) (a v : Int) : List UInt8 := (enc k.size ++ sl k) ++ enc a.toNat ++ enc (zz v)
def resB (k : ByteArray) (lo hi n v : Int) : List UInt8 := (enc k.size ++ sl k) ++ enc lo.toNat ++ enc hi.toNat ++ enc n.toNat ++ enc (zz v)
/-- A call gives a string of these bytes, no longer than that. -/
def Gvs (S : ByteArray) (w : World) (e : Ending) (w' : World) : Prop := e = .returned (.string S) ∧ Below w.heap.size w w'
structure Gives1 (f : FuncId) (v : Value) (S : ByteArray) : Prop where
  run : ∀ w, Calls Try.prog f #[v] w (Gvs S w)
def Str (f : FuncId) (v : Value) (l : List UInt8) (n : Nat) : Prop := ∃ S : ByteArray, sl S = l ∧ S.size ≤ n ∧ Gives1 f v S
theorem str_of {f : FuncId} {v : Value} {l : List UInt8} {n : Nat} (hl : l.length ≤ n) (h : ∀ w, Calls Try.prog f #[v] w (IsStr l w)) : Str f v l n :=
  ⟨⟨l.toArray⟩, rfl, by rw [Lib.size_eq]; exact hl, ⟨h⟩⟩
theorem txt_len {s : ByteArray} (h : s.size ≤ 16) : (enc s.size ++ sl s).length ≤ 26 := by
  have h1 := enc_len s.size (by omega)
  have h2 : (sl s).length = s.size := by simp [sl]
  rw [List.length_append]; omega
theorem str_signed {v : Int} (h1 : -9223372036854775808 ≤ v) (h2 : v ≤ 9223372036854775807) : Str 50 (.int .i64 v) (enc (zz v)) 10 := str_of (enc_len _ (zz_lt h1 h2)) (vlqSigned v h1 h2)
theorem sl_cat (a b : ByteArray) : sl (a ++ b) = sl a ++ sl b := by
  show (a ++ b).data.toList = _
  rw [ByteArray.data_append, Array.toList_append]
theorem of_sl {a : ByteArray} {l : List UInt8} (h : sl a = l) : a = ⟨l.toArray⟩ := by subst h; rfl
theorem add_run {a b : ByteArray} (h : a.size + b.size ≤ 100000) (w : World) : (Op.stringOp .add a b).run Try.prog w = .ok (.string (a ++ b)) w := run_string_add_sum (P := Try.prog) w a b (by omega)
theorem app_le {a b : ByteArray} {n m : Nat} (h1 : a.size ≤ n) (h2 : b.size ≤ m) : (a ++ b).size ≤ n + m := by rw [ByteArray.size_append]; omega
theorem ev_box (k : ByteArray) (a v : Int) (w : World) (t : TypeId) : Below w.heap.size w (w.alloc (.cells (evC k a v) t)) ∧ (w.alloc (.cells (evC k a v) t)).cell? ⟨w.heap.size, 0, none⟩ = some (.string k) ∧
    (w.alloc (.cells (evC k a v) t)).cell? ⟨w.heap.size, 1, none⟩ = some (.int .i64 a) ∧ (w.alloc (.cells (evC k a v) t)).cell? ⟨w.heap.size, 2, none⟩ = some (.int .i64 v) := by
  refine ⟨below_al (Below.refl _ _), ?_, ?_, ?_⟩
  all_goals (unfold World.cell?; rw [show (w.alloc (.cells (evC k a v) t)).heap[w.heap.size]? = _ from heap_alloc_new w _]; rfl)
theorem keepB3 {W a b : World} {p0 p1 p2 : Addr} {u0 u1 u2 : Value} (hb : Below a.heap.size a b) (h : a.cell? p0 = some u0 ∧ a.cell? p1 = some u1 ∧ a.cell? p2 = some u2 ∧ Below W.heap.size W a) :
    b.cell? p0 = some u0 ∧ b.cell? p1 = some u1 ∧ b.cell? p2 = some u2 ∧ Below W.heap.size W b :=
  ⟨keep1 hb h.1, keep1 hb h.2.1, keep1 hb h.2.2.1, below_next h.2.2.2 hb⟩
end Go.Proofs.Ythfbcfddfbipfaa
/- Contract of strings.Clone: the same string; what was there stays. -/
namespace Go.Proofs.Ythfbcfddfbipfaa
open Go.RowKit
set_option linter.unusedVariables false
namespace Cloned
theorem info_b : (Try.prog.info? 5).map (fun i => (i.zero, i.size, i.bytes)) = some (some (.int .u8 0), 1, 1) := by kernel_rfl
/-- The copy's bytes in the row that was made. -/
theorem laid (s : ByteArray) (w : World) (M : Array Value) (hM : M.size = s.size) :
    ∃ Y : Array Value, Y.size = s.size ∧ Y.toList = Lib.byteCells s.data.toList ∧
      Y = (M.toList.take 0 ++ Lib.byteCells s.data.toList ++ M.toList.drop (0 + s.size)).toArray := by
  refine ⟨_, ?_, ?_, rfl⟩
  · rw [List.size_toArray, List.length_append, List.length_append, Lib.byteCells_length, ← Lib.size_eq, List.length_drop, Array.length_toList]
    simp; omega
  · rw [List.toList_toArray, List.take_zero, List.nil_append, List.drop_of_length_le (by rw [Array.length_toList]; omega), List.append_nil]
end Cloned
set_option maxHeartbeats 1000000 in
set_option maxRecDepth 100000 in
theorem liteClone (s : ByteArray) (w : World) (hlim : s.size ≤ 281474976710656) :
    Calls Try.prog 130 #[.string s] w fun e w' => e = .returned (.string s) ∧ Below w.heap.size w w' := by
  by_cases h0 : s.size = 0
  · obtain rfl : s = ⟨#[]⟩ := ByteArray.ext (Array.eq_empty_of_size_eq_zero h0)
    go_enter Try.func130, Try.ntmps130
    go_wp2
    go_ret
    exact ⟨rfl, Below.refl _ _⟩
  · obtain ⟨i0, hi, hz0, hz1, hz2⟩ := info_parts Cloned.info_b
    have hinfo : (Try.prog.info? 5).map (·.size) = some 1 := by rw [hi]; simp [hz1]
    have hco : Try.prog.cellsOf 5 = 1 := by simp [Program.cellsOf, hi, hz1]
    obtain ⟨M, hM⟩ : ∃ M, M = madeCells (Value.int .u8 0).cells (((s.size : Nat) : Int).toNat * i0.size) := ⟨_, rfl⟩
    have hMs : M.size = s.size := by rw [hM, size_madeCells, hz1]; simp
    have hmk : ∀ W : World, (Instr.makeSlice 80 (.int .i64 (s.size : Int)) (.int .i64 (s.size : Int))).run Try.prog W = .ok (.slice (some ⟨W.heap.size, 0, none⟩) s.size s.size) (W.alloc (.cells M 5)) := fun W => by
      have h := run_make (P := Try.prog) W 80 5 i0 (.int .u8 0) Try.underlying80 hi hz0 .i64 .i64 (s.size : Int) (s.size : Int) (by omega) (by omega) (by rw [hz2]; omega) (by omega)
      rw [← hM] at h
      simpa using h
    clear hM
    have hcp := Lib.run_copy_row_string (P := Try.prog) (w.alloc (.cells M 5)) 80 9 3 5 w.heap.size 0 s.size s.size s M 5 Try.underlying80 hinfo (heap_alloc_new w _) (Nat.le_refl _) (by omega)
    obtain ⟨Y, hYs, hYl, hY⟩ := Cloned.laid s w M hMs
    rw [← hY] at hcp
    have hgY : ((w.alloc (.cells M 5)).setRow w.heap.size Y).heap[w.heap.size]? = some (.cells Y 5 (0, 0)) := setRow_heap _ _ M _ 5 (0, 0) (heap_alloc_new w _)
    have hne : s.data.toList ≠ [] := fun e => h0 (by rw [Lib.size_eq, e]; rfl)
    have hUS := Lib.run_unsafeString_row (P := Try.prog) ((w.alloc (.cells M 5)).setRow w.heap.size Y) 127 3 9 5 Try.underlying127 hco w.heap.size Y.size (by unfold World.shape?; rw [hgY]) s.data.toList hne (by rw [← Lib.size_eq]; omega) (by rw [← Lib.size_eq]; omega)
      (fun j x hx => Lib.cells_of_row hgY Y.size j _ (by rw [List.take_of_length_le (by rw [Array.length_toList]; exact Nat.le_refl _), hYl]; simp [Lib.byteCells, hx]))
    rw [← Lib.size_eq] at hUS
    clear hY
    go_enter Try.func130, Try.ntmps130
    go_wp2
    go_ret
    have hb1 : Below w.heap.size w (w.alloc (.cells M 5)) := (Below.refl _ w).alloc (Nat.le_refl _) _
    have hb2 : Below w.heap.size (w.alloc (.cells M 5)) ((w.alloc (.cells M 5)).setRow w.heap.size Y) := ⟨rfl, rfl, rfl, by simp, fun k hk => setRow_other _ _ _ _ (by omega)⟩
    exact ⟨rfl, Lib.below_freeze (hb1.trans hb2) (p := ⟨w.heap.size, 0, none⟩) (Nat.le_refl _) _⟩
theorem strClone (s : ByteArray) (w : World) (hlim : s.size ≤ 281474976710656) :
    Calls Try.prog 118 #[.string s] w fun e w' => e = .returned (.string s) ∧ Below w.heap.size w w' := by
  go_enter Try.func118, Try.ntmps118
  go_wp2_with fail
  refine (liteClone s _ hlim).mono ?_
  rintro e w2 ⟨rfl, hb⟩
  go_wp2_with fail
  go_ret
  exact ⟨rfl, hb⟩
end Go.Proofs.Ythfbcfddfbipfaa
/- Contracts of package vlq's calls that read, and of the reference's. -/
namespace Go.Proofs.Ythfbcfddfbipfaa
open Go.RowKit
open Vlq
set_option linter.unusedVariables false
/-- A number, the place behind it and an error. -/
def Got (k : IntKind) (R : Nat × Nat × Nat) (w : World) (e : Ending) (w' : World) : Prop :=
  e = .returned (.tuple #[.int k (R.1 : Int), .int .i64 (R.2.1 : Int), .int .i64 (R.2.2 : Int)]) ∧ w = w'
theorem drop_cons (s : ByteArray) (k : Nat) (h : k < s.size) : (sl s).drop k = s[k] :: (sl s).drop (k + 1) := by
  rw [List.drop_eq_getElem_cons (by simpa [sl] using h)]; rfl
theorem drop_none (s : ByteArray) (k : Nat) (h : s.size ≤ k) : (sl s).drop k = [] := List.drop_of_length_le (by simpa [sl] using h)
theorem go_big {M n i : Nat} {c : UInt8} {r : List UInt8} (h : M / 128 < n) : rdGo M (c :: r) n i = (0, 0, 21) := by rw [rdGo, if_pos h]
theorem go_end {M n i : Nat} {c : UInt8} {r : List UInt8} (h : ¬ M / 128 < n) (h2 : c.toNat < 128) : rdGo M (c :: r) n i = (n * 128 + c.toNat % 128, i + 1, 0) := by rw [rdGo, if_neg h, if_pos h2]
theorem go_on {M n i : Nat} {c : UInt8} {r : List UInt8} (h : ¬ M / 128 < n) (h2 : ¬ c.toNat < 128) : rdGo M (c :: r) n i = rdGo M r (n * 128 + c.toNat % 128) (i + 1) := by rw [rdGo, if_neg h, if_neg h2]
theorem rd_first {M : Nat} {s : ByteArray} {i : Nat} (h : i < s.size) (h2 : s[i].toNat = 128) : rd M (sl s) i = (0, 0, 21) := by
  unfold rd
  rw [drop_cons s i h, if_pos]
  simp only [List.head?_cons, Option.some.injEq]
  exact u8_128.2 h2
theorem rd_rest {M : Nat} {s : ByteArray} {i : Nat} (h : i < s.size) (h2 : s[i].toNat ≠ 128) : rdGo M ((sl s).drop i) 0 i = rd M (sl s) i := by
  unfold rd
  rw [if_neg]
  rw [drop_cons s i h]
  simp only [List.head?_cons, Option.some.injEq]
  exact fun h => h2 (u8_128.1 h)
theorem rd_end {M : Nat} {s : ByteArray} {i : Nat} (h : s.size ≤ i) : rd M (sl s) i = (0, 0, 20) := by
  unfold rd
  rw [drop_none s i h]
  rfl
theorem u8_bd (c : UInt8) : 0 ≤ (c.toNat : Int) ∧ (c.toNat : Int) ≤ 255 := by have := u8_lt c; omega
set_option maxRecDepth 100000 in
theorem vlqRead_bad (s : ByteArray) (i most : Int) (w : World) (hs : s.size ≤ 9223372036854775807) (h : i < 0 ∨ (s.size : Int) < i) :
    Calls Try.prog 115 #[.string s, .int .i64 i, .int .u64 most] w (Got .u64 (0, 0, 1) w) := by
  rcases Int.lt_or_le i 0 with h' | h'
  · go_enter Try.func115, Try.ntmps115
    go_wp2_with fail
    go_ret3
    exact ⟨rfl, rfl⟩
  · have h2 : (s.size : Int) < i := by omega
    clear h
    go_enter Try.func115, Try.ntmps115
    go_wp2_with fail
    go_ret3
    exact ⟨rfl, rfl⟩
theorem rd_rest' {M : Nat} {s : ByteArray} {i : Nat} (h : s.size ≤ i) : rdGo M ((sl s).drop i) 0 i = rd M (sl s) i := by
  rw [rd_end h, drop_none s i h]; rfl
/-- What stands at the head of a round of reading. -/
def At (s : ByteArray) (M : Nat) (R : Nat × Nat × Nat) (n i : Value) : Prop :=
  ∃ k m : Nat, k ≤ s.size ∧ i = .int .i64 k ∧ n = .int .u64 m ∧ m < 18446744073709551616 ∧ rdGo M ((sl s).drop k) m k = R
set_option maxRecDepth 100000 in
set_option maxHeartbeats 400000 in
theorem vlqRead_ok (s : ByteArray) (i : Nat) (most : Int) (M : Nat) (hM : most = M) (hb : M < 18446744073709551616) (w : World) (hs : s.size ≤ 9223372036854775807) (h : i ≤ s.size) :
    Calls Try.prog 115 #[.string s, .int .i64 i, .int .u64 most] w (Got .u64 (rd M (sl s) i) w) := by
  subst hM
  obtain ⟨R, hR⟩ : ∃ R, R = rd M (sl s) i := ⟨_, rfl⟩
  rw [← hR]
  by_cases hlt : i < s.size
  · by_cases hc : s[i].toNat = 128
    · have HR := Lib.hid (hR.trans (rd_first (M := M) hlt hc))
      have hc' : ((s[i].toNat : Int) == 128) = true := by simp; omega
      clear hc hR
      go_enter Try.func115, Try.ntmps115
      go_wp2_with fail
      go_ret3
      exact ⟨by rw [HR.out]; rfl, rfl⟩
    · have hc' : ((s[i].toNat : Int) == 128) = false := by simp; omega
      have HR := Lib.hid ((rd_rest (M := M) hlt hc).trans hR.symm)
      clear hc hR
      go_enter Try.func115, Try.ntmps115
      go_wp2_with fail
      go_loop [9, 10] (fun n i => At s M R n i) (fun _ i => s.size - (intOf i).toNat)
      case atStart => exact ⟨i, 0, h, rfl, rfl, by omega, HR.out⟩
      case round =>
        clear hc' HR
        obtain ⟨k, m, hk, rfl, rfl, hm, hE⟩ := hrel
        by_cases hk' : k < s.size
        · rw [drop_cons s k hk'] at hE
          have hbd := u8_bd s[k]
          by_cases hbig : M / 128 < m
          · have HE := Lib.hid ((go_big hbig).symm.trans hE)
            clear hE
            go_wp2_with fail
            go_ret3
            exact ⟨by rw [← HE.out]; rfl, rfl⟩
          · by_cases hend : s[k].toNat < 128
            · have HE := Lib.hid ((go_end hbig hend).symm.trans hE)
              clear hE
              go_wp2_with fail
              go_ret3
              exact ⟨by rw [← HE.out]; rfl, rfl⟩
            · have HE := Lib.hid ((go_on hbig hend).symm.trans hE)
              clear hE
              go_wp2_with fail
              go_round
              case rel => exact ⟨k + 1, m * 128 + s[k].toNat % 128, by omega, by go_num, by go_num, by omega, HE.out⟩
              case measure => simp [intOf]; omega
        · rw [drop_none s k (by omega)] at hE
          have HE := Lib.hid hE
          clear hE
          go_wp2_with fail
          go_ret3
          exact ⟨by rw [← HE.out]; rfl, rfl⟩
  · have HR := Lib.hid (hR.trans (rd_end (M := M) (Nat.not_lt.1 hlt)))
    clear hR
    go_enter Try.func115, Try.ntmps115
    go_wp2_with fail
    go_loop [10] (fun i' => i' = .int .i64 i) (fun i' => 0)
    case atStart => rfl
    case round =>
      obtain rfl := hrel
      go_wp2_with fail
      go_ret3
      exact ⟨by rw [HR.out]; rfl, rfl⟩

set_option maxRecDepth 100000 in
theorem refRead_bad (s : ByteArray) (i most : Int) (w : World) (hs : s.size ≤ 9223372036854775807) (h : i < 0 ∨ (s.size : Int) < i) :
    Calls Try.prog 119 #[.string s, .int .i64 i, .int .u64 most] w (Got .u64 (0, 0, 1) w) := by
  rcases Int.lt_or_le i 0 with h' | h'
  · go_enter Try.func119, Try.ntmps119
    go_wp2_with fail
    go_ret3
    exact ⟨rfl, rfl⟩
  · have h2 : (s.size : Int) < i := by omega
    clear h
    go_enter Try.func119, Try.ntmps119
    go_wp2_with fail
    go_ret3
    exact ⟨rfl, rfl⟩
/-- The same for the reference: at the first place nothing has been read. -/
def AtR (s : ByteArray) (M i0 : Nat) (R : Nat × Nat × Nat) (n i : Value) : Prop :=
  ∃ k m : Nat, i0 ≤ k ∧ k ≤ s.size ∧ i = .int .i64 k ∧ n = .int .u64 m ∧ m < 18446744073709551616 ∧ (if k = i0 then m = 0 ∧ rd M (sl s) i0 = R else rdGo M ((sl s).drop k) m k = R)
set_option maxRecDepth 100000 in
set_option maxHeartbeats 4000000 in
theorem refRead_ok (s : ByteArray) (i : Nat) (most : Int) (M : Nat) (hM : most = M) (h127 : M % 128 = 127) (hb : M < 18446744073709551616) (w : World) (hs : s.size ≤ 9223372036854775807) (h : i ≤ s.size) :
    Calls Try.prog 119 #[.string s, .int .i64 i, .int .u64 most] w (Got .u64 (rd M (sl s) i) w) := by
  subst hM
  obtain ⟨R, hR⟩ : ∃ R, R = rd M (sl s) i := ⟨_, rfl⟩
  rw [← hR]
  have HR := Lib.hid hR
  have H127 := Lib.hid h127
  clear hR h127
  go_enter Try.func119, Try.ntmps119
  go_wp2_with fail
  go_loop [9, 10] (fun n v => AtR s M i R n v) (fun _ v => s.size - (intOf v).toNat)
  case atStart => exact ⟨i, 0, Nat.le_refl _, h, rfl, rfl, by omega, by rw [if_pos rfl]; exact ⟨rfl, HR.out.symm⟩⟩
  case round =>
    obtain ⟨k, m, hik, hk, rfl, rfl, hm, hE⟩ := hrel
    by_cases hk' : k < s.size
    · have hbd := u8_bd s[k]
      have h127 := H127.out
      have hmod : (s[k].toNat : Int) % 128 ≤ (M : Int) % 128 ∧ 0 ≤ (s[k].toNat : Int) % 128 ∧ (s[k].toNat : Int) % 128 ≤ 127 := by omega
      clear h127
      have hcase : (k = i ∧ s[k].toNat = 128 ∧ R = (0, 0, 21)) ∨ ((k = i ∧ s[k].toNat ≠ 128 ∨ k ≠ i) ∧ rdGo M (s[k] :: (sl s).drop (k + 1)) m k = R) := by
        by_cases hf : k = i
        · rw [if_pos hf] at hE
          obtain ⟨hm0, hE⟩ := hE
          by_cases hc : s[k].toNat = 128
          · exact .inl ⟨hf, hc, by rw [← hE, ← hf]; exact rd_first hk' hc⟩
          · exact .inr ⟨.inl ⟨hf, hc⟩, by rw [hm0, ← drop_cons, rd_rest hk' hc, hf]; exact hE⟩
        · rw [if_neg hf, drop_cons s k hk'] at hE
          exact .inr ⟨.inr hf, hE⟩
      clear hE
      rcases hcase with ⟨rfl, hc, hE⟩ | ⟨hf, hE⟩
      · have HE := Lib.hid hE
        have hc' : ((s[k].toNat : Int) == 128) = true := by simp; omega
        clear hE hc
        go_wp2_with fail
        go_ret3
        exact ⟨by rw [HE.out]; rfl, rfl⟩
      · by_cases hbig : M / 128 < m
        · have HE := Lib.hid ((go_big hbig).symm.trans hE)
          clear hE
          rcases hf with ⟨hki, hc⟩ | hf
          · have hc' : ((s[k].toNat : Int) == 128) = false := by simp; omega
            have hki' : ((k : Int) == (i : Int)) = true := by simp; omega
            clear hc hki
            go_wp2_with fail
            go_ret3
            exact ⟨by rw [← HE.out]; rfl, rfl⟩
          · have hki' : ((k : Int) == (i : Int)) = false := by simp; omega
            clear hf
            go_wp2_with fail
            go_ret3
            exact ⟨by rw [← HE.out]; rfl, rfl⟩
        · by_cases hend : s[k].toNat < 128
          · have HE := Lib.hid ((go_end hbig hend).symm.trans hE)
            clear hE
            rcases hf with ⟨hki, hc⟩ | hf
            · have hc' : ((s[k].toNat : Int) == 128) = false := by simp; omega
              have hki' : ((k : Int) == (i : Int)) = true := by simp; omega
              clear hc hki
              rcases Nat.lt_or_ge m (M / 128) with hq | hq
              case' inl => have hqe : ((m : Int) == (M : Int) / 128) = false := by simp; omega
              case' inr => have hqe : ((m : Int) == (M : Int) / 128) = true := by simp; omega
              all_goals
                go_wp2_with fail
                go_ret3
                exact ⟨by rw [← HE.out]; rfl, rfl⟩
            · have hki' : ((k : Int) == (i : Int)) = false := by simp; omega
              rcases Nat.lt_or_ge m (M / 128) with hq | hq
              case' inl => have hqe : ((m : Int) == (M : Int) / 128) = false := by simp; omega
              case' inr => have hqe : ((m : Int) == (M : Int) / 128) = true := by simp; omega
              all_goals
                go_wp2_with fail
                go_ret3
                exact ⟨by rw [← HE.out]; rfl, rfl⟩
          · have HE := Lib.hid ((go_on hbig hend).symm.trans hE)
            clear hE
            rcases hf with ⟨hki, hc⟩ | hf
            · have hc' : ((s[k].toNat : Int) == 128) = false := by simp; omega
              have hki' : ((k : Int) == (i : Int)) = true := by simp; omega
              clear hc hki
              rcases Nat.lt_or_ge m (M / 128) with hq | hq
              case' inl => have hqe : ((m : Int) == (M : Int) / 128) = false := by simp; omega
              case' inr => have hqe : ((m : Int) == (M : Int) / 128) = true := by simp; omega
              all_goals
                go_wp2_with fail
                go_round
                case rel =>
                  refine ⟨_, _, _, _, _, ?_, rfl, rfl, rfl, rfl, rfl⟩
                  exact ⟨k + 1, m * 128 + s[k].toNat % 128, by omega, by omega, by go_num, by go_num, by omega, by rw [if_neg (by omega)]; exact HE.out⟩
                case measure => simp [intOf]; omega
            · have hki' : ((k : Int) == (i : Int)) = false := by simp; omega
              rcases Nat.lt_or_ge m (M / 128) with hq | hq
              case' inl => have hqe : ((m : Int) == (M : Int) / 128) = false := by simp; omega
              case' inr => have hqe : ((m : Int) == (M : Int) / 128) = true := by simp; omega
              all_goals
                go_wp2_with fail
                go_round
                case rel =>
                  refine ⟨_, _, _, _, _, ?_, rfl, rfl, rfl, rfl, rfl⟩
                  exact ⟨k + 1, m * 128 + s[k].toNat % 128, by omega, by omega, by go_num, by go_num, by omega, by rw [if_neg (by omega)]; exact HE.out⟩
                case measure => simp [intOf]; omega
    · obtain rfl : k = s.size := by omega
      have hE' : R = (0, 0, 20) := by
        by_cases hf : s.size = i
        · rw [if_pos hf] at hE
          rw [← hE.2]
          exact rd_end (by omega)
        · rw [if_neg hf, drop_none s _ (Nat.le_refl _)] at hE
          rw [← hE]; rfl
      have HE := Lib.hid hE'
      clear hE hE'
      go_wp2_with fail
      go_ret3
      exact ⟨by rw [HE.out]; rfl, rfl⟩
end Go.Proofs.Ythfbcfddfbipfaa
