/- Contracts of the calls that make frames: package seal's and the reference's. -/
import Derived.Test.YtldaflofdbognaaSealSum
import Derived.Test.YtldaflofdbognaaSealForm
import Derived.RegionTactic
import Derived.ChangeAlike
namespace Go.Proofs.Ytldaflofdbognaa
open Go.RowKit
open Vlq Seal
set_option linter.unusedVariables false
theorem be4_vals (n : Nat) : (be4 n).map u8v = [.int .u8 ((n : Int) / 16777216 % 256), .int .u8 ((n : Int) / 65536 % 256), .int .u8 ((n : Int) / 256 % 256), .int .u8 ((n : Int) % 256)] := by
  simp [be4, u8v]
theorem be4_vals' {n : Nat} (h : n < 4294967296) : (be4 n).map u8v = [.int .u8 ((n : Int) / 16777216), .int .u8 ((n : Int) / 65536 % 256), .int .u8 ((n : Int) / 256 % 256), .int .u8 ((n : Int) % 256)] := by
  rw [be4_vals, show (n : Int) / 16777216 % 256 = (n : Int) / 16777216 by omega]
def Arr (l : List UInt8) (w : World) (e : Ending) (w' : World) : Prop := e = .returned (.agg (l.map u8v).toArray) ∧ Below w.heap.size w w'
set_option maxRecDepth 100000 in
theorem sealChecksumOf (s : ByteArray) (hs : s.size ≤ 9223372036854775807) (w : World) :
    Calls Try.prog 20 #[.string s] w (Arr (be4 (crc (sl s))) w) := by
  go_enter Try.func20, Try.ntmps20
  go_wp2_with fail
  refine (sealSum s hs _).mono ?_
  rintro e w' ⟨rfl, rfl⟩
  go_wp2_with fail
  refine bodyPost_ret (by simp [results, Try.results20, go_sem]; rfl) rfl ⟨?_, (Below.refl _ _).alloc (Nat.le_refl _) _⟩
  rw [be4_vals]
theorem four_at (s : ByteArray) (i : Nat) (hi : i + 4 ≤ s.size) : ((sl s).drop i).take 4 = [s[i], s[i + 1], s[i + 2], s[i + 3]] := by
  have h : ∀ (k : Nat) (hk : k < s.size), (sl s).drop k = s[k] :: (sl s).drop (k + 1) := fun k hk => by
    rw [List.drop_eq_getElem_cons (by simpa [sl] using hk)]; rfl
  rw [h i (by omega), h (i + 1) (by omega), h (i + 2) (by omega), h (i + 3) (by omega)]
  rfl
set_option maxRecDepth 100000 in
theorem sealChecksumAt (s : ByteArray) (i : Nat) (hs : s.size ≤ 9223372036854775807) (hi : i + 4 ≤ s.size) (w : World) :
    Calls Try.prog 24 #[.string s, .int .i64 i] w (Arr (((sl s).drop i).take 4) w) := by
  have h0 : (i : Int) < s.size := by omega
  have h1 : (i : Int) + 1 < s.size := by omega
  have h2 : (i : Int) + 2 < s.size := by omega
  have h3 : (i : Int) + 3 < s.size := by omega
  have g1 : 0 ≤ (i : Int) + 1 := by omega
  have g2 : 0 ≤ (i : Int) + 2 := by omega
  have g3 : 0 ≤ (i : Int) + 3 := by omega
  have H4 := Lib.hid (four_at s i hi)
  go_enter Try.func24, Try.ntmps24
  go_wp2_with fail
  go_region
  go_wp2_with fail
  refine bodyPost_ret (by simp [results, Try.results24, go_sem]; rfl) rfl ⟨?_, ((Below.refl _ _).alloc (Nat.le_refl _) _).drew⟩
  rw [H4.out]; rfl
theorem sealPut_long (s : ByteArray) (h : 8192 < s.size) (hs : s.size ≤ 9223372036854775807) (w : World) :
    Calls Try.prog 10 #[.string s] w (IsStrErr [] 2 w) := by
  go_enter Try.func10, Try.ntmps10
  go_wp2_with fail
  go_ret2
  exact ⟨rfl, Below.refl _ _⟩
theorem sl_size (s : ByteArray) : (sl s).length = s.size := rfl
theorem head_eq (s : ByteArray) : (⟨#[166]⟩ : ByteArray) ++ ⟨(enc s.size).toArray⟩ ++ s = ⟨(head (sl s)).toArray⟩ := by
  apply ByteArray.ext
  rw [ByteArray.data_append, ByteArray.data_append]
  apply Array.ext'
  simp [head, sl]
theorem frame_eq (b : List UInt8) : (⟨(head b).toArray⟩ : ByteArray) ++ ⟨(be4 (crc (head b))).toArray⟩ = ⟨(frame b).toArray⟩ := by
  apply ByteArray.ext
  rw [ByteArray.data_append]
  apply Array.ext'
  simp [frame]
theorem four_new (w : World) (a b c d : Value) (t : TypeId) : Row (w.alloc (.cells #[a, b, c, d] t)) (some ⟨w.heap.size, 0, none⟩) [a, b, c, d] := by
  refine .inr ⟨_, _, rfl, fun j v hv => ?_⟩
  match j, hv with
  | 0, hv | 1, hv | 2, hv | 3, hv => simp at hv; subst hv; rw [World.cell?, heap_alloc_new]; rfl
set_option maxRecDepth 100000 in
theorem sealPut_ok (s : ByteArray) (h : s.size ≤ 8192) (w : World) :
    Calls Try.prog 10 #[.string s] w (IsStrErr (frame (sl s)) 0 w) := by
  have hl := enc_len s.size (by omega)
  have hc := Lib.hid (head_eq s)
  have hz : (⟨(head (sl s)).toArray⟩ : ByteArray).size ≤ 8203 := by
    have := head_len (sl s)
    rw [sl_size] at this
    show (head (sl s)).length ≤ 8203
    omega
  have hz2 : (head (sl s)).length ≤ 8203 := hz
  obtain ⟨a, b, c, d, hq⟩ : ∃ a b c d, be4 (crc (head (sl s))) = [a, b, c, d] := ⟨_, _, _, _, rfl⟩
  have hf := Lib.hid (frame_eq (sl s))
  rw [hq] at hf
  have hsum := fun w => sealChecksumOf ⟨(head (sl s)).toArray⟩ (by omega) w
  rw [show sl ⟨(head (sl s)).toArray⟩ = head (sl s) from rfl, hq] at hsum
  have HS := Lib.hid hsum
  clear hsum hq
  go_enter Try.func10, Try.ntmps10
  go_wp2_with fail
  refine (vlqPut_pos s.size (by omega) _).mono ?_
  rintro e w1 ⟨rfl, hb1⟩
  go_wp2_with fail
  simp only [hc.out]
  refine (HS.out _).mono ?_
  rintro e w2 ⟨rfl, hb2⟩
  have hcv := run_row_str (P := Try.prog) (c := 4) (l := [a, b, c, d]) Try.underlying37 Try.underlying5 Try.underlying9 (four_new w2 (u8v a) (u8v b) (u8v c) (u8v d) 41)
  rw [show [a, b, c, d].length = 4 from rfl] at hcv
  have hb3 : Below w.heap.size w (w2.alloc (.cells #[u8v a, u8v b, u8v c, u8v d] 41)) := (hb1.trans (hb2.mono hb1.size)).alloc (Nat.le_trans hb1.size hb2.size) _
  go_wp2_with fail
  go_ret2
  exact ⟨by rw [← hf.out]; rfl, hb3⟩
set_option maxRecDepth 100000 in
theorem refFrame (s : ByteArray) (h : s.size ≤ 10000) (w : World) :
    Calls Try.prog 13 #[.string s] w (IsStr (frame (sl s)) w) := by
  have hl := enc_len s.size (by omega)
  have hc := Lib.hid (head_eq s)
  have hz : (⟨(head (sl s)).toArray⟩ : ByteArray).size ≤ 10011 := by
    have := head_len (sl s)
    rw [sl_size] at this
    show (head (sl s)).length ≤ 10011
    omega
  have hz2 : (head (sl s)).length ≤ 10011 := hz
  have hf := Lib.hid (frame_eq (sl s))
  have hsum := fun w => refSum ⟨(head (sl s)).toArray⟩ (by omega) w
  rw [show (⟨(head (sl s)).toArray⟩ : ByteArray).data.toList = head (sl s) from rfl] at hsum
  have HS := Lib.hid hsum
  have hn := crc_lt (head (sl s))
  obtain ⟨n, hn2⟩ : ∃ n, n = crc (head (sl s)) := ⟨_, rfl⟩
  rw [← hn2] at hf hn
  have HN := Lib.hid hn2
  clear hsum hn2
  go_enter Try.func13, Try.ntmps13
  go_wp2_with fail
  refine (refDigits s.size (by omega) _).mono ?_
  rintro e w1 ⟨rfl, hb1⟩
  go_wp2_with fail
  simp only [hc.out]
  refine (HS.out _).mono ?_
  rintro e w2 ⟨rfl, rfl⟩
  rw [← HN.out]
  have hcv := run_row_str (P := Try.prog) (c := 4) (l := be4 n) Try.underlying37 Try.underlying5 Try.underlying9 (by rw [be4_vals' hn]; exact four_new w1 _ _ _ _ 5)
  rw [be4_len] at hcv
  have hb3 : Below w.heap.size w (w1.alloc (.cells #[.int .u8 ((n : Int) / 16777216), .int .u8 ((n : Int) / 65536 % 256), .int .u8 ((n : Int) / 256 % 256), .int .u8 ((n : Int) % 256)] 5)) := hb1.alloc hb1.size _
  have hz4 : (⟨(be4 n).toArray⟩ : ByteArray).size = 4 := rfl
  have hz5 : (be4 n).length = 4 := rfl
  go_wp2_with fail
  go_ret
  exact ⟨by rw [← hf.out]; rfl, hb3⟩
end Go.Proofs.Ytldaflofdbognaa
