/- The walk of the seal law that a change within 32 bits is told by the sum, and a frame that is cut off is too short: it returns true, whatever the input. -/
import Derived.Test.YtldaflofdbognaaLawsSealC
import Derived.RegionTactic
import Derived.ChangeAlike
namespace Go.Proofs.Ytldaflofdbognaa
open Go.ChangeShapes Go.WideShapes Go.ChangeAt Go.RowKit
open Vlq Seal
set_option linter.unusedVariables false
/-- Go's remainder, made no less than nought. -/
theorem rem_in (x n : Int) (h : 0 < n) (h9 : n ≤ 1000000) : ∃ m : Nat, (m : Int) < n ∧ ((RowKit.wrap64 (x.tmod n + n)).tmod n = (m : Int)) := by
  have h1 := Int.tmod_lt_of_pos x h
  have h2 : -n < x.tmod n := by
    have := Int.tmod_lt_of_pos (-x) h
    rw [Int.neg_tmod] at this
    omega
  have h3 : 0 ≤ x.tmod n + n := by omega
  have h4 := Int.tmod_lt_of_pos (x.tmod n + n) h
  have h5 := Int.tmod_nonneg n h3
  have e : RowKit.wrap64 (x.tmod n + n) = x.tmod n + n := by unfold RowKit.wrap64; omega
  rw [e]
  exact ⟨((x.tmod n + n).tmod n).toNat, by omega, by omega⟩
theorem get_cut (F b : ByteArray) (m : Nat) (hF : sl F = frame (sl b)) (hb : b.size ≤ 2000) (hm : m < F.size) (hf : F.size ≤ 2015) (w : World) :
    Calls Try.prog 14 #[.string (F.extract 0 m), .int .i64 0] w fun e w' => e = .returned (.tuple #[.string ⟨#[]⟩, .int .i64 0, .int .i64 20]) ∧ Below w.heap.size w w' := by
  have h := sealGet (F.extract 0 m) 0 (by rw [ByteArray.size_extract]; omega) (Nat.zero_le _) w
  have e : sl (F.extract 0 m) = (frame (sl b)).take m := by rw [cut_eq, ← hF]; simp
  rw [e, getF_cut (sl b) (by rw [sl_len]; omega) m (by rw [← hF, sl_len]; exact hm)] at h
  exact h
/-- Block g holds the bytes Y at its head. -/
def Bytes (g : Nat) (Y : List UInt8) (wr : World) : Prop :=
  ∃ M : Array Value, wr.heap[g]? = some (.cells M 5 (M.size, M.size + 1)) ∧ Y.length ≤ M.size ∧ ∀ j (h : j < Y.length), M[j]? = some (u8v Y[j])
theorem bytes_new (F : ByteArray) (w : World) : ∃ (cap : Nat) (w3 : World), (convert 9 37 (.string F)).run Try.prog w = .ok (.slice (some ⟨w.heap.size, 0, none⟩) F.size cap) w3 ∧
    Bytes w.heap.size (sl F) w3 ∧ Below w.heap.size w w3 ∧ w.heap.size < w3.heap.size := by
  refine ⟨_, _, run_bytes_of_string w 9 37 5 F Try.underlying9 Try.underlying37 Try.underlying5, ⟨_, heap_alloc_new w.drew _, ?_, ?_⟩, ?_, ?_⟩
  · simp [bytesRow, sl]
  · intro j hj
    have hj' : j < F.data.size := hj
    unfold bytesRow
    rw [Array.getElem?_append_left (by simpa using hj'), Array.getElem?_map, Array.getElem?_eq_getElem hj']
    rfl
  · exact (below_drewOf (Below.refl _ _)).alloc (Nat.le_refl _) _
  · simp
theorem bytes_set {g ix : Nat} {Y : List UInt8} {wr : World} {c : UInt8} (h : Bytes g Y wr) (hi : ix < Y.length) : Bytes g (Y.set ix c) ((wr.setCell ⟨g, ix, none⟩ (u8v c)).drew) := by
  obtain ⟨M, hM, hMs, hMj⟩ := h
  have hs : (M.setIfInBounds ix (u8v c)).size = M.size := by simp
  refine ⟨M.setIfInBounds ix (u8v c), ?_, by rw [hs, List.length_set]; exact hMs, ?_⟩
  · rw [hs]
    show (wr.setCell ⟨g, ix, none⟩ (u8v c)).heap[g]? = _
    simp [World.setCell, Array.getElem?_modify, hM]
  · intro j hj
    rw [List.length_set] at hj
    by_cases he : ix = j
    · subst he
      rw [Array.getElem?_setIfInBounds_self_of_lt (by omega), List.getElem_set_self]
    · rw [Array.getElem?_setIfInBounds_ne he, hMj j hj, List.getElem_set_ne he]
theorem back_str {g n : Nat} {Y : List UInt8} {wr : World} (h : Bytes g Y wr) (hn : Y.length = n) (cap : Nat) :
    (convert 37 9 (.slice (some ⟨g, 0, none⟩) n cap)).run Try.prog wr = .ok (.string ⟨Y.toArray⟩) wr := by
  obtain ⟨M, hM, hMs, hMj⟩ := h
  subst hn
  refine run_convert_bytes_back wr 37 9 5 ⟨g, 0, none⟩ cap Y Try.underlying37 Try.underlying5 Try.underlying9 fun j hj => ?_
  rw [Go.WideShapes.add_plain, World.cell?]
  simp only [hM, Nat.zero_add]
  exact hMj j hj
def anyB (pt : Nat) : Nat → Bool
  | 0 => false
  | j + 1 => anyB pt j || decide (pt / 2 ^ j % 2 = 1)
theorem anyB_ex (pt : Nat) : ∀ j, anyB pt j = true → ∃ i, i < j ∧ pt / 2 ^ i % 2 = 1
  | 0, h => by simp [anyB] at h
  | j + 1, h => by
    simp only [anyB, Bool.or_eq_true, decide_eq_true_iff] at h
    rcases h with h | h
    · obtain ⟨i, hi, hp⟩ := anyB_ex pt j h
      exact ⟨i, by omega, hp⟩
    · exact ⟨j, by omega, h⟩
theorem anyB_torn (l : List UInt8) (a pt : Nat) : ∀ j, anyB pt j = false → torn l a pt j = l
  | 0, _ => rfl
  | j + 1, h => by
    simp only [anyB, Bool.or_eq_false_iff, decide_eq_false_iff_not] at h
    unfold torn
    rw [if_neg h.2, anyB_torn l a pt j h.1]
/-- Where the tearing stands. -/
def Tearing (w : World) (g : Nat) (hd X : List UInt8) (a pt : Nat) (ch i : Value) (wr : World) : Prop :=
  ∃ j : Nat, j ≤ 32 ∧ a + j ≤ 8 * X.length ∧ i = .int .i64 (j : Int) ∧ ch = .bool (anyB pt j) ∧ Bytes g (hd ++ torn X a pt j) wr ∧ Below w.heap.size w wr
theorem pt_bit {pt j : Nat} (h : pt < 4294967296) : bits .and .u32 ((pt : Int) / 2 ^ j) 1 = ((pt / 2 ^ j % 2 : Nat) : Int) := by
  have h1 : pt / 2 ^ j ≤ pt := Nat.div_le_self _ _
  rw [cast_shr]
  have := u32_and_nat (pt / 2 ^ j) 1 (by omega) (by omega)
  rw [nat_mask1] at this
  exact this
set_option maxRecDepth 100000 in
set_option maxHeartbeats 1000000 in
theorem walkSealTorn (body : ByteArray) (from_ cut : Int) (pt : Nat) (hfr : -9223372036854775808 ≤ from_ ∧ from_ ≤ 9223372036854775807) (hcu : -9223372036854775808 ≤ cut ∧ cut ≤ 9223372036854775807) (hpt : pt < 4294967296) (w : World) (hbody : body.size ≤ 9223372036854775807) :
    Calls Try.prog 8 #[.string body, .int .i64 from_, .int .i64 cut, .int .u32 pt] w (SYes w) := by
  obtain ⟨x, hx, hway⟩ : ∃ x : ByteArray, x.size ≤ 2000 ∧ ((2000 < body.size ∧ ∀ w, (Instr.slice 9 (.string body) none (some (.int .i64 2000)) none).run Try.prog w = .ok (.string x) w) ∨ (body.size ≤ 2000 ∧ x = body)) := by
    by_cases h : 2000 < body.size
    · exact ⟨body.extract 0 2000, by rw [ByteArray.size_extract]; omega, .inl ⟨h, fun w => by
        rw [run_slice_string_h (P := Try.prog) w 9 body Try.underlying9 .i64 2000 (by omega) (by omega)]; rfl⟩⟩
    · exact ⟨body, by omega, .inr ⟨by omega, rfl⟩⟩
  obtain ⟨F, hF, hF1, hF2, hPut⟩ := put_frame x (by omega)
  obtain ⟨m, hm', hme⟩ := rem_in cut F.size (by omega) (by omega)
  have hm : m < F.size := by omega
  clear hm'
  obtain ⟨a, ha', hae⟩ := rem_in from_ (8 * ((x.size : Int) + 4)) (by omega) (by omega)
  have ha : a < 8 * (x.size + 4) := by omega
  clear ha'
  have HP := Lib.hid hPut
  have HC := Lib.hid (fun w => get_cut F x m hF hx hm (by omega) w)
  have hsl : ∀ w, (Instr.slice 9 (.string F) none (some (.int .i64 (m : Int))) none).run Try.prog w = .ok (.string (F.extract 0 m)) w := fun w => by
    rw [run_slice_string_h (P := Try.prog) w 9 F Try.underlying9 .i64 (m : Int) (by omega) (by omega), Int.toNat_natCast]
  obtain ⟨X, hX⟩ : ∃ X, X = sl x ++ be4 (crc (head (sl x))) := ⟨_, rfl⟩
  obtain ⟨hd, hhd⟩ : ∃ hd, hd = 166 :: enc x.size := ⟨_, rfl⟩
  have hXl : X.length = x.size + 4 := by rw [hX, List.length_append, be4_len, sl_len]
  have hFX : sl F = hd ++ X := by rw [hF, frame, head, hhd, hX, head, sl_len]; simp
  obtain ⟨st, hst⟩ : ∃ st, st = hd.length := ⟨_, rfl⟩
  have hFs : F.size = st + (x.size + 4) := by rw [← sl_len, hFX, List.length_append, hXl, hst]
  have hstI : (F.size : Int) - x.size - 4 = st := by omega
  have HX := Lib.hid hX; have HH := Lib.hid hhd; have HFX := Lib.hid hFX; have HXL := Lib.hid hXl; have HST := Lib.hid hst; have HFS := Lib.hid hFs
  clear hPut hF hX hhd hFX hst hFs hXl
  rcases hway with ⟨h1, h2⟩ | ⟨h1, rfl⟩
  all_goals
    go_enter Try.func8, Try.ntmps8
    go_wp2_with fail
    refine (HP.out _).mono ?_
    rintro e w1 ⟨rfl, hb1⟩
    go_wp2_with fail
    refine (HC.out _).mono ?_
    rintro e w2 ⟨rfl, hb2⟩
    obtain ⟨cap, w3, hcv, hB, hb3, hg3⟩ := bytes_new F w2
    go_wp2_with fail
    obtain ⟨g, hg⟩ : ∃ g, g = w2.heap.size := ⟨_, rfl⟩
    rw [← hg] at hB hg3 ⊢
    have hbw : Below w.heap.size w w3 := below_next (below_next hb1 hb2) hb3
    have hgw : w.heap.size ≤ g := by rw [hg]; exact Nat.le_trans hb1.size hb2.size
    clear hcv hg hb1 hb2 hb3
    go_loopw [17, 18] (fun ch i wr => Tearing w g hd X a pt ch i wr) (fun _ i _ => 32 - (intOf i).toNat)
    case atStart => exact ⟨0, by omega, by rw [HXL.out]; omega, rfl, rfl, by rw [HFX.out] at hB; exact hB, hbw⟩
    case round =>
      obtain ⟨j, hj, haj, rfl, rfl, hBy, hb⟩ := hrel
      have HB := Lib.hid hBy
      by_cases hgo : j < 32 ∧ a + j < 8 * (x.size + 4)
      · obtain ⟨hgo1, hgo2⟩ := hgo
        have hgo2' : (a : Int) + j < 8 * ((x.size : Int) + 4) := by omega
        have hpb := pt_bit (j := j) hpt
        by_cases hbit : pt / 2 ^ j % 2 = 1
        · have hpb' : (bits .and .u32 ((pt : Int) / 2 ^ j) 1 == 1) = true := by rw [hpb, hbit]; rfl
          clear hpb
          obtain ⟨M, hM, hMs, hMj⟩ := hBy
          obtain ⟨kq, hkq⟩ : ∃ kq, kq = (a + j) / 8 := ⟨_, rfl⟩
          obtain ⟨ke, hke⟩ : ∃ ke, ke = (a + j) % 8 := ⟨_, rfl⟩
          obtain ⟨ix, hix⟩ : ∃ ix, ix = st + kq := ⟨_, rfl⟩
          have e1 : ((a : Int) + j) / 8 = kq := by omega
          have e2 : ((a : Int) + j) % 8 = ke := by omega
          have e3 : (st : Int) + kq = ix := by omega
          have hfs := HFS.out
          have hiF : (ix : Int) < F.size := by omega
          have hiL : ix < (hd ++ torn X a pt j).length := by rw [List.length_append, torn_len, ← HST.out, HXL.out]; omega
          obtain ⟨y, hy⟩ : ∃ y, y = (hd ++ torn X a pt j)[ix] := ⟨_, rfl⟩
          have hcell : wr.cell? ⟨g, ix, none⟩ = some (.int .u8 (y.toNat : Int)) := by
            rw [World.cell?, hM]
            show M[ix]? = _
            rw [hMj ix hiL, hy]
          have hfz : wr.frozen? ⟨g, ix, none⟩ = false := by
            simp only [World.frozen?, hM]
            have : ix < M.size := by omega
            simp; omega
          have hke8 : ke < 8 := by omega
          have hxor : bits .xor .u8 (y.toNat : Int) (128 / 2 ^ ke) = ((y ^^^ UInt8.ofNat (128 / 2 ^ ke)).toNat : Int) := by
            rw [show (128 : Int) / 2 ^ ke = ((128 / 2 ^ ke : Nat) : Int) by norm_cast, u8_xor_nat _ _ (u8_lt y) (by have : 128 / 2 ^ ke ≤ 128 := Nat.div_le_self _ _; omega), UInt8.toNat_xor, ofNat_u8, Nat.mod_eq_of_lt (by have : 128 / 2 ^ ke ≤ 128 := Nat.div_le_self _ _; omega)]
          have HS := Lib.hid (show (hd ++ torn X a pt j).set ix (y ^^^ UInt8.ofNat (128 / 2 ^ ke)) = hd ++ torn X a pt (j + 1) by
            rw [torn, if_pos hbit, ← flip_append, flip_eq _ _ (by rw [List.length_append, torn_len, HXL.out]; omega), hy]
            have q1 : (8 * hd.length + (a + j)) / 8 = ix := by rw [← HST.out]; omega
            have q2 : (8 * hd.length + (a + j)) % 8 = ke := by omega
            simp only [q1, q2])
          have HN := Lib.hid (bytes_set (HB.out) hiL (c := y ^^^ UInt8.ofNat (128 / 2 ^ ke)))
          have HA := Lib.hid (show anyB pt (j + 1) = true by simp [anyB, hbit])
          clear hkq hke hix hy hfs hM hMj hbit
          go_wp2_with fail
          go_region
          go_wp2_with fail
          go_roundw
          case rel =>
            refine ⟨j + 1, by omega, by rw [HXL.out]; omega, by go_num, by rw [HA.out], ?_, (hb.setCell hgw _).drew⟩
            have h := HN.out
            rw [HS.out] at h
            simpa [u8v] using h
          case measure => simp [intOf]; omega
        · have hpb' : (bits .and .u32 ((pt : Int) / 2 ^ j) 1 == 1) = false := ne_b (by rw [hpb]; omega)
          have HA := Lib.hid (show anyB pt (j + 1) = anyB pt j by simp [anyB, hbit])
          have HS := Lib.hid (show torn X a pt (j + 1) = torn X a pt j by rw [torn, if_neg hbit])
          clear hpb hbit hBy
          go_wp2_with fail
          go_roundw
          case rel => exact ⟨j + 1, by omega, by rw [HXL.out]; omega, by go_num, by rw [HA.out], by rw [HS.out]; exact HB.out, hb⟩
          case measure => simp [intOf]; omega
      · have hcv := back_str HB.out (show (hd ++ torn X a pt j).length = F.size by rw [List.length_append, torn_len, ← HST.out, HXL.out]; exact HFS.out.symm) cap
        obtain ⟨T, hT⟩ : ∃ T : ByteArray, T = ⟨(hd ++ torn X a pt j).toArray⟩ := ⟨_, rfl⟩
        rw [← hT] at hcv
        have hsT : sl T = hd ++ torn X a pt j := by rw [hT]
        have hTs : T.size = F.size := by rw [← sl_len, hsT, List.length_append, torn_len, ← HST.out, HXL.out]; exact HFS.out.symm
        have hG := fun w => sealGet T 0 (by omega) (Nat.zero_le _) w
        have hgo1 : j < 32 → 8 * ((x.size : Int) + 4) ≤ (a : Int) + j := by omega
        cases hany : anyB pt j
        case true =>
          have hget : getF (sl T) 0 = ([], 0, 30) := by
            rw [hsT, HH.out, HX.out, ← sl_len]
            exact getF_torn (sl x) (by rw [sl_len]; omega) a pt j hj (by rw [sl_len]; have := HXL.out; omega) (anyB_ex pt j hany)
          rw [hget] at hG
          have HG := Lib.hid hG
          clear hG hget hsT hTs hBy hT hany
          rcases Nat.lt_or_ge j 32 with h32 | h32
          case' inl =>
            have hge := hgo1 h32
          all_goals
            clear hgo hgo1
            go_wp2_with fail
            refine (HG.out _).mono ?_
            rintro e w4 ⟨rfl, hb4⟩
            go_wp2_with fail
            go_ret
            exact ⟨rfl, hb.trans (hb4.mono hb.size)⟩
        case false =>
          have hTF : T = F := by
            rw [hT, str_of F HFX.out, anyB_torn X a pt j hany]
          have hget : getF (sl T) 0 = (sl x, F.size, 0) := by
            have h := getF_frame [] (sl x) [] (by rw [sl_len]; omega)
            rw [hTF, HFX.out, HH.out, HX.out]
            simpa [frame, head, sl_len] using (by
              have hfl : (frame (sl x)).length = F.size := by rw [← sl_len F, HFX.out, HH.out, HX.out]; simp [frame, head]
              rw [List.nil_append, List.append_nil, hfl] at h
              simpa [frame, head, sl_len] using h : _)
          rw [hget] at hG
          have HG := Lib.hid hG
          clear hG hget hsT hTs hBy hT hany hTF
          rcases Nat.lt_or_ge j 32 with h32 | h32
          case' inl =>
            have hge := hgo1 h32
          all_goals
            clear hgo hgo1
            go_wp2_with fail
            refine (HG.out _).mono ?_
            rintro e w4 ⟨rfl, hb4⟩
            go_wp2_with fail
            go_ret
            exact ⟨rfl, hb.trans (hb4.mono hb.size)⟩
theorem lawSealTorn : Lift.Owes 8 [9, 3, 3, 26] := by
  intro H enc W base args ds ps hval hA _ _
  obtain ⟨v0, v1, v2, v3, d0, d1, d2, d3, p0, p1, p2, p3, rfl, rfl, rfl, h0, h1, h2, h3⟩ := trodAll_four hA
  obtain ⟨s, rfl, rfl, rfl, w0⟩ := ChangeMaps.open_string Try.underlying9 (hval 0 _ v0 rfl rfl) h0
  obtain ⟨n, rfl, rfl, rfl, w1⟩ := open_int Try.underlying3 (hval 1 _ v1 rfl rfl) h1
  obtain ⟨m, rfl, rfl, rfl, w2⟩ := open_int Try.underlying3 (hval 2 _ v2 rfl rfl) h2
  obtain ⟨p, rfl, rfl, rfl, w3⟩ := open_int Try.underlying26 (hval 3 _ v3 rfl rfl) h3
  simp [Lit.wf, IntKind.min, IntKind.max, IntKind.bits, IntKind.signed] at w1 w2 w3
  obtain ⟨q, rfl⟩ := Int.eq_ofNat_of_zero_le (a := p) (by omega)
  exact walkSealTorn s n m q (by omega) (by omega) (by omega) W w0
end Go.Proofs.Ytldaflofdbognaa
