/- Contracts of package vlq's calls that read, and of the reference's. -/
import Derived.Test.YthgafhinlchghaaVlqPut
import Derived.Test.YthgafhinlchghaaClone
namespace Go.Proofs.Ythgafhinlchghaa
open Go.RowKit
open Vlq
set_option linter.unusedVariables false
/-- A number, the place behind it and an error. -/
def Got (k : IntKind) (R : Nat × Nat × Nat) (w : World) (e : Ending) (w' : World) : Prop :=
  e = .returned (.tuple #[.int k (R.1 : Int), .int .i64 (R.2.1 : Int), .int .i64 (R.2.2 : Int)]) ∧ w = w'
theorem drop_cons (s : ByteArray) (k : Nat) (h : k < s.size) : (sl s).drop k = s[k] :: (sl s).drop (k + 1) := by
  rw [List.drop_eq_getElem_cons (by simpa [sl] using h)]; rfl
theorem drop_none (s : ByteArray) (k : Nat) (h : s.size ≤ k) : (sl s).drop k = [] := List.drop_of_length_le (by simpa [sl] using h)
theorem go_big {M n i : Nat} {c : UInt8} {r : List UInt8} (h : M / 128 < n) : rdGo M (c :: r) n i = (0, 0, 21) := by rw [rdGo, if_pos h]
theorem go_end {M n i : Nat} {c : UInt8} {r : List UInt8} (h : ¬ M / 128 < n) (h2 : c.toNat < 128) : rdGo M (c :: r) n i = (n * 128 + c.toNat % 128, i + 1, 0) := by rw [rdGo, if_neg h, if_pos h2]
theorem go_on {M n i : Nat} {c : UInt8} {r : List UInt8} (h : ¬ M / 128 < n) (h2 : ¬ c.toNat < 128) : rdGo M (c :: r) n i = rdGo M r (n * 128 + c.toNat % 128) (i + 1) := by rw [rdGo, if_neg h, if_neg h2]
theorem rd_first {M : Nat} {s : ByteArray} {i : Nat} (h : i < s.size) (h2 : s[i].toNat = 128) : rd M (sl s) i = (0, 0, 21) := by
  unfold rd
  rw [drop_cons s i h, if_pos]
  simp only [List.head?_cons, Option.some.injEq]
  exact u8_128.2 h2
theorem rd_rest {M : Nat} {s : ByteArray} {i : Nat} (h : i < s.size) (h2 : s[i].toNat ≠ 128) : rdGo M ((sl s).drop i) 0 i = rd M (sl s) i := by
  unfold rd
  rw [if_neg]
  rw [drop_cons s i h]
  simp only [List.head?_cons, Option.some.injEq]
  exact fun h => h2 (u8_128.1 h)
theorem rd_end {M : Nat} {s : ByteArray} {i : Nat} (h : s.size ≤ i) : rd M (sl s) i = (0, 0, 20) := by
  unfold rd
  rw [drop_none s i h]
  rfl
theorem u8_bd (c : UInt8) : 0 ≤ (c.toNat : Int) ∧ (c.toNat : Int) ≤ 255 := by have := u8_lt c; omega
set_option maxRecDepth 100000 in
theorem vlqRead_bad (s : ByteArray) (i most : Int) (w : World) (hs : s.size ≤ 9223372036854775807) (h : i < 0 ∨ (s.size : Int) < i) :
    Calls Try.prog 59 #[.string s, .int .i64 i, .int .u64 most] w (Got .u64 (0, 0, 1) w) := by
  rcases Int.lt_or_le i 0 with h' | h'
  · go_enter Try.func59, Try.ntmps59
    go_wp2_with fail
    go_ret3
    exact ⟨rfl, rfl⟩
  · have h2 : (s.size : Int) < i := by omega
    clear h
    go_enter Try.func59, Try.ntmps59
    go_wp2_with fail
    go_ret3
    exact ⟨rfl, rfl⟩
theorem rd_rest' {M : Nat} {s : ByteArray} {i : Nat} (h : s.size ≤ i) : rdGo M ((sl s).drop i) 0 i = rd M (sl s) i := by
  rw [rd_end h, drop_none s i h]; rfl
/-- What stands at the head of a round of reading. -/
def At (s : ByteArray) (M : Nat) (R : Nat × Nat × Nat) (n i : Value) : Prop :=
  ∃ k m : Nat, k ≤ s.size ∧ i = .int .i64 k ∧ n = .int .u64 m ∧ m < 18446744073709551616 ∧ rdGo M ((sl s).drop k) m k = R
set_option maxRecDepth 100000 in
set_option maxHeartbeats 400000 in
theorem vlqRead_ok (s : ByteArray) (i : Nat) (most : Int) (M : Nat) (hM : most = M) (hb : M < 18446744073709551616) (w : World) (hs : s.size ≤ 9223372036854775807) (h : i ≤ s.size) :
    Calls Try.prog 59 #[.string s, .int .i64 i, .int .u64 most] w (Got .u64 (rd M (sl s) i) w) := by
  subst hM
  obtain ⟨R, hR⟩ : ∃ R, R = rd M (sl s) i := ⟨_, rfl⟩
  rw [← hR]
  by_cases hlt : i < s.size
  · by_cases hc : s[i].toNat = 128
    · have HR := Lib.hid (hR.trans (rd_first (M := M) hlt hc))
      have hc' : ((s[i].toNat : Int) == 128) = true := by simp; omega
      clear hc hR
      go_enter Try.func59, Try.ntmps59
      go_wp2_with fail
      go_ret3
      exact ⟨by rw [HR.out]; rfl, rfl⟩
    · have hc' : ((s[i].toNat : Int) == 128) = false := by simp; omega
      have HR := Lib.hid ((rd_rest (M := M) hlt hc).trans hR.symm)
      clear hc hR
      go_enter Try.func59, Try.ntmps59
      go_wp2_with fail
      go_loop [9, 10] (fun n i => At s M R n i) (fun _ i => s.size - (intOf i).toNat)
      case atStart => exact ⟨i, 0, h, rfl, rfl, by omega, HR.out⟩
      case round =>
        clear hc' HR
        obtain ⟨k, m, hk, rfl, rfl, hm, hE⟩ := hrel
        by_cases hk' : k < s.size
        · rw [drop_cons s k hk'] at hE
          have hbd := u8_bd s[k]
          by_cases hbig : M / 128 < m
          · have HE := Lib.hid ((go_big hbig).symm.trans hE)
            clear hE
            go_wp2_with fail
            go_ret3
            exact ⟨by rw [← HE.out]; rfl, rfl⟩
          · by_cases hend : s[k].toNat < 128
            · have HE := Lib.hid ((go_end hbig hend).symm.trans hE)
              clear hE
              go_wp2_with fail
              go_ret3
              exact ⟨by rw [← HE.out]; rfl, rfl⟩
            · have HE := Lib.hid ((go_on hbig hend).symm.trans hE)
              clear hE
              go_wp2_with fail
              go_round
              case rel => exact ⟨k + 1, m * 128 + s[k].toNat % 128, by omega, by go_num, by go_num, by omega, HE.out⟩
              case measure => simp [intOf]; omega
        · rw [drop_none s k (by omega)] at hE
          have HE := Lib.hid hE
          clear hE
          go_wp2_with fail
          go_ret3
          exact ⟨by rw [← HE.out]; rfl, rfl⟩
  · have HR := Lib.hid (hR.trans (rd_end (M := M) (Nat.not_lt.1 hlt)))
    clear hR
    go_enter Try.func59, Try.ntmps59
    go_wp2_with fail
    go_loop [10] (fun i' => i' = .int .i64 i) (fun i' => 0)
    case atStart => rfl
    case round =>
      obtain rfl := hrel
      go_wp2_with fail
      go_ret3
      exact ⟨by rw [HR.out]; rfl, rfl⟩

set_option maxRecDepth 100000 in
theorem refRead_bad (s : ByteArray) (i most : Int) (w : World) (hs : s.size ≤ 9223372036854775807) (h : i < 0 ∨ (s.size : Int) < i) :
    Calls Try.prog 55 #[.string s, .int .i64 i, .int .u64 most] w (Got .u64 (0, 0, 1) w) := by
  rcases Int.lt_or_le i 0 with h' | h'
  · go_enter Try.func55, Try.ntmps55
    go_wp2_with fail
    go_ret3
    exact ⟨rfl, rfl⟩
  · have h2 : (s.size : Int) < i := by omega
    clear h
    go_enter Try.func55, Try.ntmps55
    go_wp2_with fail
    go_ret3
    exact ⟨rfl, rfl⟩
/-- The same for the reference: at the first place nothing has been read. -/
def AtR (s : ByteArray) (M i0 : Nat) (R : Nat × Nat × Nat) (n i : Value) : Prop :=
  ∃ k m : Nat, i0 ≤ k ∧ k ≤ s.size ∧ i = .int .i64 k ∧ n = .int .u64 m ∧ m < 18446744073709551616 ∧ (if k = i0 then m = 0 ∧ rd M (sl s) i0 = R else rdGo M ((sl s).drop k) m k = R)
set_option maxRecDepth 100000 in
set_option maxHeartbeats 4000000 in
theorem refRead_ok (s : ByteArray) (i : Nat) (most : Int) (M : Nat) (hM : most = M) (h127 : M % 128 = 127) (hb : M < 18446744073709551616) (w : World) (hs : s.size ≤ 9223372036854775807) (h : i ≤ s.size) :
    Calls Try.prog 55 #[.string s, .int .i64 i, .int .u64 most] w (Got .u64 (rd M (sl s) i) w) := by
  subst hM
  obtain ⟨R, hR⟩ : ∃ R, R = rd M (sl s) i := ⟨_, rfl⟩
  rw [← hR]
  have HR := Lib.hid hR
  have H127 := Lib.hid h127
  clear hR h127
  go_enter Try.func55, Try.ntmps55
  go_wp2_with fail
  go_loop [9, 10] (fun n v => AtR s M i R n v) (fun _ v => s.size - (intOf v).toNat)
  case atStart => exact ⟨i, 0, Nat.le_refl _, h, rfl, rfl, by omega, by rw [if_pos rfl]; exact ⟨rfl, HR.out.symm⟩⟩
  case round =>
    obtain ⟨k, m, hik, hk, rfl, rfl, hm, hE⟩ := hrel
    by_cases hk' : k < s.size
    · have hbd := u8_bd s[k]
      have h127 := H127.out
      have hmod : (s[k].toNat : Int) % 128 ≤ (M : Int) % 128 ∧ 0 ≤ (s[k].toNat : Int) % 128 ∧ (s[k].toNat : Int) % 128 ≤ 127 := by omega
      clear h127
      have hcase : (k = i ∧ s[k].toNat = 128 ∧ R = (0, 0, 21)) ∨ ((k = i ∧ s[k].toNat ≠ 128 ∨ k ≠ i) ∧ rdGo M (s[k] :: (sl s).drop (k + 1)) m k = R) := by
        by_cases hf : k = i
        · rw [if_pos hf] at hE
          obtain ⟨hm0, hE⟩ := hE
          by_cases hc : s[k].toNat = 128
          · exact .inl ⟨hf, hc, by rw [← hE, ← hf]; exact rd_first hk' hc⟩
          · exact .inr ⟨.inl ⟨hf, hc⟩, by rw [hm0, ← drop_cons, rd_rest hk' hc, hf]; exact hE⟩
        · rw [if_neg hf, drop_cons s k hk'] at hE
          exact .inr ⟨.inr hf, hE⟩
      clear hE
      rcases hcase with ⟨rfl, hc, hE⟩ | ⟨hf, hE⟩
      · have HE := Lib.hid hE
        have hc' : ((s[k].toNat : Int) == 128) = true := by simp; omega
        clear hE hc
        go_wp2_with fail
        go_ret3
        exact ⟨by rw [HE.out]; rfl, rfl⟩
      · by_cases hbig : M / 128 < m
        · have HE := Lib.hid ((go_big hbig).symm.trans hE)
          clear hE
          rcases hf with ⟨hki, hc⟩ | hf
          · have hc' : ((s[k].toNat : Int) == 128) = false := by simp; omega
            have hki' : ((k : Int) == (i : Int)) = true := by simp; omega
            clear hc hki
            go_wp2_with fail
            go_ret3
            exact ⟨by rw [← HE.out]; rfl, rfl⟩
          · have hki' : ((k : Int) == (i : Int)) = false := by simp; omega
            clear hf
            go_wp2_with fail
            go_ret3
            exact ⟨by rw [← HE.out]; rfl, rfl⟩
        · by_cases hend : s[k].toNat < 128
          · have HE := Lib.hid ((go_end hbig hend).symm.trans hE)
            clear hE
            rcases hf with ⟨hki, hc⟩ | hf
            · have hc' : ((s[k].toNat : Int) == 128) = false := by simp; omega
              have hki' : ((k : Int) == (i : Int)) = true := by simp; omega
              clear hc hki
              rcases Nat.lt_or_ge m (M / 128) with hq | hq
              case' inl => have hqe : ((m : Int) == (M : Int) / 128) = false := by simp; omega
              case' inr => have hqe : ((m : Int) == (M : Int) / 128) = true := by simp; omega
              all_goals
                go_wp2_with fail
                go_ret3
                exact ⟨by rw [← HE.out]; rfl, rfl⟩
            · have hki' : ((k : Int) == (i : Int)) = false := by simp; omega
              rcases Nat.lt_or_ge m (M / 128) with hq | hq
              case' inl => have hqe : ((m : Int) == (M : Int) / 128) = false := by simp; omega
              case' inr => have hqe : ((m : Int) == (M : Int) / 128) = true := by simp; omega
              all_goals
                go_wp2_with fail
                go_ret3
                exact ⟨by rw [← HE.out]; rfl, rfl⟩
          · have HE := Lib.hid ((go_on hbig hend).symm.trans hE)
            clear hE
            rcases hf with ⟨hki, hc⟩ | hf
            · have hc' : ((s[k].toNat : Int) == 128) = false := by simp; omega
              have hki' : ((k : Int) == (i : Int)) = true := by simp; omega
              clear hc hki
              rcases Nat.lt_or_ge m (M / 128) with hq | hq
              case' inl => have hqe : ((m : Int) == (M : Int) / 128) = false := by simp; omega
              case' inr => have hqe : ((m : Int) == (M : Int) / 128) = true := by simp; omega
              all_goals
                go_wp2_with fail
                go_round
                case rel =>
                  refine ⟨_, _, _, _, _, ?_, rfl, rfl, rfl, rfl, rfl⟩
                  exact ⟨k + 1, m * 128 + s[k].toNat % 128, by omega, by omega, by go_num, by go_num, by omega, by rw [if_neg (by omega)]; exact HE.out⟩
                case measure => simp [intOf]; omega
            · have hki' : ((k : Int) == (i : Int)) = false := by simp; omega
              rcases Nat.lt_or_ge m (M / 128) with hq | hq
              case' inl => have hqe : ((m : Int) == (M : Int) / 128) = false := by simp; omega
              case' inr => have hqe : ((m : Int) == (M : Int) / 128) = true := by simp; omega
              all_goals
                go_wp2_with fail
                go_round
                case rel =>
                  refine ⟨_, _, _, _, _, ?_, rfl, rfl, rfl, rfl, rfl⟩
                  exact ⟨k + 1, m * 128 + s[k].toNat % 128, by omega, by omega, by go_num, by go_num, by omega, by rw [if_neg (by omega)]; exact HE.out⟩
                case measure => simp [intOf]; omega
    · obtain rfl : k = s.size := by omega
      have hE' : R = (0, 0, 20) := by
        by_cases hf : s.size = i
        · rw [if_pos hf] at hE
          rw [← hE.2]
          exact rd_end (by omega)
        · rw [if_neg hf, drop_none s _ (Nat.le_refl _)] at hE
          rw [← hE]; rfl
      have HE := Lib.hid hE'
      clear hE hE'
      go_wp2_with fail
      go_ret3
      exact ⟨by rw [HE.out]; rfl, rfl⟩
end Go.Proofs.Ythgafhinlchghaa
