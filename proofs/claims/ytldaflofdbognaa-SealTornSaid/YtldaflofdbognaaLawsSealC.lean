/- The walk of the seal law that bodies put again are the bytes: it returns true, whatever the input. -/
import Derived.Test.YtldaflofdbognaaLawsSealB
namespace Go.Proofs.Ytldaflofdbognaa
open Go.ChangeShapes Go.WideShapes Go.ChangeAt Go.RowKit
open Vlq Seal
set_option linter.unusedVariables false
theorem frames_take (bs : List (List UInt8)) (k : Nat) : (frames (bs.take k)).length ≤ (frames bs).length := by
  have h : frames bs = frames (bs.take k) ++ frames (bs.drop k) := by
    rw [frames, frames, frames, ← List.flatten_append, ← List.map_append, List.take_append_drop]
  rw [h, List.length_append]; omega
theorem frames_next (bs : List (List UInt8)) (k : Nat) (h : k < bs.length) : frames (bs.take (k + 1)) = frames (bs.take k) ++ frame bs[k] := by
  rw [List.take_succ_eq_append_getElem h, frames_snoc]
def PutAgain (bs : List (List UInt8)) (w1 : World) (r i : Value) (wr : World) : Prop :=
  ∃ (k : Nat) (S : ByteArray), k ≤ bs.length ∧ i = .int .i64 (k : Int) ∧ r = .string S ∧ sl S = frames (bs.take k) ∧ Below w1.heap.size w1 wr
set_option maxRecDepth 100000 in
set_option maxHeartbeats 1000000 in
theorem walkSealOnce (s0 : ByteArray) (w : World) : Calls Try.prog 7 #[.string s0] w (SYes w) := by
  obtain ⟨s, hs, hsh⟩ := sealShort s0 w
  have h1 := fun w => sealAll s (by omega) w
  have hbd := allF_bound (sl s)
  have ho := allF_once (sl s) _ [] 0 rfl (Nat.zero_le _) rfl (by simp)
  obtain ⟨⟨bs, to, c0⟩, hR⟩ : ∃ R, R = allF (sl s) [] 0 := ⟨_, rfl⟩
  rw [← hR] at h1 ho hbd
  dsimp only at ho hbd
  rw [sl_len] at ho hbd
  obtain ⟨g1, g2, g3, g4⟩ := ho
  have hfl : (frames bs).length ≤ 10000 := by rw [← g2, List.length_take, sl_len]; omega
  have hcut : ∀ S : ByteArray, sl S = frames bs → ∀ w, (Instr.slice 9 (.string s) none (some (.int .i64 (to : Int))) none).run Try.prog w = .ok (.string S) w := by
    intro S hS w
    rw [run_slice_string_h (P := Try.prog) w 9 s Try.underlying9 .i64 (to : Int) (by omega) (by omega)]
    rw [str_of S hS, ← g2, Int.toNat_natCast]
    congr 2
    rw [cut_eq]; simp
  have G3 := Lib.hid g3; have HCUT := Lib.hid hcut; have G4 := Lib.hid g4; have HFL := Lib.hid hfl
  have H0 := Lib.hid hsh; have H1 := Lib.hid h1
  clear hsh h1 hR g2 g3 g4 hcut hfl
  go_enter Try.func7, Try.ntmps7
  go_wp2_with fail
  refine H0.out.mono ?_
  rintro e w' ⟨rfl, rfl⟩
  go_wp2_with fail
  refine (H1.out _).mono ?_
  rintro e w1 ⟨A, c, rfl, hA, hb1⟩
  dsimp only at hA
  go_wp2_with fail
  go_loopw [6, 21] (fun r i wr => PutAgain bs w1 r i wr) (fun _ i _ => bs.length - (intOf i).toNat)
  case atStart => exact ⟨0, ⟨#[]⟩, Nat.zero_le _, rfl, rfl, rfl, Below.refl _ _⟩
  case round =>
    obtain ⟨k, S, hk, rfl, rfl, hS, hb⟩ := hrel
    by_cases hlt : k < bs.length
    · obtain ⟨b1, o1, rfl, hc0⟩ := (hA.below hb).at_ (k := k) (by simpa using hlt)
      rw [List.getElem_map] at hc0
      have hbl : bs[k].length ≤ 8192 := G3.out _ (List.getElem_mem _)
      have hn := frames_next bs k hlt
      have ht := frames_take bs k
      obtain ⟨b, hbb⟩ : ∃ b : ByteArray, b = ⟨(bs[k]).toArray⟩ := ⟨_, rfl⟩
      have hsb : sl b = bs[k] := by rw [hbb]
      rw [← hsb] at hn hbl
      rw [sl_len] at hbl
      have hc1 : wr.cell? ⟨b1, o1 + k, none⟩ = some (.string b) := by rw [hc0, hbb]
      have hSz : S.size ≤ 10000 := by rw [← sl_len, hS]; have := HFL.out; omega
      obtain ⟨F, hF, hF1, hF2, hPut⟩ := put_frame b hbl
      have HN := Lib.hid (show sl (S ++ F) = frames (bs.take (k + 1)) by rw [sl_append, hS, hF, hn])
      have HP := Lib.hid hPut
      have hkk : (k : Int) < bs.length := by omega
      have hcat : S.size + F.size ≤ 20000 := by omega
      clear hc0 hn hsb hbb hS hF hPut hA ht
      go_wp2_with fail
      refine (HP.out _).mono ?_
      rintro e w2 ⟨rfl, hb2⟩
      go_wp2_with fail
      go_roundw
      case rel => exact ⟨k + 1, S ++ F, by omega, by go_num, rfl, HN.out, hb.trans (hb2.mono hb.size)⟩
      case measure => simp [intOf]; omega
    · obtain rfl : bs.length = k := by omega
      have hkk : ¬ (bs.length : Int) < bs.length := by omega
      rw [List.take_length] at hS
      have hsl := HCUT.out S hS
      clear hS hA
      have ht0 : 0 ≤ (to : Int) := by omega
      have ht1 : (to : Int) ≤ s.size := by omega
      by_cases hc : c0 = 0
      · have e1 : ((c0 : Int) == 0) = true := eq_b (by omega)
        have e2 : ((to : Int) == (s.size : Int)) = true := eq_b (by have := G4.out.1 hc; omega)
        clear hc
        go_wp2_with fail
        refine (sum_none _).mono ?_
        rintro e w' ⟨rfl, rfl⟩
        go_wp2_with fail
        go_ret
        exact ⟨rfl, below_next hb1 hb⟩
      · have e1 : ((c0 : Int) == 0) = false := ne_b (by omega)
        have e2 : ((to : Int) == (s.size : Int)) = false := ne_b (fun h => hc (G4.out.2 (by omega)))
        clear hc
        go_wp2_with fail
        refine (sum_none _).mono ?_
        rintro e w' ⟨rfl, rfl⟩
        go_wp2_with fail
        go_ret
        exact ⟨rfl, below_next hb1 hb⟩
theorem lawSealOnce : Lift.Owes 7 [9] := by
  intro H enc W base args ds ps hval hA _ _
  obtain ⟨v0, d0, rfl, rfl, h0⟩ := trodAll_one hA
  obtain ⟨s, rfl, rfl, rfl, w0⟩ := ChangeMaps.open_string Try.underlying9 (hval 0 _ v0 rfl rfl) h0
  exact walkSealOnce s W
end Go.Proofs.Ytldaflofdbognaa
