/- The walks of the seal laws that frames are read as bodies, and bodies put again are the bytes: each returns true, whatever the input. -/
import Derived.Test.YtldaflofdbognaaLawsSeal
namespace Go.Proofs.Ytldaflofdbognaa
open Go.ChangeShapes Go.WideShapes Go.ChangeAt Go.RowKit
open Vlq Seal
set_option linter.unusedVariables false
theorem put_frame (s : ByteArray) (h : s.size ≤ 8192) : ∃ F : ByteArray, sl F = frame (sl s) ∧ 6 + s.size ≤ F.size ∧ F.size ≤ s.size + 15 ∧
    ∀ w, Calls Try.prog 10 #[.string s] w fun e w' => e = .returned (.tuple #[.string F, .int .i64 0]) ∧ Below w.heap.size w w' := by
  have hb := frame_bd (sl s) (by rw [sl_len]; exact h)
  rw [sl_len] at hb
  exact ⟨⟨(frame (sl s)).toArray⟩, rfl, hb.1, hb.2, fun w => sealPut_ok s h w⟩
theorem sl_append (a b : ByteArray) : sl (a ++ b) = sl a ++ sl b := by
  simp [sl, ByteArray.data_append]
theorem str_of (S : ByteArray) {l : List UInt8} (h : sl S = l) : S = ⟨l.toArray⟩ := by
  subst h; rfl
/-- Where the making of frames stands. -/
def Made (w : World) (r v : Value) (k : Nat) (wr : World) : Prop :=
  ∃ (cs : List (List UInt8)) (S : ByteArray) (A : Option Addr) (c : Nat), r = .string S ∧ v = .slice A cs.length c ∧ wr.ownsRow w.heap.size 9 1 v cs.length (cs.map strv) ∧ cs.length = k ∧
    sl S = frames cs ∧ S.size ≤ 1015 * k ∧ (∀ b ∈ cs, b.length ≤ 1000) ∧ Below w.heap.size w wr
theorem all_of (S : ByteArray) (cs : List (List UInt8)) (h : sl S = frames cs) (hs : S.size ≤ 100000) (hb : ∀ b ∈ cs, b.length ≤ 1000) (w : World) :
    Calls Try.prog 16 #[.string S] w (AllPost (cs, S.size, 0) w) := by
  have h1 := sealAll S hs w
  rw [h, allF_frames cs (fun b hm => by have := hb b hm; omega), ← h, sl_len] at h1
  exact h1
set_option maxRecDepth 100000 in
set_option maxHeartbeats 1000000 in
theorem walkSealBack (D : Option Addr) (d : Nat) (bs : List (List UInt8)) (w : World) (hD : Row w D (bs.map strv)) (hn : bs.length ≤ maxLen) (hm : ∀ b ∈ bs, b.length ≤ maxLen) :
    Calls Try.prog 6 #[.slice D bs.length d] w (SYes w) := by
  obtain ⟨i0, hi0, hz0, hz1, hz2⟩ := info_parts info_str
  unfold maxLen at hn hm
  go_enter Try.func6, Try.ntmps6
  go_wp2_with fail
  go_loopw [3, 4, 14] (fun r v i wr => ∃ k : Nat, k ≤ bs.length ∧ k ≤ 12 ∧ i = .int .i64 (k : Int) ∧ Made w r v k wr) (fun _ _ i _ => bs.length - (intOf i).toNat)
  case atStart => exact ⟨0, Nat.zero_le _, by omega, rfl, [], ⟨#[]⟩, none, 0, rfl, rfl, own_none, rfl, rfl, by decide, by simp, Below.refl _ _⟩
  case round =>
    obtain ⟨k, hk, hk12, rfl, cs, S, A, c, rfl, rfl, hown, rfl, hS, hSs, hcs, hb⟩ := hrel
    by_cases hgo : cs.length < bs.length ∧ cs.length < 12
    · obtain ⟨hlt, hlt2⟩ := hgo
      obtain ⟨b1, o1, rfl, hc0⟩ := (hD.below hb).at_ (k := cs.length) (by simpa using hlt)
      rw [List.getElem_map] at hc0
      obtain ⟨b, hbb⟩ : ∃ b : ByteArray, b = ⟨(bs[cs.length]).toArray⟩ := ⟨_, rfl⟩
      have hc1 : wr.cell? ⟨b1, o1 + cs.length, none⟩ = some (.string b) := by rw [hc0, hbb]
      have hbm : b.size ≤ 9223372036854775807 := by
        have := hm bs[cs.length] (List.getElem_mem _)
        rw [hbb]; exact this
      obtain ⟨x, hx, hway⟩ : ∃ x : ByteArray, x.size ≤ 1000 ∧ ((1000 < b.size ∧ ∀ w, (Instr.slice 9 (.string b) none (some (.int .i64 1000)) none).run Try.prog w = .ok (.string x) w) ∨ (b.size ≤ 1000 ∧ b = x)) := by
        by_cases h : 1000 < b.size
        · exact ⟨b.extract 0 1000, by rw [ByteArray.size_extract]; omega, .inl ⟨h, fun w => by
            rw [run_slice_string_h (P := Try.prog) w 9 b Try.underlying9 .i64 1000 (by omega) (by omega)]; rfl⟩⟩
        · exact ⟨b, by omega, .inr ⟨by omega, rfl⟩⟩
      obtain ⟨F, hF, hF1, hF2, hPut⟩ := put_frame x (by omega)
      obtain ⟨S', hS'⟩ : ∃ S', S' = S ++ F := ⟨_, rfl⟩
      have hS2 : sl S' = frames (cs ++ [sl x]) := by rw [hS', sl_append, hS, hF, frames_snoc]
      have hS3 : S'.size ≤ 1015 * (cs.length + 1) := by rw [hS', ByteArray.size_append]; omega
      obtain ⟨ds, hds⟩ : ∃ ds, ds = cs ++ [sl x] := ⟨_, rfl⟩
      rw [← hds] at hS2
      have HL := Lib.hid (show cs.length + 1 = ds.length by rw [hds]; simp)
      have HM := Lib.hid (show cs.map strv ++ [sl x].map strv = ds.map strv by rw [hds]; simp)
      have HB := Lib.hid (show ∀ b ∈ ds, b.length ≤ 1000 by
        intro b hm
        rw [hds] at hm
        rcases List.mem_append.1 hm with hm | hm
        · exact hcs b hm
        · rw [List.mem_singleton.1 hm, sl_len]; exact hx)
      have HP := Lib.hid hPut; have HS := Lib.hid hS2; have HC := Lib.hid hS'; have HS3 := Lib.hid hS3
      have hcat : S.size + F.size ≤ 20000 := by omega
      have hkk : (cs.length : Int) < bs.length := by omega
      have hwr := hb.size
      clear hS hS2 hS' hcs hPut hds hS3 hF hbb hD hm hc0
      rcases hway with ⟨h1, h2⟩ | ⟨h1, rfl⟩
      all_goals
        go_wp2_with fail
        refine (HP.out _).mono ?_
        rintro e w1 ⟨rfl, hb1⟩
        have hbw1 := hb.trans (hb1.mono hwr)
        have hown1 := own_mono hown hb1
        have hw1 := hb1.size
        go_wp2_with
          (at_builtin
           refine wpApp rfl (.tmp 41) (.tmp 43) _ rfl w.heap.size 9 i0 _ 1 16 Try.underlying32 hi0 hz0 hz1 hz2 rfl (by omega) _ cs.length (cs.map strv) rfl (own_mono hown1 ((Below.refl _ _).alloc (Nat.le_refl _) _)) (some ⟨w1.heap.size, 0, none⟩) 1 1 ([sl _].map strv) rfl (one_str w1 (sl _) 9) rfl strv_ones (by unfold maxLen; omega) (by omega) (by simp; omega) ?_
           intro v2 w2 hown2 hb2
           have hbw := (hbw1.alloc (by omega) (.cells #[strv (sl _)] 9)).trans hb2
           rw [HL.out, HM.out] at hown2
           obtain ⟨A2, c2, rfl, _, _, _, _, _⟩ := own_form hown2 (by omega)
           clear hown1 hb2 hbw1 hb hb1 hown)
        go_roundw
        case rel => exact ⟨cs.length + 1, by omega, by omega, by go_num, ds, S ++ F, A2, c2, rfl, rfl, hown2, HL.out.symm, by rw [← HC.out]; exact HS.out, by rw [← HC.out]; exact HS3.out, HB.out, hbw⟩
        case measure => simp [intOf]; omega
    · have hall := fun w => all_of S cs hS (by omega) hcs w
      have HALL := Lib.hid hall
      have hr := own_row hown
      have hcl : cs.length ≤ 1000000 := by omega
      have HCL := Lib.hid hcl
      clear hall hS hcs hSs hcl
      by_cases hlt : cs.length < bs.length
      · obtain ⟨b1, o1, rfl, hc0⟩ := (hD.below hb).at_ (k := cs.length) (by simpa using hlt)
        rw [List.getElem_map] at hc0
        have hkk : (cs.length : Int) < bs.length := by omega
        have h12 : 12 ≤ (cs.length : Int) := by omega
        clear hD hm hgo
        go_wp2_with fail
        refine (HALL.out _).mono ?_
        rintro e w1 ⟨A1, c1, rfl, hA1, hb1⟩
        go_wp2_with fail
        refine (refLike cs A1 A c1 c _ HCL.out hA1 (hr.below hb1)).mono ?_
        rintro e w2 ⟨rfl, hb2⟩
        go_wp2_with fail
        refine (sum_none _).mono ?_
        rintro e w' ⟨rfl, rfl⟩
        go_wp2_with fail
        go_ret
        exact ⟨rfl, (hb.trans (hb1.mono hb.size)).trans (hb2.mono (Nat.le_trans hb.size hb1.size))⟩
      · have hkk : ¬ (cs.length : Int) < bs.length := by omega
        clear hD hm hgo
        go_wp2_with fail
        refine (HALL.out _).mono ?_
        rintro e w1 ⟨A1, c1, rfl, hA1, hb1⟩
        go_wp2_with fail
        refine (refLike cs A1 A c1 c _ HCL.out hA1 (hr.below hb1)).mono ?_
        rintro e w2 ⟨rfl, hb2⟩
        go_wp2_with fail
        refine (sum_none _).mono ?_
        rintro e w' ⟨rfl, rfl⟩
        go_wp2_with fail
        go_ret
        exact ⟨rfl, (hb.trans (hb1.mono hb.size)).trans (hb2.mono (Nat.le_trans hb.size hb1.size))⟩
theorem cells_string : Try.prog.cellsOf 9 = 1 := by kernel_rfl
theorem lawSealBack : Lift.Owes 6 [32] := by
  intro H enc W base args ds ps hval hA _ _
  obtain ⟨v0, d0, rfl, rfl, h0⟩ := trodAll_one hA
  obtain ⟨A, c, bs, rfl, hl, hm, hr, hbs, _⟩ := openStrs Try.underlying32 Try.underlying9 cells_string (hval 0 _ v0 rfl rfl) h0
  exact walkSealBack A c bs W hr (Nat.le_trans hl hm) hbs
end Go.Proofs.Ytldaflofdbognaa
