/- container/heap's Init, Push, Pop. -/
import Derived.Test.YtklgehfbfokdlaaTimQ
namespace Go.Proofs.Ytklgehfbfokdlaa
open Go.RowKit
set_option linter.unusedVariables false
namespace Tim
/-- The walk's way to a Len through the interface. -/
theorem HeapAt.cell0 {M : Nat → Prop} {w : World} {h : Nat} {d : List Tm} (H : HeapAt M w h d) : ∃ A c, w.cell? ⟨h, 0, none⟩ = some (.slice A d.length c) := by
  obtain ⟨A, c, hl, _⟩ := H.row
  exact ⟨A, c, hl.cell (j := 0) rfl⟩
set_option maxHeartbeats 2000000 in
theorem hpInit (M : Nat → Prop) (h : Nat) (d : List Tm) (w : World) (H : HeapAt M w h d) (hl : d.length ≤ 100000) :
    Calls Try.prog 27 #[hV h] w fun e w' => e = .returned (.tuple #[]) ∧ ∃ d', HeapAt M w' h d' ∧ Mine M w w' ∧ Hp d' ∧ d'.Perm d := by
  obtain ⟨A, c, hc⟩ := H.cell0
  have eL := mLen h _ w hc
  obtain ⟨n, en⟩ : ∃ n, n = d.length := ⟨_, rfl⟩
  rw [← en] at eL hl
  have HH := Lib.hid H
  have EN := Lib.hid en
  clear H hc en
  obtain ⟨m, em⟩ : ∃ m, m = n / 2 := ⟨_, rfl⟩
  have hq : (n : Int).tdiv 2 = (m : Int) := by rw [em]; rfl
  have hm : m ≤ n := by omega
  have EM := Lib.hid em
  clear em
  go_enter Try.func27, Try.ntmps27
  go_wp2_with (go_at_call 48; refine (qLen A n c _).mono ?_; rintro e w1 ⟨rfl, rfl⟩)
  go_loopw [3] (fun s3 wr => ∃ (i : Nat) (c : List Tm), s3 = .int .i64 ((i : Int) - 1) ∧ i ≤ m ∧ HpN c n i ∧ c.Perm d ∧ HeapAt M wr h c ∧ Mine M w wr)
    (fun s3 _ => (intOf s3 + 1).toNat)
  case atStart => exact ⟨m, d, by go_num, Nat.le_refl _, by rw [EM.out, EN.out]; exact init_start d, .refl _, HH.out, Mine.refl _ _⟩
  case round =>
    obtain ⟨i, c, rfl, hi, hp, hpm, H, hmn⟩ := hrel
    have HPN := Lib.hid hp
    have HPM := Lib.hid hpm
    have H1 := Lib.hid H
    have HMN := Lib.hid hmn
    clear hp hpm H hmn eL
    rcases Nat.eq_zero_or_pos i with h0 | h0
    · subst h0
      go_wp2_with fail
      go_end0
      have hll : c.length = n := by rw [HPM.out.length_eq]; exact EN.out.symm
      refine ⟨rfl, c, H1.out, HMN.out, ?_, HPM.out⟩
      unfold Hp
      rw [hll]
      exact HPN.out
    · obtain ⟨j, rfl⟩ : ∃ j, i = j + 1 := ⟨i - 1, by omega⟩
      have ej : ((j + 1 : Nat) : Int) - 1 = (j : Int) := by omega
      rw [ej]
      go_wp2_with (go_at_call 30; refine (hpDown M h c j n j _ H1.out (by rw [HPM.out.length_eq]; have := EN.out; omega) (down_start HPN.out) (by omega) (by rw [HPM.out.length_eq]; have := EN.out; omega)).mono ?_; rintro e w2 ⟨⟨b, rfl⟩, d2, h2, m2, hp2, hpm2, _⟩; have H2 := Lib.hid h2; have M2 := Lib.hid m2; have HP2 := Lib.hid hp2; have HPM2 := Lib.hid hpm2; clear h2 m2 hp2 hpm2)
      go_roundw
      case rel => exact ⟨j, d2, by go_num, by omega, HP2.out, HPM2.out.trans HPM.out, H2.out, HMN.out.trans M2.out⟩
      case measure => simp [intOf]
set_option maxHeartbeats 2000000 in
theorem hpPush (M : Nat → Prop) (h : Nat) (d l : List Tm) (x : Tm) (w : World) (H : HeapAt M w h d) (hr : Rep d l) (hl : d.length < 100000) :
    Calls Try.prog 21 #[hV h, .iface 27 (tmV x)] w fun e w' => e = .returned (.tuple #[]) ∧ ∃ M' d', HeapAt M' w' h d' ∧ Mine M w w' ∧ (∀ k, M k → M' k) ∧ (∀ k, M' k → M k ∨ w.heap.size ≤ k) ∧ Rep d' (ins x l) := by
  have eP := mPush h w
  have HR := Lib.hid hr
  have HH := Lib.hid H
  clear H hr
  obtain ⟨n, en⟩ : ∃ n, n = d.length := ⟨_, rfl⟩
  have EN := Lib.hid en
  have hn : n < 100000 := by omega
  clear en
  go_enter Try.func21, Try.ntmps21
  go_wp2_with first
    | (go_at_call 57
       refine (qPush M h d x _ HH.out (by omega)).mono ?_
       rintro e w1 ⟨rfl, M1, h1, m1, q1, q2⟩
       obtain ⟨A, c, hc⟩ := h1.cell0
       have eL := mLen h _ w1 hc
       rw [List.length_append, List.length_singleton, ← EN.out] at eL
       have en1 : ((n + 1 : Nat) : Int) - 1 = (n : Int) := by omega
       have H1 := Lib.hid h1
       have M1' := Lib.hid m1
       have Q1 := Lib.hid q1
       have Q2 := Lib.hid q2
       clear h1 m1 q1 q2 hc eP)
    | (go_at_call 48
       refine (qLen A (n + 1) c _).mono ?_
       rintro e w2 ⟨rfl, rfl⟩)
    | (go_at_call 29
       refine (hpUp M1 h (d ++ [x]) n _ H1.out (by rw [List.length_append, List.length_singleton]; have := EN.out; omega) (by rw [EN.out]; exact up_start HR.out.hp) (by rw [List.length_append, List.length_singleton]; omega)).mono ?_
       rintro e w3 ⟨rfl, d3, h3, m3, hp3, hpm3⟩
       have H3 := Lib.hid h3
       have M3 := Lib.hid m3
       have HP3 := Lib.hid hp3
       have HPM3 := Lib.hid hpm3
       clear h3 m3 hp3 hpm3)
  go_end0
  exact ⟨rfl, M1, d3, H3.out, M1'.out.next Q2.out M3.out, Q1.out, Q2.out, HR.out.pushed HP3.out HPM3.out⟩
set_option maxHeartbeats 2000000 in
theorem hpPop (M : Nat → Prop) (h : Nat) (d l : List Tm) (x : Tm) (w : World) (H : HeapAt M w h d) (hr : Rep d (x :: l)) (hl : d.length ≤ 100000) :
    Calls Try.prog 22 #[hV h] w fun e w' => e = .returned (.iface 27 (tmV x)) ∧ ∃ d', HeapAt M w' h d' ∧ Mine M w w' ∧ Rep d' l := by
  obtain ⟨n, hn⟩ : ∃ n, d.length = n + 1 := ⟨l.length, by rw [hr.len]; rfl⟩
  obtain ⟨y, hy⟩ : ∃ y, d[0]? = some y := ⟨_, List.getElem?_eq_getElem (by omega)⟩
  obtain ⟨z, hz⟩ : ∃ z, d[n]? = some z := ⟨_, List.getElem?_eq_getElem (by omega)⟩
  obtain ⟨g, cap, hlie, hown, hMg, hgh, hnc, hcm⟩ := H.open_ (by omega)
  rw [hn] at hlie hown hnc
  have eL := mLen h _ w (hlie.cell (j := 0) rfl)
  have eS := mSwap h _ w (hlie.cell (j := 0) rfl)
  have en1 : ((n + 1 : Nat) : Int) - 1 = (n : Int) := by omega
  have hn1 : n + 1 ≤ 100000 := by omega
  have HR := Lib.hid hr
  have HH := Lib.hid H
  have HLie := Lib.hid hlie
  have HO := Lib.hid hown
  have HN := Lib.hid hn
  have HY := Lib.hid hy
  have HZ := Lib.hid hz
  have HG := Lib.hid hgh
  have HM := Lib.hid hMg
  clear hr H hlie hown hn hy hz hl hgh hMg
  go_enter Try.func22, Try.ntmps22
  go_wp2_with first
    | (go_at_call 48
       refine (qLen _ (n + 1) cap _).mono ?_
       rintro e w2 ⟨rfl, rfl⟩
       clear eL)
    | (go_at_call 50
       refine (qSwap d g (n + 1) cap 0 n y z _ HN.out.symm HO.out HY.out HZ.out (by unfold maxLen; omega)).mono ?_
       rintro e w3 ⟨rfl, ho3, hm3⟩
       have H3 := Lib.hid (HH.out.turned HLie.out HM.out HG.out ho3 (by rw [swp_len]; exact HN.out.symm) hm3)
       have M3 := Lib.hid (hm3.of_eq HM.out)
       clear ho3 hm3 eS)
    | (go_at_call 30
       refine (hpDown M h (swp d 0 n y z) 0 n 0 _ H3.out (by rw [swp_len]; have := HN.out; omega) (pop_start HR.out.hp HN.out HY.out HZ.out) (by omega) (by rw [swp_len]; have := HN.out; omega)).mono ?_
       rintro e w4 ⟨⟨b, rfl⟩, d4, h4, m4, hp4, hpm4, hf4⟩
       obtain ⟨r1, r2, r3⟩ := HR.out.popped (d1 := []) HN.out HY.out HZ.out hp4 hpm4 hf4
       have H4 := Lib.hid h4
       have M4 := Lib.hid (M3.out.trans m4)
       have R1 := Lib.hid r1
       have R2 := Lib.hid r2
       have R3 := Lib.hid (show d4.length = n + 1 by rw [hpm4.length_eq, swp_len]; exact HN.out)
       have eP := mPop h w4
       clear h4 m4 r1 r2 r3 hp4 hpm4 hf4)
    | (go_at_call 56
       refine (qPop M h n d4 x _ H4.out R3.out R1.out (by have := R3.out; omega)).mono ?_
       rintro e w5 ⟨rfl, h5, m5⟩
       have H5 := Lib.hid h5
       have M5 := Lib.hid (M4.out.trans m5)
       clear h5 m5 eP)
  go_ret
  exact ⟨rfl, _, H5.out, M5.out, R2.out⟩
end Tim
end Go.Proofs.Ytklgehfbfokdlaa
