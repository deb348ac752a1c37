/- The heap sort of 32-bit numbers, whole; reversing a range. -/
import Derived.Test.YtgpcbiballdioaaDoorSrtSift
namespace Go.Proofs.YtgpcbiballdioaaDoor
open Go.RowKit
set_option linter.unusedVariables false
set_option maxRecDepth 8000
namespace Srt
/-- What popping keeps: a heap of k, and behind it the greater ones in order. -/
structure Pop (F hi k : Nat) (d : Fn) : Prop where
  heap : Hp F 0 k d
  tail : Sorted (F + k) (F + hi) d
  over : ∀ i j, F ≤ i → i < F + k → F + k ≤ j → j < F + hi → d i ≤ d j
theorem Pop.start {F hi : Nat} {d : Fn} (h : Hp F 0 hi d) : Pop F hi hi d := ⟨h, fun i j h1 h2 h3 => by omega, fun i j h1 h2 h3 h4 => by omega⟩
theorem Pop.swap {F hi k : Nat} {d : Fn} (h : Pop F hi (k + 1) d) (hk : k + 1 ≤ hi) : Hp F (0 + 1) k (sw d F (F + k)) := by
  intro i c h1 h2 h3
  rw [sw_o _ (by omega) (by omega), sw_o _ (by omega) (by omega)]
  exact h.heap i c (by omega) h2 (by omega)
theorem Pop.next {F hi k : Nat} {d e : Fn} (h : Pop F hi (k + 1) d) (hk : k + 1 ≤ hi) (hs : Sw (F + 0) (F + k) (sw d F (F + k)) e) (hp : Hp F 0 k e) : Pop F hi k e := by
  have ht : e (F + k) = d F := by rw [hs.out (.inr (Nat.le_refl _)), sw_j]
  have hf : ∀ j, F + k < j → e j = d j := fun j hj => by rw [hs.out (.inr (by omega)), sw_o _ (by omega) (by omega)]
  have htop := h.heap.top
  have hin : ∀ i, F ≤ i → i < F + k + 1 → d i ≤ d F := fun i h1 h2 => by
    have := htop (i - F) (by omega)
    rw [show F + (i - F) = i by omega] at this
    exact this
  have hle : ∀ i, F + 0 ≤ i → i < F + k → e i ≤ d F := by
    have hd : ∀ i, F + 0 ≤ i → i < F + k → sw d F (F + k) i ≤ d F := fun i h1 h2 => by
      by_cases e1 : i = F
      · subst e1; rw [sw_i]; exact hin _ (by omega) (by omega)
      · rw [sw_o _ e1 (by omega)]; exact hin i (by omega) (by omega)
    exact hs.all (P := fun x => x ≤ d F) hd
  have hov : ∀ j, F + k < j → j < F + hi → d F ≤ d j := fun j h1 h2 => h.over F j (Nat.le_refl _) (by omega) (by omega) h2
  refine ⟨hp, fun i j h1 h2 h3 => ?_, fun i j h1 h2 h3 h4 => ?_⟩
  · by_cases e1 : i = F + k
    · subst e1
      by_cases e2 : j = F + k
      · subst e2; exact Int.le_refl _
      · rw [ht, hf j (by omega)]; exact hov j (by omega) h3
    · rw [hf i (by omega), hf j (by omega)]; exact h.tail i j (by omega) h2 h3
  · have h5 := hle i h1 h2
    by_cases e2 : j = F + k
    · subst e2; rw [ht]; exact h5
    · rw [hf j (by omega)]; have := hov j (by omega) h4; omega
theorem Pop.done {F hi : Nat} {d : Fn} (h : Pop F hi 0 d) : Sorted F (F + hi) d := h.tail
set_option maxRecDepth 100000 in
set_option maxHeartbeats 2000000 in
theorem uHeap (b off n cap a c : Nat) (d : Fn) (w : World) (h : At b off n d w) (hac : a < c) (hc : c ≤ n) (hn : n ≤ 1000) :
    Calls Tryd.prog 40 #[.slice (some ⟨b, off, none⟩) n cap, .int .i64 a, .int .i64 c] w (GivesS b off n a c d w) := by
  obtain ⟨hi, hh⟩ : ∃ hi, hi = c - a := ⟨_, rfl⟩
  have eh : (c : Int) - a = (hi : Int) := by omega
  have hF : a + hi = c := by omega
  have hpos : 0 < hi := by omega
  have R0 := Lib.hid (Rw.start h)
  have HS := Lib.hid (fun (lo : Nat) (e : Fn) (w : World) h1 h2 h3 => uSift b off n cap lo hi a e w h1 h2 (by omega) hn h3)
  have HP := Lib.hid (show ∀ (k : Nat) (e : Fn) (w : World), At b off n e w → k ≤ hi → Hp a (0 + 1) k e → Calls Tryd.prog 54 #[.slice (some ⟨b, off, none⟩) n cap, .int .i64 0, .int .i64 k, .int .i64 a] w (GivesH b off n a 0 k e w) from
    fun k e w h1 h2 h3 => uSift b off n cap 0 k a e w h1 (Nat.zero_le _) (by omega) hn h3)
  clear h hh
  go_enter Tryd.func40, Tryd.ntmps40
  go_wp2_with fail
  go_loopw [9] (fun s9 wr => ∃ (k : Nat) (e : Fn), s9 = .int .i64 ((k : Int) - 1) ∧ k ≤ hi ∧ Sw a c d e ∧ Hp a k hi e ∧ Rw b off n w e wr) (fun s9 _ => (intOf s9 + 1).toNat)
  case atStart =>
    refine ⟨(hi - 1) / 2 + 1, d, ?_, by omega, .refl _, fun i q h1 h2 h3 => by omega, R0.out⟩
    congr 1
    first | omega | (rw [Int.tdiv_eq_ediv_of_nonneg (by omega)]; omega)
  case round =>
    obtain ⟨k, e, rfl, hk, hsw, hhp, hrw⟩ := hrel
    have HSW := Lib.hid hsw; have HHP := Lib.hid hhp; have HRW := Lib.hid hrw
    clear hsw hhp hrw
    rcases k with _ | k
    · have b1 : ¬ (0 : Int) ≤ ((0 : Nat) : Int) - 1 := by omega
      go_wp2_with fail
      go_loopw [10] (fun s10 wr2 => ∃ (k : Nat) (f : Fn), s10 = .int .i64 ((k : Int) - 1) ∧ k ≤ hi ∧ Sw a c d f ∧ Pop a hi k f ∧ Rw b off n w f wr2) (fun s10 _ => (intOf s10 + 1).toNat)
      case atStart => exact ⟨hi, e, rfl, Nat.le_refl _, HSW.out, Pop.start HHP.out, HRW.out⟩
      case round =>
        obtain ⟨k, f, rfl, hk, hsw, hpo, hrw⟩ := hrel
        have HSW := Lib.hid hsw; have HPO := Lib.hid hpo; have HRW := Lib.hid hrw
        clear hsw hpo hrw
        rcases k with _ | k
        · have b2 : ¬ (0 : Int) ≤ ((0 : Nat) : Int) - 1 := by omega
          have HD := Lib.hid (show Sorted a c f by have := HPO.out.done; rwa [hF] at this)
          go_wp2_with fail
          go_end0
          exact ⟨rfl, f, HSW.out, HD.out, HRW.out⟩
        · have e1 : ((k + 1 : Nat) : Int) - 1 = (k : Int) := by omega
          rw [e1]
          have b2 : (0 : Int) ≤ (k : Int) := by omega
          have i1 : (0 : Int) ≤ (a : Int) + k := by omega
          have i2 : (a : Int) + k < (n : Int) := by omega
          have i3 : (0 : Int) ≤ (a : Int) := by omega
          have i4 : (a : Int) < (n : Int) := by omega
          obtain ⟨x, hx⟩ : ∃ x, f a = x := ⟨_, rfl⟩
          obtain ⟨y, hy⟩ : ∃ y, f (a + k) = y := ⟨_, rfl⟩
          have c1 := HRW.out.at_.cell a (by omega)
          have c2 := HRW.out.at_.cell (a + k) (by omega)
          have f1 := HRW.out.at_.free a (by omega)
          have f2 := HRW.out.at_.free (a + k) (by omega)
          rw [hx] at c1; rw [hy] at c2
          obtain ⟨v3, hy3⟩ := cell?_setCell_some (w := wr) (p := ⟨b, off + a, none⟩) (x := .int .u32 y) (q := ⟨b, off + (a + k), none⟩) c2
          have HS3 := Lib.hid (HRW.out.swap (i := a) (j := a + k) (by omega) (by omega) hy hx)
          have HPS := Lib.hid (HPO.out.swap (by omega))
          clear hx hy
          go_wp2_with fail
          go_region
          go_wp2_with fail
          refine (HP.out k _ _ HS3.out.at_ (by omega) HPS.out).mono ?_
          rintro e' w2 ⟨rfl, g, s2, p2, r2⟩
          have P2 := Lib.hid (HPO.out.next (by omega) s2 p2)
          have S2 := Lib.hid ((HSW.out.trans (Sw.one f (i := a) (j := a + k) (by omega) (by omega) (by omega) (by omega))).trans (s2.mono (by omega) (by omega)))
          have R2 := Lib.hid (HS3.out.next r2)
          clear s2 p2 r2
          go_wp2_with fail
          go_roundw
          case rel => exact ⟨k, g, by go_num, by omega, S2.out, P2.out, R2.out⟩
          case measure => simp [intOf]
    · have e1 : ((k + 1 : Nat) : Int) - 1 = (k : Int) := by omega
      rw [e1]
      have b1 : (0 : Int) ≤ (k : Int) := by omega
      go_wp2_with fail
      refine (HS.out k e _ HRW.out.at_ (by omega) HHP.out).mono ?_
      rintro e' w2 ⟨rfl, f, s2, p2, r2⟩
      have S2 := Lib.hid (HSW.out.trans (s2.mono (by omega) (by omega))); have P2 := Lib.hid p2; have R2 := Lib.hid (HRW.out.next r2)
      clear s2 p2 r2
      go_wp2_with fail
      go_roundw
      case rel => exact ⟨k, f, by go_num, by omega, S2.out, P2.out, R2.out⟩
      case measure => simp [intOf]
end Srt
end Go.Proofs.YtgpcbiballdioaaDoor
