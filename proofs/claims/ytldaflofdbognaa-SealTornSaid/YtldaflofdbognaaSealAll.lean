/- Contracts of All, of package seal and of the reference, and of the reference's comparing of lists. -/
import Derived.Test.YtldaflofdbognaaSealRef
import Derived.Test.YtldaflofdbognaaSealAllMath
import Derived.Test.YtldaflofdbognaaStrs
import Derived.WalkMore
namespace Go.Proofs.Ytldaflofdbognaa
open Go.RowKit
open Vlq Seal
set_option linter.unusedVariables false
theorem info_str : (Try.prog.info? 9).map (fun i => (i.zero, i.size, i.bytes)) = some (some (.string ⟨#[]⟩), 1, 16) := by kernel_rfl
def AllPost (R : List (List UInt8) × Nat × Nat) (w : World) (e : Ending) (w' : World) : Prop :=
  ∃ A c, e = .returned (.tuple #[.slice A R.1.length c, .int .i64 (R.2.1 : Int), .int .i64 (R.2.2 : Int)]) ∧ Row w' A (R.1.map strv) ∧ Below w.heap.size w w'
/-- Where All stands at the head of a round. -/
def AllAt (s : ByteArray) (R : List (List UInt8) × Nat × Nat) (w : World) (v at_ : Value) (wr : World) : Prop :=
  ∃ (bs : List (List UInt8)) (i : Nat) (A : Option Addr) (c : Nat), v = .slice A bs.length c ∧ wr.ownsRow w.heap.size 9 1 v bs.length (bs.map strv) ∧ at_ = .int .i64 (i : Int) ∧
    i ≤ s.size ∧ bs.length ≤ i ∧ allF (sl s) bs i = R ∧ Below w.heap.size w wr
theorem AllAt.row {s : ByteArray} {R : List (List UInt8) × Nat × Nat} {w wr : World} {v at_ : Value} (h : AllAt s R w v at_ wr) :
    ∃ (bs : List (List UInt8)) (i : Nat) (A : Option Addr) (c : Nat), v = .slice A bs.length c ∧ wr.ownsRow w.heap.size 9 1 v bs.length (bs.map strv) ∧ at_ = .int .i64 (i : Int) ∧
    i ≤ s.size ∧ bs.length ≤ i ∧ allF (sl s) bs i = R ∧ Below w.heap.size w wr := h
theorem own_mono {w w' : World} {B n : Nat} {e : TypeId} {v : Value} {xs : List Value} (h : w.ownsRow B e 1 v n xs) (hb : Below w.heap.size w w') : w'.ownsRow B e 1 v n xs := by
  obtain ⟨hl, ⟨rfl, rfl⟩ | ⟨g, cap, cur, rfl, hg, hh, hn, hm, hc, hx⟩⟩ := h
  · exact ⟨hl, .inl ⟨rfl, rfl⟩⟩
  · have hlt : g < w.heap.size := by
      rcases Nat.lt_or_ge g w.heap.size with h1 | h1
      · exact h1
      · rw [Array.getElem?_eq_none h1] at hh; cases hh
    exact ⟨hl, .inr ⟨g, cap, cur, rfl, hg, (hb.block g hlt).trans hh, hn, hm, hc, hx⟩⟩
theorem own_row {w : World} {B n c : Nat} {e : TypeId} {A : Option Addr} {xs : List Value} (h : w.ownsRow B e 1 (.slice A n c) n xs) : Row w A xs := by
  obtain ⟨A', c', h1, _, _, _, h2, _⟩ := own_form h (by omega)
  cases h1
  exact h2
theorem all_done {bs : List (List UInt8)} {i c0 c : Nat} {A : Option Addr} {R : List (List UInt8) × Nat × Nat} {w w1 : World} (h : (bs, i, c0) = R) (hr : Row w1 A (bs.map strv)) (hb : Below w.heap.size w w1) :
    AllPost R w (.returned (.tuple #[.slice A bs.length c, .int .i64 (i : Int), .int .i64 (c0 : Int)])) w1 := by
  subst h
  exact ⟨A, c, rfl, hr, hb⟩
theorem one_str (w : World) (b : List UInt8) (t : TypeId) : Row (w.alloc (.cells #[strv b] t)) (some ⟨w.heap.size, 0, none⟩) ([b].map strv) := one_new _ _ _
set_option maxRecDepth 100000 in
set_option maxHeartbeats 1000000 in
theorem sealAll (s : ByteArray) (hs : s.size ≤ 100000) (w : World) :
    Calls Try.prog 16 #[.string s] w (AllPost (allF (sl s) [] 0) w) := by
  obtain ⟨i0, hi0, hz0, hz1, hz2⟩ := info_parts info_str
  obtain ⟨R, hR⟩ : ∃ R, R = allF (sl s) [] 0 := ⟨_, rfl⟩
  rw [← hR]
  have HR := Lib.hid hR.symm
  clear hR
  go_enter Try.func16, Try.ntmps16
  go_wp2_with fail
  go_step3
  go_wp2_with fail
  go_step3
  go_wp2_with fail
  go_loopw [5, 6, 7] (fun v i y wr => y = .int .i64 0 ∧ AllAt s R w v i wr) (fun _ i _ _ => s.size - (intOf i).toNat)
  case atStart => exact ⟨rfl, [], 0, none, 0, rfl, own_none, rfl, by omega, by simp, HR.out, Below.refl _ _⟩
  case round =>
    obtain ⟨rfl, hrel⟩ := hrel
    obtain ⟨bs, i, A, c, rfl, hown, rfl, hi, hbi, hA, hb⟩ := hrel.row
    have hgf := sealGet s i (by omega) hi
    by_cases hlt : i < s.size
    · have hne : ((i : Int) == (s.size : Int)) = false := ne_b (by omega)
      by_cases hok : (getF (sl s) i).2.2 = 0
      · obtain ⟨g1, g2, g3, g4⟩ := getF_next hok
        rw [allF_step (by rw [sl_len]; exact hlt) hok] at hA
        obtain ⟨⟨b, to, c0⟩, hg⟩ : ∃ G, G = getF (sl s) i := ⟨_, rfl⟩
        rw [← hg] at hgf hok g1 g2 g3 hA
        dsimp only at hok g1 g2 g3 hA
        subst hok
        rw [sl_len] at g2
        obtain ⟨cs, hcs⟩ : ∃ cs, cs = bs ++ [b] := ⟨_, rfl⟩
        rw [← hcs] at hA
        have HL := Lib.hid (show bs.length + 1 = cs.length by rw [hcs]; simp)
        have HM := Lib.hid (show bs.map strv ++ [b].map strv = cs.map strv by rw [hcs]; simp)
        have HG := Lib.hid hgf
        have HA := Lib.hid hA
        clear hgf hA hg g4 hcs
        go_wp2_with fail
        refine (HG.out _).mono ?_
        rintro e w1 ⟨rfl, hb1⟩
        have hwr := hb.size
        have hbw1 := hb.trans (hb1.mono hwr)
        have hown1 := own_mono hown hb1
        have hw1 := hb1.size
        clear hown hb hb1 hrel
        go_wp2_with
          (at_builtin
           refine wpApp rfl (.tmp 27) (.tmp 29) _ rfl w.heap.size 9 i0 _ 1 16 Try.underlying32 hi0 hz0 hz1 hz2 rfl (by omega) _ bs.length (bs.map strv) rfl (own_mono hown1 ((Below.refl _ _).alloc (Nat.le_refl _) _)) (some ⟨w1.heap.size, 0, none⟩) 1 1 ([b].map strv) rfl (one_str w1 b 9) rfl strv_ones (by unfold maxLen; omega) (by omega) (by simp; omega) ?_
           intro v2 w2 hown2 hb2
           have hbw := (hbw1.alloc (by omega) (.cells #[strv b] 9)).trans hb2
           rw [HL.out, HM.out] at hown2
           obtain ⟨A2, c2, rfl, _, _, _, _, _⟩ := own_form hown2 (by omega)
           clear hown1 hb2 hbw1)
        go_roundw
        case rel => exact ⟨rfl, cs, to, A2, c2, rfl, hown2, rfl, g2, by have := HL.out; omega, HA.out, hbw⟩
        case measure => simp [intOf]; omega
      · rw [allF_stop (by rw [sl_len]; exact hlt) hok] at hA
        have hbad := getF_bad hok
        obtain ⟨c0, hc0⟩ : ∃ c0, c0 = (getF (sl s) i).2.2 := ⟨_, rfl⟩
        rw [← hc0] at hbad hok hA
        rw [hbad] at hgf
        have hr := own_row hown
        have hck : ((c0 : Int) != 0) = true := nb (by omega)
        have HG := Lib.hid hgf
        have HA := Lib.hid hA
        clear hgf hA hok hc0 hbad
        go_wp2_with fail
        refine (HG.out _).mono ?_
        rintro e w1 ⟨rfl, hb1⟩
        go_wp2_with fail
        rw [Exit.noGoto_ret]
        go_ret3
        exact all_done HA.out (hr.below hb1) (hb.trans (hb1.mono hb.size))
    · obtain rfl : s.size = i := by omega
      rw [allF_end (by rw [sl_len]; exact Nat.le_refl _)] at hA
      rw [getF_none (by rw [sl_len]; exact Nat.le_refl _)] at hgf
      have hr := own_row hown
      have HG := Lib.hid hgf
      have HA := Lib.hid hA
      clear hgf hA
      go_wp2_with fail
      refine (HG.out _).mono ?_
      rintro e w1 ⟨rfl, hb1⟩
      go_wp2_with fail
      rw [Exit.noGoto_ret]
      go_ret3
      exact all_done HA.out (hr.below hb1) (hb.trans (hb1.mono hb.size))
set_option maxRecDepth 100000 in
set_option maxHeartbeats 1000000 in
theorem refAll (s : ByteArray) (hs : s.size ≤ 100000) (w : World) :
    Calls Try.prog 17 #[.string s] w (AllPost (allF (sl s) [] 0) w) := by
  obtain ⟨i0, hi0, hz0, hz1, hz2⟩ := info_parts info_str
  obtain ⟨R, hR⟩ : ∃ R, R = allF (sl s) [] 0 := ⟨_, rfl⟩
  rw [← hR]
  have HR := Lib.hid hR.symm
  clear hR
  go_enter Try.func17, Try.ntmps17
  go_wp2_with fail
  go_loopw [5, 6] (fun v i wr => AllAt s R w v i wr) (fun _ i _ => s.size - (intOf i).toNat)
  case atStart => exact ⟨[], 0, _, 0, rfl, own_new (Nat.le_refl _), rfl, by omega, by simp, HR.out, (Below.refl _ _).alloc (Nat.le_refl _) _⟩
  case round =>
    obtain ⟨bs, i, A, c, rfl, hown, rfl, hi, hbi, hA, hb⟩ := hrel.row
    have hgf := refSeal s i (by omega) hi
    by_cases hlt : i < s.size
    · by_cases hok : (getF (sl s) i).2.2 = 0
      · obtain ⟨g1, g2, g3, g4⟩ := getF_next hok
        rw [allF_step (by rw [sl_len]; exact hlt) hok] at hA
        obtain ⟨⟨b, to, c0⟩, hg⟩ : ∃ G, G = getF (sl s) i := ⟨_, rfl⟩
        rw [← hg] at hgf hok g1 g2 g3 hA
        dsimp only at hok g1 g2 g3 hA
        subst hok
        rw [sl_len] at g2
        obtain ⟨cs, hcs⟩ : ∃ cs, cs = bs ++ [b] := ⟨_, rfl⟩
        rw [← hcs] at hA
        have HL := Lib.hid (show bs.length + 1 = cs.length by rw [hcs]; simp)
        have HM := Lib.hid (show bs.map strv ++ [b].map strv = cs.map strv by rw [hcs]; simp)
        have HG := Lib.hid hgf
        have HA := Lib.hid hA
        clear hgf hA hg g4 hcs
        go_wp2_with fail
        refine (HG.out _).mono ?_
        rintro e w1 ⟨rfl, hb1⟩
        have hwr := hb.size
        have hbw1 := hb.trans (hb1.mono hwr)
        have hown1 := own_mono hown hb1
        have hw1 := hb1.size
        clear hown hb hb1 hrel
        go_wp2_with
          (at_builtin
           refine wpApp rfl (.tmp 27) (.tmp 29) _ rfl w.heap.size 9 i0 _ 1 16 Try.underlying32 hi0 hz0 hz1 hz2 rfl (by omega) _ bs.length (bs.map strv) rfl (own_mono hown1 ((Below.refl _ _).alloc (Nat.le_refl _) _)) (some ⟨w1.heap.size, 0, none⟩) 1 1 ([b].map strv) rfl (one_str w1 b 9) rfl strv_ones (by unfold maxLen; omega) (by omega) (by simp; omega) ?_
           intro v2 w2 hown2 hb2
           have hbw := (hbw1.alloc (by omega) (.cells #[strv b] 9)).trans hb2
           rw [HL.out, HM.out] at hown2
           obtain ⟨A2, c2, rfl, _, _, _, _, _⟩ := own_form hown2 (by omega)
           clear hown1 hb2 hbw1)
        go_roundw
        case rel => exact ⟨cs, to, A2, c2, rfl, hown2, rfl, g2, by have := HL.out; omega, HA.out, hbw⟩
        case measure => simp [intOf]; omega
      · rw [allF_stop (by rw [sl_len]; exact hlt) hok] at hA
        have hbad := getF_bad hok
        obtain ⟨c0, hc0⟩ : ∃ c0, c0 = (getF (sl s) i).2.2 := ⟨_, rfl⟩
        rw [← hc0] at hbad hok hA
        rw [hbad] at hgf
        have hr := own_row hown
        have hck : ((c0 : Int) != 0) = true := nb (by omega)
        have HG := Lib.hid hgf
        have HA := Lib.hid hA
        clear hgf hA hok hc0 hbad
        go_wp2_with fail
        refine (HG.out _).mono ?_
        rintro e w1 ⟨rfl, hb1⟩
        go_wp2_with fail
        go_ret3
        exact all_done HA.out (hr.below hb1) (hb.trans (hb1.mono hb.size))
    · obtain rfl : s.size = i := by omega
      rw [allF_end (by rw [sl_len]; exact Nat.le_refl _)] at hA
      have hr := own_row hown
      have HA := Lib.hid hA
      clear hgf hA
      go_wp2_with fail
      go_ret3
      exact all_done HA.out hr hb
/-- Two lists that hold the same. -/
theorem refLike (bs : List (List UInt8)) (A D : Option Addr) (c d : Nat) (w : World) (hn : bs.length ≤ 1000000) (hA : Row w A (bs.map strv)) (hD : Row w D (bs.map strv)) :
    Calls Try.prog 18 #[.slice A bs.length c, .slice D bs.length d] w fun e w' => e = .returned (.bool true) ∧ Below w.heap.size w w' := by
  go_enter Try.func18, Try.ntmps18
  go_wp2_with fail
  go_loopw [13] (fun i wr => ∃ k : Nat, k ≤ bs.length ∧ i = .int .i64 (k : Int) ∧ Below w.heap.size w wr) (fun i _ => bs.length - (intOf i).toNat)
  case atStart => exact ⟨0, Nat.zero_le _, rfl, Below.refl _ _⟩
  case round =>
    obtain ⟨k, hk, rfl, hb⟩ := hrel
    by_cases hlt : k < bs.length
    · obtain ⟨b1, o1, rfl, hc1⟩ := (hA.below hb).at_ (k := k) (by simpa using hlt)
      obtain ⟨b2, o2, rfl, hc2⟩ := (hD.below hb).at_ (k := k) (by simpa using hlt)
      rw [List.getElem_map] at hc1 hc2
      have hkk : (k : Int) < bs.length := by omega
      clear hA hD
      go_wp2_with fail
      go_quiet (fail)
      go_wp2_with fail
      go_roundw
      case rel => exact ⟨k + 1, by omega, by go_num, below_drewN hb⟩
      case measure => simp [intOf]; omega
    · obtain rfl : bs.length = k := by omega
      go_wp2_with fail
      go_ret
      exact ⟨rfl, hb⟩
end Go.Proofs.Ytldaflofdbognaa
