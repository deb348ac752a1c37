/- Choosing a pivot: some place of the range. -/
import Derived.Test.YtgpcbiballdioaaDoorSrtLess
namespace Go.Proofs.YtgpcbiballdioaaDoor
open Go.RowKit
set_option linter.unusedVariables false
set_option maxRecDepth 8000
namespace Srt
/-- A counter in a block of its own. -/
structure Cn (s : Nat) (c : Int) (w : World) : Prop where
  cell : w.cell? ⟨s, 0, none⟩ = some (.int .i64 c)
  free : w.frozen? ⟨s, 0, none⟩ = false
theorem Cn.new (w : World) (c : Int) : Cn w.heap.size c (w.alloc (.cells #[.int .i64 c] 3)) := ⟨(Lies.new w #[.int .i64 c] 3).cell rfl, (Lies.new w #[.int .i64 c] 3).free 0⟩
theorem Cn.drewN {s : Nat} {c : Int} {w : World} (h : Cn s c w) (m : Nat) : Cn s c (w.drewN m) := ⟨h.cell, h.free⟩
theorem Cn.set {s : Nat} {c : Int} {w : World} (h : Cn s c w) (x : Int) : Cn s x (w.setCell ⟨s, 0, none⟩ (.int .i64 x)) :=
  ⟨World.cell?_setCell_same (h := h.cell) .., by rw [World.frozen?_setCell]; exact h.free⟩
theorem At.only {b off n s : Nat} {d : Fn} {w w' : World} (h : At b off n d w) (ho : Only s w w') (hs : b ≠ s) : At b off n d w' :=
  ⟨fun t ht => by
    have h1 := h.cell t ht
    have h2 := ho.block b (lt_of_cell h1) hs
    simp only [World.cell?] at h1 ⊢
    rw [h2]; exact h1, fun t ht => by
    have h1 := h.cell t ht
    have h2 := ho.block b (lt_of_cell h1) hs
    have h3 := h.free t ht
    simp only [World.frozen?] at h3 ⊢
    rw [h2]; exact h3⟩
/-- An answer P, the counter still there, nothing else turned. -/
def GivesC (s : Nat) (P : Value → Prop) (W0 : World) (e : Ending) (w' : World) : Prop :=
  ∃ v, e = .returned v ∧ P v ∧ (∃ c, Cn s c w') ∧ Only s W0 w'
set_option maxRecDepth 100000 in
set_option maxHeartbeats 2000000 in
theorem uOrd (b off n cap s i j : Nat) (c : Int) (d : Fn) (w : World) (h : At b off n d w) (hc : Cn s c w) (hi : i < n) (hj : j < n) (hn : n ≤ 1000) :
    Calls Tryd.prog 62 #[.slice (some ⟨b, off, none⟩) n cap, .int .i64 i, .int .i64 j, .pointer (some ⟨s, 0, none⟩)] w
      (GivesC s (fun v => ∃ p q : Nat, v = .tuple #[.int .i64 p, .int .i64 q] ∧ ((p = i ∧ q = j) ∨ (p = j ∧ q = i))) w) := by
  obtain ⟨x, hx⟩ : ∃ x, d j = x := ⟨_, rfl⟩
  obtain ⟨y, hy⟩ : ∃ y, d i = y := ⟨_, rfl⟩
  have c1 := h.cell j hj
  have c2 := h.cell i hi
  rw [hx] at c1; rw [hy] at c2
  have HC := Lib.hid hc
  have i1 : (i : Int) < (n : Int) := by omega
  have i2 : (j : Int) < (n : Int) := by omega
  clear hx hy h hc
  by_cases hxy : x < y
  · have HL := Lib.hid (fun w => uLessT hxy w)
    go_enter Tryd.func62, Tryd.ntmps62
    go_wp2_with fail
    go_quiet (first | (go_at_call 45; refine Calls.quiet_of_same (HL.out _)))
    have HC2 := Lib.hid (HC.out.drewN nq)
    have s1 : (w.drewN nq).cell? ⟨s, 0, none⟩ = some (.int .i64 c) := HC2.out.cell
    have s2 : (w.drewN nq).frozen? ⟨s, 0, none⟩ = false := HC2.out.free
    go_wp2_with fail
    refine bodyPost_ret (v := .tuple #[.int .i64 j, .int .i64 i]) (by simp [results, Tryd.results62, go_sem]) rfl ⟨_, rfl, ⟨j, i, rfl, .inr ⟨rfl, rfl⟩⟩, ⟨_, HC2.out.set _⟩, ((Only.refl s w).drewN nq).set _ _⟩
  · have HL := Lib.hid (fun w => uLessF hxy w)
    go_enter Tryd.func62, Tryd.ntmps62
    go_wp2_with fail
    go_quiet (first | (go_at_call 45; refine Calls.quiet_of_same (HL.out _)))
    have HC2 := Lib.hid (HC.out.drewN nq)
    go_wp2_with fail
    refine bodyPost_ret (v := .tuple #[.int .i64 i, .int .i64 j]) (by simp [results, Tryd.results62, go_sem]) rfl ⟨_, rfl, ⟨i, j, rfl, .inl ⟨rfl, rfl⟩⟩, ⟨_, HC2.out⟩, (Only.refl s w).drewN nq⟩
set_option maxRecDepth 100000 in
set_option maxHeartbeats 2000000 in
theorem uMed (b off n cap s i j k : Nat) (c : Int) (d : Fn) (w : World) (h : At b off n d w) (hbs : b ≠ s) (hc : Cn s c w) (hi : i < n) (hj : j < n) (hk : k < n) (hn : n ≤ 1000) :
    Calls Tryd.prog 58 #[.slice (some ⟨b, off, none⟩) n cap, .int .i64 i, .int .i64 j, .int .i64 k, .pointer (some ⟨s, 0, none⟩)] w
      (GivesC s (fun v => ∃ p : Nat, v = .int .i64 p ∧ (p = i ∨ p = j ∨ p = k)) w) := by
  have HO := Lib.hid (fun (i j : Nat) (c : Int) (w : World) (h : At b off n d w) (hc : Cn s c w) (hi : i < n) (hj : j < n) => uOrd b off n cap s i j c d w h hc hi hj hn)
  have H0 := Lib.hid h; have C0 := Lib.hid hc
  have HB := Lib.hid hbs
  clear h hc hbs
  go_enter Tryd.func58, Tryd.ntmps58
  go_wp2_with fail
  refine (HO.out i j c _ H0.out C0.out hi hj).mono ?_
  rintro e w1 ⟨_, rfl, ⟨p1, q1, rfl, hpq1⟩, ⟨c1, hc1⟩, o1⟩
  have C1 := Lib.hid hc1; have O1 := Lib.hid o1; have A1 := Lib.hid (H0.out.only o1 HB.out)
  have P1 := Lib.hid (show (p1 = i ∨ p1 = j) ∧ (q1 = i ∨ q1 = j) ∧ p1 < n ∧ q1 < n by omega)
  clear hc1 o1 hpq1
  go_wp2_with fail
  refine (HO.out q1 k c1 _ A1.out C1.out P1.out.2.2.2 hk).mono ?_
  rintro e w2 ⟨_, rfl, ⟨p2, q2, rfl, hpq2⟩, ⟨c2, hc2⟩, o2⟩
  have C2 := Lib.hid hc2; have O2 := Lib.hid (O1.out.trans o2); have A2 := Lib.hid (A1.out.only o2 HB.out)
  have P2 := Lib.hid (show (p2 = i ∨ p2 = j ∨ p2 = k) ∧ p2 < n by have := P1.out; omega)
  clear hc2 o2 hpq2
  go_wp2_with fail
  refine (HO.out p1 p2 c2 _ A2.out C2.out P1.out.2.2.1 P2.out.2).mono ?_
  rintro e w3 ⟨_, rfl, ⟨p3, q3, rfl, hpq3⟩, ⟨c3, hc3⟩, o3⟩
  have C3 := Lib.hid hc3; have O3 := Lib.hid (O2.out.trans o3)
  have P3 := Lib.hid (show q3 = i ∨ q3 = j ∨ q3 = k by have h1 := P1.out; have h2 := P2.out; omega)
  clear hc3 o3 hpq3
  go_wp2_with fail
  go_ret
  exact ⟨_, rfl, ⟨q3, rfl, P3.out⟩, ⟨_, C3.out⟩, O3.out⟩
set_option maxRecDepth 100000 in
theorem uAdj (b off n cap s i : Nat) (c : Int) (d : Fn) (w : World) (h : At b off n d w) (hbs : b ≠ s) (hc : Cn s c w) (hi : i + 1 < n) (h0 : 1 ≤ i) (hn : n ≤ 1000) :
    Calls Tryd.prog 57 #[.slice (some ⟨b, off, none⟩) n cap, .int .i64 i, .pointer (some ⟨s, 0, none⟩)] w
      (GivesC s (fun v => ∃ p : Nat, v = .int .i64 p ∧ i - 1 ≤ p ∧ p ≤ i + 1) w) := by
  have HM := Lib.hid (uMed b off n cap s (i - 1) i (i + 1) c d w h hbs hc (by omega) (by omega) (by omega) hn)
  have e1 : (i : Int) - 1 = ((i - 1 : Nat) : Int) := by omega
  have e2 : (i : Int) + 1 = ((i + 1 : Nat) : Int) := by omega
  obtain ⟨u, hu⟩ : ∃ u, i - 1 = u := ⟨_, rfl⟩
  obtain ⟨v, hv⟩ : ∃ v, i + 1 = v := ⟨_, rfl⟩
  have HUV := Lib.hid (And.intro hu hv)
  rw [hu, hv] at HM
  rw [hu] at e1; rw [hv] at e2
  have hsm : i ≤ 1000 ∧ u ≤ 1000 ∧ v ≤ 1001 := by omega
  clear h hbs hc hu hv
  go_enter Tryd.func57, Tryd.ntmps57
  go_wp2_with fail
  refine HM.out.mono ?_
  rintro e w1 ⟨_, rfl, ⟨p1, rfl, hp⟩, hc1, o1⟩
  have P1 := Lib.hid hp; have C1 := Lib.hid hc1; have O1 := Lib.hid o1
  clear hp hc1 o1
  go_wp2_with fail
  go_ret
  exact ⟨_, rfl, ⟨p1, rfl, by have h1 := P1.out; have h2 := HUV.out; omega⟩, C1.out, O1.out⟩
def GivesP (a c : Nat) (W0 : World) (e : Ending) (w' : World) : Prop :=
  ∃ (p : Nat) (t : Int), e = .returned (.tuple #[.int .i64 p, .int .i64 t]) ∧ a ≤ p ∧ p < c ∧ Below W0.heap.size W0 w'
set_option maxRecDepth 100000 in
set_option maxHeartbeats 2000000 in
theorem uPiv (b off n cap a c : Nat) (d : Fn) (w : World) (h : At b off n d w) (hac : a < c) (hc : c ≤ n) (hn : n ≤ 1000) :
    Calls Tryd.prog 42 #[.slice (some ⟨b, off, none⟩) n cap, .int .i64 a, .int .i64 c] w (GivesP a c w) := by
  have hb : b < w.heap.size := lt_of_cell (h.cell a (by omega))
  obtain ⟨s, hs⟩ : ∃ s, s = w.heap.size := ⟨_, rfl⟩
  have C0 := Lib.hid (show Cn s 0 (w.alloc (.cells #[.int .i64 0] 3)) from hs ▸ Cn.new w 0)
  have A0 := Lib.hid (h.below (below_al (o := .cells #[.int .i64 0] 3) (Below.refl _ _)))
  have B0 := Lib.hid (show Below w.heap.size w (w.alloc (.cells #[.int .i64 0] 3)) from below_al (Below.refl _ _))
  have SZ := Lib.hid (show w.heap.size ≤ (w.alloc (.cells #[.int .i64 0] 3)).heap.size by simp only [World.size_alloc]; omega)
  have hbs : b ≠ s := by omega
  have HBS := Lib.hid hbs
  have HA := Lib.hid (fun (i : Nat) (c : Int) (w : World) (h : At b off n d w) (hc : Cn s c w) (hi : i + 1 < n) (h0 : 1 ≤ i) => uAdj b off n cap s i c d w h hbs hc hi h0 hn)
  have HM := Lib.hid (fun (i j k : Nat) (c : Int) (w : World) (h : At b off n d w) (hc : Cn s c w) (hi : i < n) (hj : j < n) (hk : k < n) => uMed b off n cap s i j k c d w h hbs hc hi hj hk hn)
  obtain ⟨l, hl⟩ : ∃ l, l = c - a := ⟨_, rfl⟩
  obtain ⟨q, hq⟩ : ∃ q, q = l / 4 := ⟨_, rfl⟩
  have e0 : (c : Int) - a = (l : Int) := by omega
  have e1 : (l : Int) / 4 = (q : Int) := by omega
  obtain ⟨i, hi⟩ : ∃ i, i = a + q := ⟨_, rfl⟩
  obtain ⟨j, hj⟩ : ∃ j, j = a + q * 2 := ⟨_, rfl⟩
  obtain ⟨k, hk⟩ : ∃ k, k = a + q * 3 := ⟨_, rfl⟩
  have e2 : (a : Int) + q = (i : Int) := by omega
  have e3 : (a : Int) + q * 2 = (j : Int) := by omega
  have e4 : (a : Int) + q * 3 = (k : Int) := by omega
  have HK := Lib.hid (show a ≤ i ∧ i < c ∧ a ≤ j ∧ j < c ∧ a ≤ k ∧ k < c ∧ (50 ≤ l → a + 1 ≤ i ∧ a + 1 ≤ j ∧ a + 1 ≤ k ∧ k + 1 < c ∧ j + 1 < c ∧ i + 1 < c) by omega)
  have hsm : l ≤ 1000 ∧ q ≤ 1000 ∧ i ≤ 4000 ∧ j ≤ 4000 ∧ k ≤ 4000 := by omega
  subst hs
  clear h hb hbs hl hq hi hj hk
  have FIN := Lib.hid (show ∀ w3, Only w.heap.size (w.alloc (.cells #[.int .i64 0] 3)) w3 → Below w.heap.size w w3 from fun w3 o => Only.below B0.out o (Nat.le_refl _) SZ.out)
  have OM := Lib.hid (Only.refl w.heap.size (w.alloc (.cells #[.int .i64 0] 3)))
  by_cases h8 : 8 ≤ l
  · have b1 : (8 : Int) ≤ (l : Int) := by omega
    by_cases h50 : 50 ≤ l
    · have b2 : (50 : Int) ≤ (l : Int) := by omega
      have HK5 := Lib.hid (HK.out.2.2.2.2.2.2 h50)
      go_enter Tryd.func42, Tryd.ntmps42
      go_wp2_with fail
      refine (HA.out i 0 _ A0.out C0.out (by have := HK5.out; omega) (by have := HK5.out; omega)).mono ?_
      rintro e w1 ⟨_, rfl, ⟨p1, rfl, hp1⟩, ⟨k1, hc1⟩, o1⟩
      have C1 := Lib.hid hc1; have O1 := Lib.hid (OM.out.trans o1); have A1 := Lib.hid (A0.out.only o1 HBS.out)
      have P1 := Lib.hid (show a ≤ p1 ∧ p1 < c by have := HK5.out; omega)
      clear hc1 o1 hp1
      go_wp2_with fail
      refine (HA.out j k1 _ A1.out C1.out (by have := HK5.out; omega) (by have := HK5.out; omega)).mono ?_
      rintro e w2 ⟨_, rfl, ⟨p2, rfl, hp2⟩, ⟨k2, hc2⟩, o2⟩
      have C2 := Lib.hid hc2; have O2 := Lib.hid (O1.out.trans o2); have A2 := Lib.hid (A1.out.only o2 HBS.out)
      have P2 := Lib.hid (show a ≤ p2 ∧ p2 < c by have := HK5.out; omega)
      clear hc2 o2 hp2
      go_wp2_with fail
      refine (HA.out k k2 _ A2.out C2.out (by have := HK5.out; omega) (by have := HK5.out; omega)).mono ?_
      rintro e w3 ⟨_, rfl, ⟨p3, rfl, hp3⟩, ⟨k3, hc3⟩, o3⟩
      have C3 := Lib.hid hc3; have O3 := Lib.hid (O2.out.trans o3); have A3 := Lib.hid (A2.out.only o3 HBS.out)
      have P3 := Lib.hid (show a ≤ p3 ∧ p3 < c by have := HK5.out; omega)
      clear hc3 o3 hp3
      go_wp2_with fail
      refine (HM.out p1 p2 p3 k3 _ A3.out C3.out (by have := P1.out; omega) (by have := P2.out; omega) (by have := P3.out; omega)).mono ?_
      rintro e w4 ⟨_, rfl, ⟨p4, rfl, hp4⟩, ⟨k4, hc4⟩, o4⟩
      have C4 := Lib.hid hc4; have O4 := Lib.hid (O3.out.trans o4); have A4 := Lib.hid (A3.out.only o4 HBS.out)
      have P4 := Lib.hid (show a ≤ p4 ∧ p4 < c by have h1 := P1.out; have h2 := P2.out; have h3 := P3.out; omega)
      clear hc4 o4 hp4
      have s1 := C4.out.cell
      have O9 := O4
      obtain ⟨ct, hct⟩ : ∃ ct, ct = k4 := ⟨_, rfl⟩
      rw [← hct] at s1
      clear hct
      by_cases z1 : ct = 0
      · subst z1
        have z2 := eq_b (rfl : (0 : Int) = 0)
        go_wp2_with fail
        exact bodyPost_ret (v := .tuple #[.int .i64 p4, .int .i64 1]) (by simp [results, Tryd.results42, go_sem]) rfl ⟨p4, 1, rfl, P4.out.1, P4.out.2, FIN.out _ O9.out⟩
      · have z2 := ne_b z1
        by_cases z3 : ct = 12
        · subst z3
          have z4 := eq_b (rfl : (12 : Int) = 12)
          go_wp2_with fail
          exact bodyPost_ret (v := .tuple #[.int .i64 p4, .int .i64 2]) (by simp [results, Tryd.results42, go_sem]) rfl ⟨p4, 2, rfl, P4.out.1, P4.out.2, FIN.out _ O9.out⟩
        · have z4 := ne_b z3
          go_wp2_with fail
          exact bodyPost_ret (v := .tuple #[.int .i64 p4, .int .i64 0]) (by simp [results, Tryd.results42, go_sem]) rfl ⟨p4, 0, rfl, P4.out.1, P4.out.2, FIN.out _ O9.out⟩
    · have b2 : ¬ (50 : Int) ≤ (l : Int) := by omega
      have HK5 := Lib.hid (show i < n ∧ j < n ∧ k < n by have := HK.out; omega)
      go_enter Tryd.func42, Tryd.ntmps42
      go_wp2_with fail
      refine (HM.out i j k 0 _ A0.out C0.out HK5.out.1 HK5.out.2.1 HK5.out.2.2).mono ?_
      rintro e w1 ⟨_, rfl, ⟨p1, rfl, hp1⟩, ⟨k1, hc1⟩, o1⟩
      have C1 := Lib.hid hc1; have O1 := Lib.hid (OM.out.trans o1); have A1 := Lib.hid (A0.out.only o1 HBS.out)
      have P1 := Lib.hid (show a ≤ p1 ∧ p1 < c by have := HK.out; omega)
      clear hc1 o1 hp1
      have s1 := C1.out.cell
      have O9 := O1
      obtain ⟨ct, hct⟩ : ∃ ct, ct = k1 := ⟨_, rfl⟩
      rw [← hct] at s1
      clear hct
      by_cases z1 : ct = 0
      · subst z1
        have z2 := eq_b (rfl : (0 : Int) = 0)
        go_wp2_with fail
        exact bodyPost_ret (v := .tuple #[.int .i64 p1, .int .i64 1]) (by simp [results, Tryd.results42, go_sem]) rfl ⟨p1, 1, rfl, P1.out.1, P1.out.2, FIN.out _ O9.out⟩
      · have z2 := ne_b z1
        by_cases z3 : ct = 12
        · subst z3
          have z4 := eq_b (rfl : (12 : Int) = 12)
          go_wp2_with fail
          exact bodyPost_ret (v := .tuple #[.int .i64 p1, .int .i64 2]) (by simp [results, Tryd.results42, go_sem]) rfl ⟨p1, 2, rfl, P1.out.1, P1.out.2, FIN.out _ O9.out⟩
        · have z4 := ne_b z3
          go_wp2_with fail
          exact bodyPost_ret (v := .tuple #[.int .i64 p1, .int .i64 0]) (by simp [results, Tryd.results42, go_sem]) rfl ⟨p1, 0, rfl, P1.out.1, P1.out.2, FIN.out _ O9.out⟩
  · have b1 : ¬ (8 : Int) ≤ (l : Int) := by omega
    go_enter Tryd.func42, Tryd.ntmps42
    go_wp2_with fail
    exact bodyPost_ret (v := .tuple #[.int .i64 j, .int .i64 1]) (by simp [results, Tryd.results42, go_sem]) rfl ⟨j, 1, rfl, HK.out.2.2.1, HK.out.2.2.2.1, FIN.out _ OM.out⟩
end Srt
end Go.Proofs.YtgpcbiballdioaaDoor
