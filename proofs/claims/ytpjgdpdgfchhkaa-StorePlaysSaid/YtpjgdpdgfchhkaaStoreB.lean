/- The walk of the law StoreBatches. -/
import Derived.Test.YtpjgdpdgfchhkaaStoreA
namespace Go.Proofs.Ytpjgdpdgfchhkaa
open Go.ChangeShapes Go.WideShapes Go.ChangeAt Go.RowKit
set_option linter.unusedVariables false
set_option maxRecDepth 8000
namespace So
open Gen (TellsB row_one flat_len flat_get)
set_option maxRecDepth 100000 in
set_option maxHeartbeats 2000000 in
theorem walkBatches (cs fs xs : List Cl) (dn : Bool) (left : Int) (A : Option Addr) (c : Nat) (B : Option Addr) (d : Nat) (C : Option Addr) (e : Nat) (w : World) (hA : Row w A (clc cs)) (hB : Row w B (clc fs)) (hC : Row w C (clc xs)) (hc : cs.length ≤ c) (hd : fs.length ≤ d) (hce : xs.length ≤ e) :
    Calls Try.prog 4 #[srV A cs.length c B fs.length d dn, .slice C xs.length e, .int .i64 left] w (TellsB true w) := by
  obtain ⟨n, hn⟩ : ∃ n, n = cs.length := ⟨_, rfl⟩
  obtain ⟨m, hm⟩ : ∃ n, n = fs.length := ⟨_, rfl⟩
  obtain ⟨g, hg⟩ : ∃ n, n = xs.length := ⟨_, rfl⟩
  rw [← hn] at hc ⊢
  rw [← hm] at hd ⊢
  rw [← hg]
  obtain ⟨r, hr⟩ : ∃ r, r = (decide (n ≤ 100) && decide (m ≤ 100)) := ⟨_, rfl⟩
  have HS := Lib.hid (fun w' => lawSmall A n c B m d dn r hr w')
  have HAL := Lib.hid (fun w' => lawAlive w')
  obtain ⟨o, ho⟩ : ∃ o, o = batchO ⟨cs, fs, dn⟩ xs left := ⟨_, rfl⟩
  obtain ⟨p, hp⟩ : ∃ p, p = o.1.cells.length := ⟨_, rfl⟩
  obtain ⟨q, hq⟩ : ∃ q, q = o.1.fresh.length := ⟨_, rfl⟩
  have HRS : Hid (r = true → n ≤ 100 ∧ m ≤ 100) := Lib.hid (fun h => by rw [hr, Bool.and_eq_true] at h; exact ⟨of_decide_eq_true h.1, of_decide_eq_true h.2⟩)
  have HCK := Lib.hid (fun (h1 : n ≤ 100 ∧ m ≤ 100) (h2 : g ≤ 100) w' (hA : Row w' A (clc cs)) (hB : Row w' B (clc fs)) (hC : Row w' C (clc xs)) => ckBatch cs fs xs n m g dn left hn hm hg o ho p q hp hq A c B d C e w' hA hB hC hc hd (by omega) (by omega) (by omega) (by omega))
  have HRF := Lib.hid (fun (h1 : n ≤ 100 ∧ m ≤ 100) (h2 : g ≤ 100) w' (hA : Row w' A (clc cs)) (hB : Row w' B (clc fs)) (hC : Row w' C (clc xs)) => rfBatch cs fs xs n m g dn left hn hm hg o ho p q hp hq A c B d C e w' hA hB hC hc hd (by omega) (by omega) (by omega))
  have HLK := Lib.hid (fun (h1 : n ≤ 100 ∧ m ≤ 100) A B A' B' c d c' d' w' => rfLikeS o.1 p q hp hq (by have := batch_len (s := ⟨cs, fs, dn⟩) xs left (by rw [← hn, ← hm]; exact h1); rw [hp, ho]; omega) (by have := batch_len (s := ⟨cs, fs, dn⟩) xs left (by rw [← hn, ← hm]; exact h1); rw [hq, ho]; omega) A B A' B' c d c' d' w')
  have HB := Lib.hid (below_al (o := .cells #[.slice A n c, .slice B m d, .bool dn] 24) (Below.refl w.heap.size w))
  have S0 := Lib.hid (SvAt.new (s := ⟨cs, fs, dn⟩) (p := n) (q := m) (c := c) (d := d) hA hB)
  have HC0 := Lib.hid hC
  clear hA hB hC hn hm hg ho hp hq hr hc hd hce
  go_enter Try.func4, Try.ntmps4
  go_upto_region 1 with fail
  obtain ⟨b0, hb0⟩ : ∃ b, b = w.heap.size := ⟨_, rfl⟩
  obtain ⟨W, hW⟩ : ∃ W, W = w.alloc (.cells #[.slice A n c, .slice B m d, .bool dn] 24) := ⟨_, rfl⟩
  try simp only at S0
  rw [← hW] at S0 HB ⊢
  rw [← hb0] at S0 ⊢
  clear hW hb0
  have x0 := S0.out.at_.cell (j := 0) rfl; have x1 := S0.out.at_.cell (j := 1) rfl; have x2 := S0.out.at_.cell (j := 2) rfl
  go_wp2_with fail
  refine (HS.out _).mono ?_
  rintro e w1 ⟨rfl, hb1⟩
  have HB1 := Lib.hid (below_next HB.out hb1)
  have S1 := Lib.hid (S0.out.next hb1)
  clear hb1 x0 x1 x2 HB S0
  cases r
  · go_wp2_with fail
    go_ret
    exact ⟨rfl, HB1.out⟩
  · have HN1 : Hid (n ≤ 100 ∧ m ≤ 100) := Lib.hid (HRS.out (by trivial))
    by_cases hg1 : 100 < g
    · have g1 : decide ((100 : Int) < (g : Int)) = true := decide_eq_true (by omega)
      go_wp2_with fail
      go_ret
      exact ⟨rfl, HB1.out⟩
    · have g1 : decide ((100 : Int) < (g : Int)) = false := decide_eq_false (by omega)
      have HG1 : Hid (g ≤ 100) := Lib.hid (by omega)
      clear hg1
      have x0 := S1.out.at_.cell (j := 0) rfl; have x1 := S1.out.at_.cell (j := 1) rfl; have x2 := S1.out.at_.cell (j := 2) rfl
      obtain ⟨⟨us, vs, dn2⟩, z⟩ := o
      go_wp2_with fail
      refine (HCK.out HN1.out HG1.out _ S1.out.ra S1.out.rb (HC0.out.below HB1.out)).mono ?_
      rintro e w2 ⟨A2, c2, B2, d2, rfl, r1, r2, h1, h2, hb2⟩
      have hbk := below_next hb2 (below_al (o := .cells #[.slice A2 p c2, .slice B2 q d2, .bool dn2] 24) (Below.refl w2.heap.size w2))
      have HB2 := Lib.hid (below_next HB1.out hbk)
      have S2 := Lib.hid (S1.out.next hbk)
      have T2 := Lib.hid (SvAt.new (s := ⟨us, vs, dn2⟩) (p := p) (q := q) (c := c2) (d := d2) r1 r2)
      clear hb2 hbk r1 r2 h1 h2 x0 x1 x2 S1 HB1
      go_upto_region 4 with fail
      obtain ⟨b2, hb2⟩ : ∃ b, b = w2.heap.size := ⟨_, rfl⟩
      obtain ⟨W2, hW2⟩ : ∃ W, W = w2.alloc (.cells #[.slice A2 p c2, .slice B2 q d2, .bool dn2] 24) := ⟨_, rfl⟩
      try simp only at T2
      rw [← hW2] at T2 S2 HB2 ⊢
      rw [← hb2] at T2 ⊢
      clear hW2 hb2 g1
      have x0 := S2.out.at_.cell (j := 0) rfl; have x1 := S2.out.at_.cell (j := 1) rfl; have x2 := S2.out.at_.cell (j := 2) rfl
      go_wp2_with fail
      refine (HRF.out HN1.out HG1.out _ S2.out.ra S2.out.rb (HC0.out.below HB2.out)).mono ?_
      rintro e w3 ⟨A3, c3, B3, d3, rfl, r1, r2, h1, h2, hb2⟩
      have hbk := below_next hb2 (below_al (o := .cells #[.slice A3 p c3, .slice B3 q d3, .bool dn2] 24) (Below.refl w3.heap.size w3))
      have HB3 := Lib.hid (below_next HB2.out hbk)
      have T3 := Lib.hid (T2.out.next hbk)
      have U3 := Lib.hid (SvAt.new (s := ⟨us, vs, dn2⟩) (p := p) (q := q) (c := c3) (d := d3) r1 r2)
      clear hb2 hbk r1 r2 h1 h2 x0 x1 x2 S2 HB2 T2
      go_upto_region 5 with fail
      obtain ⟨b3, hb3⟩ : ∃ b, b = w3.heap.size := ⟨_, rfl⟩
      obtain ⟨W3, hW3⟩ : ∃ W, W = w3.alloc (.cells #[.slice A3 p c3, .slice B3 q d3, .bool dn2] 24) := ⟨_, rfl⟩
      try simp only at U3
      rw [← hW3] at T3 U3 HB3 ⊢
      rw [← hb3] at U3 ⊢
      clear hW3 hb3
      go_wp2_with fail
      refine (HAL.out _).mono ?_
      rintro e w4 ⟨rfl, hb4⟩
      have HB4 := Lib.hid (below_next HB3.out hb4)
      have T4 := Lib.hid (T3.out.next hb4)
      have U4 := Lib.hid (U3.out.next hb4)
      clear hb4 T3 U3 HB3
      have x0 := T4.out.at_.cell (j := 0) rfl; have x1 := T4.out.at_.cell (j := 1) rfl; have x2 := T4.out.at_.cell (j := 2) rfl
      have y0 := U4.out.at_.cell (j := 0) rfl; have y1 := U4.out.at_.cell (j := 1) rfl; have y2 := U4.out.at_.cell (j := 2) rfl
      go_wp2_with fail
      refine (HLK.out HN1.out _ _ _ _ _ _ _ _ _ T4.out.ra T4.out.rb U4.out.ra U4.out.rb).mono ?_
      rintro e w5 ⟨rfl, hb5⟩
      have HB5 := Lib.hid (below_next HB4.out hb5)
      clear hb5 x0 x1 x2 y0 y1 y2
      go_wp2_with fail
      go_ret
      exact ⟨rfl, HB5.out⟩
end So
end Go.Proofs.Ytpjgdpdgfchhkaa
