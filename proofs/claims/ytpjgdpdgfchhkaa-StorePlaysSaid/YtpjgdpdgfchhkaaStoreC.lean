/- The walk of the law StoreAgain. -/
import Derived.Test.YtpjgdpdgfchhkaaStoreB
namespace Go.Proofs.Ytpjgdpdgfchhkaa
open Go.ChangeShapes Go.WideShapes Go.ChangeAt Go.RowKit
set_option linter.unusedVariables false
set_option maxRecDepth 8000
namespace So
open Gen (TellsB row_one flat_len flat_get)
theorem ok_start {s : Sr} (h : Ok s) : Ok ⟨s.cells, [], false⟩ := ⟨h.good, (fun x hx => by cases hx), ⟨h.len.1, Nat.zero_le _⟩⟩
theorem start_ok {s : Sr} (h : Ok s) : startO s = (⟨s.cells, [], false⟩, 0) := by
  unfold startO
  rw [(ok_iff s).2 h, if_neg (by simp)]
theorem commit_none {l : List Cl} (h : Ok ⟨l, [], false⟩) : commitO ⟨l, [], false⟩ = (⟨l, [], false⟩, 0) := by
  have hl := h.len.1
  unfold commitO
  rw [(ok_iff _).2 h, if_neg (by simp), if_neg (by simp)]
  simp only [count, List.foldl_nil]
  exact if_neg (by simp only at hl; omega)
set_option maxRecDepth 100000 in
set_option maxHeartbeats 2000000 in
theorem walkAgain (cs fs : List Cl) (dn : Bool) (A : Option Addr) (c : Nat) (B : Option Addr) (d : Nat) (w : World) (hA : Row w A (clc cs)) (hB : Row w B (clc fs)) (hc : cs.length ≤ c) (hd : fs.length ≤ d) :
    Calls Try.prog 8 #[srV A cs.length c B fs.length d dn] w (TellsB true w) := by
  obtain ⟨n, hn⟩ : ∃ n, n = cs.length := ⟨_, rfl⟩
  obtain ⟨m, hm⟩ : ∃ n, n = fs.length := ⟨_, rfl⟩
  rw [← hn] at hc ⊢
  rw [← hm] at hd ⊢
  obtain ⟨r, hr⟩ : ∃ r, r = (decide (n ≤ 100) && decide (m ≤ 100)) := ⟨_, rfl⟩
  obtain ⟨k, hk⟩ : ∃ k, k = rightS ⟨cs, fs, dn⟩ := ⟨_, rfl⟩
  have HS := Lib.hid (fun w' => lawSmall A n c B m d dn r hr w')
  have HAL := Lib.hid (fun w' => lawAlive w')
  have HRS : Hid (r = true → n ≤ 100 ∧ m ≤ 100) := Lib.hid (fun h => by rw [hr, Bool.and_eq_true] at h; exact ⟨of_decide_eq_true h.1, of_decide_eq_true h.2⟩)
  have HRT := Lib.hid (fun (h1 : n ≤ 100 ∧ m ≤ 100) w' (hA : Row w' A (clc cs)) (hB : Row w' B (clc fs)) => ckRight cs fs n m dn k hn hm hk A c B d w' hA hB (by omega) (by omega))
  have HOK : Hid (k = true → Ok ⟨cs, fs, dn⟩) := Lib.hid (fun h => (ok_iff _).1 (hk.symm.trans h))
  have HST := Lib.hid (fun (h1 : n ≤ 100 ∧ m ≤ 100) (h : Ok ⟨cs, fs, dn⟩) w' (hA : Row w' A (clc cs)) (hB : Row w' B (clc fs)) => ckStart cs fs n m dn hn hm (⟨cs, [], false⟩, 0) (start_ok h).symm n 0 hn rfl A c B d w' hA hB hc (by omega) (by omega))
  have HS2 := Lib.hid (fun (h1 : n ≤ 100 ∧ m ≤ 100) (h : Ok ⟨cs, fs, dn⟩) A c B d w' (hA : Row w' A (clc cs)) (hB : Row w' B (clc [])) (hc : n ≤ c) => ckStart cs [] n 0 false hn rfl (⟨cs, [], false⟩, 0) (start_ok (ok_start h)).symm n 0 hn rfl A c B d w' hA hB hc (by omega) (by omega))
  have HC2 := Lib.hid (fun (h1 : n ≤ 100 ∧ m ≤ 100) (h : Ok ⟨cs, fs, dn⟩) A c B d w' (hA : Row w' A (clc cs)) (hB : Row w' B (clc [])) (hc : n ≤ c) => ckCommit cs [] n 0 false hn rfl (⟨cs, [], false⟩, 0) (commit_none (ok_start h)).symm n 0 hn rfl A c B d w' hA hB hc (by omega))
  have HLK := Lib.hid (fun (h1 : n ≤ 100 ∧ m ≤ 100) A B A' B' c d c' d' w' => rfLikeS ⟨cs, [], false⟩ n 0 hn rfl (by omega) (by omega) A B A' B' c d c' d' w')
  have HLC := Lib.hid (fun (h1 : n ≤ 100 ∧ m ≤ 100) A A' c c' w' => rfLikeCells cs n hn (by omega) A A' c c' w')
  have HB := Lib.hid (below_al (o := .cells #[.slice A n c, .slice B m d, .bool dn] 24) (Below.refl w.heap.size w))
  have S0 := Lib.hid (SvAt.new (s := ⟨cs, fs, dn⟩) (p := n) (q := m) (c := c) (d := d) hA hB)
  clear hA hB hn hm hr hk hc hd
  go_enter Try.func8, Try.ntmps8
  go_upto_region 1 with fail
  obtain ⟨b0, hb0⟩ : ∃ b, b = w.heap.size := ⟨_, rfl⟩
  obtain ⟨W, hW⟩ : ∃ W, W = w.alloc (.cells #[.slice A n c, .slice B m d, .bool dn] 24) := ⟨_, rfl⟩
  try simp only at S0
  rw [← hW] at S0 HB ⊢
  rw [← hb0] at S0 ⊢
  clear hW hb0
  have x0 := S0.out.at_.cell (j := 0) rfl; have x1 := S0.out.at_.cell (j := 1) rfl; have x2 := S0.out.at_.cell (j := 2) rfl
  go_wp2_with fail
  refine (HS.out _).mono ?_
  rintro e w1 ⟨rfl, hb1⟩
  have HB1 := Lib.hid (below_next HB.out hb1)
  have S1 := Lib.hid (S0.out.next hb1)
  clear hb1 S0 HB
  clear x0 x1 x2
  cases r
  · go_wp2_with fail
    refine (HAL.out _).mono ?_
    rintro e w2 ⟨rfl, hb2⟩
    have HB2 := Lib.hid (below_next HB1.out hb2)
    have S2 := Lib.hid (S1.out.next hb2)
    clear hb2 S1 HB1
    go_wp2_with fail
    go_ret
    exact ⟨rfl, HB2.out⟩
  · have HN1 : Hid (n ≤ 100 ∧ m ≤ 100) := Lib.hid (HRS.out (by trivial))
    have x0 := S1.out.at_.cell (j := 0) rfl; have x1 := S1.out.at_.cell (j := 1) rfl; have x2 := S1.out.at_.cell (j := 2) rfl
    go_wp2_with fail
    refine (HRT.out HN1.out _ S1.out.ra S1.out.rb).mono ?_
    rintro e w2 ⟨rfl, hb2⟩
    have HB2 := Lib.hid (below_next HB1.out hb2)
    have S2 := Lib.hid (S1.out.next hb2)
    clear hb2 S1 HB1
    clear x0 x1 x2
    cases k
    · go_wp2_with fail
      refine (HAL.out _).mono ?_
      rintro e w3 ⟨rfl, hb3⟩
      have HB3 := Lib.hid (below_next HB2.out hb3)
      have S3 := Lib.hid (S2.out.next hb3)
      clear hb3 S2 HB2
      go_wp2_with fail
      go_ret
      exact ⟨rfl, HB3.out⟩
    · have HK : Hid (Ok ⟨cs, fs, dn⟩) := Lib.hid (HOK.out (by trivial))
      go_wp2_with fail
      refine (HAL.out _).mono ?_
      rintro e w3 ⟨rfl, hb3⟩
      have HB3 := Lib.hid (below_next HB2.out hb3)
      have S3 := Lib.hid (S2.out.next hb3)
      clear hb3 S2 HB2
      have x0 := S3.out.at_.cell (j := 0) rfl; have x1 := S3.out.at_.cell (j := 1) rfl; have x2 := S3.out.at_.cell (j := 2) rfl
      go_wp2_with fail
      refine (HST.out HN1.out HK.out _ S3.out.ra S3.out.rb).mono ?_
      rintro e w4 ⟨A4, c4, B4, d4, rfl, r1, r2, h1, h2, hb2⟩
      have hbk := below_next hb2 (below_al (o := (.cells #[.slice A4 n c4, .slice B4 0 d4, .bool false] 24)) (Below.refl w4.heap.size w4))
      have HB4 := Lib.hid (below_next HB3.out hbk)
      have S4 := Lib.hid (S3.out.next hbk)
      have T4 := Lib.hid (SvAt.new (s := ⟨cs, [], false⟩) (p := n) (q := 0) (c := c4) (d := d4) r1 r2)
      have P4 := Lib.hid h1
      have Q4 := Lib.hid h2
      clear hb2 hbk r1 r2 h1 h2 S3 HB3
      clear x0 x1 x2
      go_upto_region 4 with fail
      obtain ⟨b4, hb4⟩ : ∃ b, b = w4.heap.size := ⟨_, rfl⟩
      obtain ⟨W4, hW4⟩ : ∃ W, W = w4.alloc (.cells #[.slice A4 n c4, .slice B4 0 d4, .bool false] 24) := ⟨_, rfl⟩
      try simp only at T4
      rw [← hW4] at T4 S4 HB4 ⊢
      rw [← hb4] at T4 ⊢
      clear hW4 hb4
      have x0 := T4.out.at_.cell (j := 0) rfl; have x1 := T4.out.at_.cell (j := 1) rfl; have x2 := T4.out.at_.cell (j := 2) rfl
      go_wp2_with fail
      refine (HS2.out HN1.out HK.out _ _ _ _ _ T4.out.ra T4.out.rb P4.out).mono ?_
      rintro e w5 ⟨A5, c5, B5, d5, rfl, r1, r2, h1, h2, hb2⟩
      have hbk := below_next hb2 (below_al (o := (.cells #[.slice A5 n c5, .slice B5 0 d5, .bool false] 24)) (Below.refl w5.heap.size w5))
      have HB5 := Lib.hid (below_next HB4.out hbk)
      have S5 := Lib.hid (S4.out.next hbk)
      have T5 := Lib.hid (T4.out.next hbk)
      have U5 := Lib.hid (SvAt.new (s := ⟨cs, [], false⟩) (p := n) (q := 0) (c := c5) (d := d5) r1 r2)
      have P5 := Lib.hid h1
      have Q5 := Lib.hid h2
      clear hb2 hbk r1 r2 h1 h2 S4 T4 HB4
      clear x0 x1 x2
      go_upto_region 5 with fail
      obtain ⟨b5, hb5⟩ : ∃ b, b = w5.heap.size := ⟨_, rfl⟩
      obtain ⟨W5, hW5⟩ : ∃ W, W = w5.alloc (.cells #[.slice A5 n c5, .slice B5 0 d5, .bool false] 24) := ⟨_, rfl⟩
      try simp only at U5
      rw [← hW5] at U5 S5 T5 HB5 ⊢
      rw [← hb5] at U5 ⊢
      clear hW5 hb5
      have x0 := T5.out.at_.cell (j := 0) rfl; have x1 := T5.out.at_.cell (j := 1) rfl; have x2 := T5.out.at_.cell (j := 2) rfl
      go_wp2_with fail
      refine (HC2.out HN1.out HK.out _ _ _ _ _ T5.out.ra T5.out.rb P4.out).mono ?_
      rintro e w6 ⟨A6, c6, B6, d6, rfl, r1, r2, h1, h2, hb2⟩
      have hbk := below_next hb2 (below_al (o := (.cells #[.slice A6 n c6, .slice B6 0 d6, .bool false] 24)) (Below.refl w6.heap.size w6))
      have HB6 := Lib.hid (below_next HB5.out hbk)
      have S6 := Lib.hid (S5.out.next hbk)
      have T6 := Lib.hid (T5.out.next hbk)
      have U6 := Lib.hid (U5.out.next hbk)
      have V6 := Lib.hid (SvAt.new (s := ⟨cs, [], false⟩) (p := n) (q := 0) (c := c6) (d := d6) r1 r2)
      have P6 := Lib.hid h1
      have Q6 := Lib.hid h2
      clear hb2 hbk r1 r2 h1 h2 S5 T5 U5 HB5
      clear x0 x1 x2
      go_upto_region 6 with fail
      obtain ⟨b6, hb6⟩ : ∃ b, b = w6.heap.size := ⟨_, rfl⟩
      obtain ⟨W6, hW6⟩ : ∃ W, W = w6.alloc (.cells #[.slice A6 n c6, .slice B6 0 d6, .bool false] 24) := ⟨_, rfl⟩
      try simp only at V6
      rw [← hW6] at V6 S6 T6 U6 HB6 ⊢
      rw [← hb6] at V6 ⊢
      clear hW6 hb6
      have x0 := T6.out.at_.cell (j := 0) rfl; have x1 := T6.out.at_.cell (j := 1) rfl; have x2 := T6.out.at_.cell (j := 2) rfl
      have y0 := U6.out.at_.cell (j := 0) rfl; have y1 := U6.out.at_.cell (j := 1) rfl; have y2 := U6.out.at_.cell (j := 2) rfl
      go_wp2_with fail
      refine (HLK.out HN1.out _ _ _ _ _ _ _ _ _ T6.out.ra T6.out.rb U6.out.ra U6.out.rb).mono ?_
      rintro e w7 ⟨rfl, hb7⟩
      have HB7 := Lib.hid (below_next HB6.out hb7)
      have S7 := Lib.hid (S6.out.next hb7)
      have T7 := Lib.hid (T6.out.next hb7)
      have V7 := Lib.hid (V6.out.next hb7)
      clear hb7 S6 T6 V6 HB6
      clear x0 x1 x2 y0 y1 y2
      have x0 := T7.out.at_.cell (j := 0) rfl; have x1 := T7.out.at_.cell (j := 1) rfl; have x2 := T7.out.at_.cell (j := 2) rfl
      have y0 := V7.out.at_.cell (j := 0) rfl; have y1 := V7.out.at_.cell (j := 1) rfl; have y2 := V7.out.at_.cell (j := 2) rfl
      go_wp2_with fail
      refine (HLK.out HN1.out _ _ _ _ _ _ _ _ _ T7.out.ra T7.out.rb V7.out.ra V7.out.rb).mono ?_
      rintro e w8 ⟨rfl, hb8⟩
      have HB8 := Lib.hid (below_next HB7.out hb8)
      have S8 := Lib.hid (S7.out.next hb8)
      have T8 := Lib.hid (T7.out.next hb8)
      clear hb8 S7 T7 HB7
      clear x0 x1 x2 y0 y1 y2
      have x0 := T8.out.at_.cell (j := 0) rfl; have x1 := T8.out.at_.cell (j := 1) rfl; have x2 := T8.out.at_.cell (j := 2) rfl
      have y0 := S8.out.at_.cell (j := 0) rfl; have y1 := S8.out.at_.cell (j := 1) rfl; have y2 := S8.out.at_.cell (j := 2) rfl
      go_wp2_with fail
      refine (HLC.out HN1.out _ _ _ _ _ T8.out.ra S8.out.ra).mono ?_
      rintro e w9 ⟨rfl, hb9⟩
      have HB9 := Lib.hid (below_next HB8.out hb9)
      clear hb9  HB8
      clear x0 x1 x2 y0 y1 y2
      go_wp2_with fail
      go_ret
      exact ⟨rfl, HB9.out⟩
end So
end Go.Proofs.Ytpjgdpdgfchhkaa
