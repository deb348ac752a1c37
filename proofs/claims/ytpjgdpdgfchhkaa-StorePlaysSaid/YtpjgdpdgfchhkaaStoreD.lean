/- The walk of the law StoreReads. -/
import Derived.Test.YtpjgdpdgfchhkaaStoreC
namespace Go.Proofs.Ytpjgdpdgfchhkaa
open Go.ChangeShapes Go.WideShapes Go.ChangeAt Go.RowKit
set_option linter.unusedVariables false
set_option maxRecDepth 8000
namespace So
open Gen (TellsB row_one flat_len flat_get)
theorem read_as {s : Sr} (h : Ok s) (hd : s.down = false) (n : List UInt8) : readO s n = match s.cells.find? (fun c => decide (c.n = n)) with | some c => (c.b, 0) | none => (([], 171) : List UInt8 × Int) := by
  unfold readO
  rw [(ok_iff s).2 h, if_neg (by simp), hd, if_neg (by simp)]
  rfl
theorem read_same {l f g : List Cl} (h : Ok ⟨l, f, false⟩) (h2 : Ok ⟨l, g, false⟩) (n : List UInt8) : readO ⟨l, f, false⟩ n = readO ⟨l, g, false⟩ n := by
  rw [read_as h rfl, read_as h2 rfl]
theorem commit_one {l : List Cl} {x : Cl} (h : Ok ⟨l, [x], false⟩) : commitO ⟨l, [x], false⟩ = if 64 < (withC l x).length then (zS, 3) else (⟨withC l x, [], false⟩, 0) := by
  unfold commitO
  rw [(ok_iff _).2 h, if_neg (by simp), if_neg (by simp)]
  rfl
theorem read_new {l : List Cl} {x : Cl} (h : Ok ⟨l, [x], false⟩) (hl : ¬ 64 < (withC l x).length) : readO ⟨withC l x, [], false⟩ x.n = if x.b = [] then ([], 171) else (x.b, 0) := by
  have hg := with_good h.good (h.fresh x (by simp))
  have hk : Ok ⟨withC l x, [], false⟩ := ⟨hg, (fun y hy => by cases hy), ⟨by simp only; omega, Nat.zero_le _⟩⟩
  rw [read_as hk rfl]
  by_cases hb : x.b = []
  · rw [if_pos hb, find_none fun c hc => by
      rcases (mem_with l x c).1 hc with ⟨_, h2⟩ | ⟨h1, _⟩
      · exact h2
      · exact absurd hb h1]
  · rw [if_neg hb, find_good hg ((mem_with l x x).2 (.inr ⟨hb, rfl⟩))]
set_option maxRecDepth 100000 in
set_option maxHeartbeats 4000000 in
theorem walkReads (cs fs : List Cl) (dn : Bool) (nm bs : List UInt8) (A : Option Addr) (c : Nat) (B : Option Addr) (d : Nat) (w : World) (hA : Row w A (clc cs)) (hB : Row w B (clc fs)) (hc : cs.length ≤ c) (hd : fs.length ≤ d) :
    Calls Try.prog 7 #[srV A cs.length c B fs.length d dn, .string (kS nm), .string (kS bs)] w (TellsB true w) := by
  obtain ⟨n, hn⟩ : ∃ n, n = cs.length := ⟨_, rfl⟩
  obtain ⟨m, hm⟩ : ∃ n, n = fs.length := ⟨_, rfl⟩
  rw [← hn] at hc ⊢
  rw [← hm] at hd ⊢
  obtain ⟨r, hr⟩ : ∃ r, r = (decide (n ≤ 100) && decide (m ≤ 100)) := ⟨_, rfl⟩
  obtain ⟨k, hk⟩ : ∃ k, k = rightS ⟨cs, fs, dn⟩ := ⟨_, rfl⟩
  have HS := Lib.hid (fun w' => lawSmall A n c B m d dn r hr w')
  have HAL := Lib.hid (fun w' => lawAlive w')
  have HRS : Hid (r = true → n ≤ 100 ∧ m ≤ 100) := Lib.hid (fun h => by rw [hr, Bool.and_eq_true] at h; exact ⟨of_decide_eq_true h.1, of_decide_eq_true h.2⟩)
  have HRT := Lib.hid (fun (h1 : n ≤ 100 ∧ m ≤ 100) w' (hA : Row w' A (clc cs)) (hB : Row w' B (clc fs)) => ckRight cs fs n m dn k hn hm hk A c B d w' hA hB (by omega) (by omega))
  have HOK : Hid (k = true → Ok ⟨cs, fs, dn⟩) := Lib.hid (fun h => (ok_iff _).1 (hk.symm.trans h))
  have HB := Lib.hid (below_al (o := .cells #[.slice A n c, .slice B m d, .bool dn] 24) (Below.refl w.heap.size w))
  have S0 := Lib.hid (SvAt.new (s := ⟨cs, fs, dn⟩) (p := n) (q := m) (c := c) (d := d) hA hB)
  have HN := Lib.hid hn
  have HM := Lib.hid hm
  have HC := Lib.hid hc
  clear hA hB hn hm hr hk hc hd
  go_enter Try.func7, Try.ntmps7
  go_upto_region 1 with fail
  obtain ⟨b0, hb0⟩ : ∃ b, b = w.heap.size := ⟨_, rfl⟩
  obtain ⟨W, hW⟩ : ∃ W, W = w.alloc (.cells #[.slice A n c, .slice B m d, .bool dn] 24) := ⟨_, rfl⟩
  try simp only at S0
  rw [← hW] at S0 HB ⊢
  rw [← hb0] at S0 ⊢
  clear hW hb0
  have x0 := S0.out.at_.cell (j := 0) rfl; have x1 := S0.out.at_.cell (j := 1) rfl; have x2 := S0.out.at_.cell (j := 2) rfl
  go_wp2_with fail
  refine (HS.out _).mono ?_
  rintro e w1 ⟨rfl, hb1⟩
  have HB1 := Lib.hid (below_next HB.out hb1)
  have S1 := Lib.hid (S0.out.next hb1)
  clear hb1 S0 HB
  clear x0 x1 x2
  cases r
  · go_wp2_with fail
    refine (HAL.out _).mono ?_
    rintro e w2 ⟨rfl, hb2⟩
    have HB2 := Lib.hid (below_next HB1.out hb2)
    have S2 := Lib.hid (S1.out.next hb2)
    clear hb2 S1 HB1
    go_wp2_with fail
    go_ret
    exact ⟨rfl, HB2.out⟩
  · have HN1 : Hid (n ≤ 100 ∧ m ≤ 100) := Lib.hid (HRS.out (by trivial))
    have x0 := S1.out.at_.cell (j := 0) rfl; have x1 := S1.out.at_.cell (j := 1) rfl; have x2 := S1.out.at_.cell (j := 2) rfl
    go_wp2_with fail
    refine (HRT.out HN1.out _ S1.out.ra S1.out.rb).mono ?_
    rintro e w2 ⟨rfl, hb2⟩
    have HB2 := Lib.hid (below_next HB1.out hb2)
    have S2 := Lib.hid (S1.out.next hb2)
    clear hb2 S1 HB1
    clear x0 x1 x2
    cases k
    · go_wp2_with fail
      refine (HAL.out _).mono ?_
      rintro e w3 ⟨rfl, hb3⟩
      have HB3 := Lib.hid (below_next HB2.out hb3)
      have S3 := Lib.hid (S2.out.next hb3)
      clear hb3 S2 HB2
      go_wp2_with fail
      go_ret
      exact ⟨rfl, HB3.out⟩
    · have HK0 : Hid (Ok ⟨cs, fs, dn⟩) := Lib.hid (HOK.out (by trivial))
      have x2 := S2.out.at_.cell (j := 2) rfl
      cases dn
      · have x1 := S2.out.at_.cell (j := 1) rfl
        by_cases hm0 : m = 0
        · have hf : fs = [] := List.eq_nil_of_length_eq_zero (HM.out.symm.trans hm0)
          subst hf hm0
          have HK : Hid (Ok ⟨cs, [], false⟩) := HK0
          have hn1 : n ≤ 100 := HN1.out.1
          have HN100 := Lib.hid hn1
          clear HM HOK HRT HS HRS HN1 HK0 hn1
          go_wp2_with fail
          clear x1 x2
          refine (HAL.out _).mono ?_
          rintro e w3 ⟨rfl, hb3⟩
          have HB3 := Lib.hid (below_next HB2.out hb3)
          have S3 := Lib.hid (S2.out.next hb3)
          clear hb3 S2 HB2
          obtain ⟨o, hro⟩ : ∃ o, o = readO ⟨cs, [], false⟩ nm := ⟨_, rfl⟩
          obtain ⟨rb, rz⟩ := o
          have HRO := Lib.hid hro
          have HRD := Lib.hid (fun A c B d w' hA hB => ckRead cs [] n 0 false HN.out rfl nm (rb, rz) HRO.out A c B d w' hA hB (by have := HN100.out; omega) (by omega))
          clear hro
          have x0 := S3.out.at_.cell (j := 0) rfl; have x1 := S3.out.at_.cell (j := 1) rfl; have x2 := S3.out.at_.cell (j := 2) rfl
          go_wp2_with fail
          refine (HRD.out _ _ _ _ _ S3.out.ra S3.out.rb).mono ?_
          rintro e w4 ⟨rfl, hb4⟩
          have HB4 := Lib.hid (below_next HB3.out hb4)
          have S4 := Lib.hid (S3.out.next hb4)
          clear hb4 S3 HB3
          clear x0 x1 x2
          by_cases hmy : mayB ⟨nm, bs⟩ = true
          · have HX : Hid (Ok ⟨cs, [⟨nm, bs⟩], false⟩) := Lib.hid (write_ok HK.out hmy (by simp))
            have HWR := Lib.hid (fun A c B d w' hA hB hc => ckWrite cs [] n 0 false HN.out rfl nm bs (⟨cs, [⟨nm, bs⟩], false⟩, 0) (write_eq HK.out hmy rfl (by simp)).symm n 1 HN.out rfl A c B d w' hA hB hc (by have := HN100.out; omega) (by omega))
            have HR2 := Lib.hid (fun A c B d w' hA hB => ckRead cs [⟨nm, bs⟩] n 1 false HN.out rfl nm (rb, rz) (HRO.out.trans (read_same HK.out HX.out nm)) A c B d w' hA hB (by have := HN100.out; omega) (by omega))
            have HST := Lib.hid (fun A c B d w' hA hB hc => ckStart cs [⟨nm, bs⟩] n 1 false HN.out rfl (⟨cs, [], false⟩, 0) (start_ok HX.out).symm n 0 HN.out rfl A c B d w' hA hB hc (by have := HN100.out; omega) (by omega))
            have HLK := Lib.hid (fun A B A' B' c d c' d' w' => rfLikeS ⟨cs, [], false⟩ n 0 HN.out rfl (by have := HN100.out; omega) (by omega) A B A' B' c d c' d' w')
            clear hmy
            have x0 := S4.out.at_.cell (j := 0) rfl; have x1 := S4.out.at_.cell (j := 1) rfl; have x2 := S4.out.at_.cell (j := 2) rfl
            go_wp2_with fail
            refine (HWR.out _ _ _ _ _ S4.out.ra S4.out.rb HC.out).mono ?_
            rintro e w5 ⟨A5, c5, B5, d5, rfl, r1, r2, h1, h2, hb2⟩
            have hbk := below_next hb2 (below_al (o := (.cells #[.slice A5 n c5, .slice B5 1 d5, .bool false] 24)) (Below.refl w5.heap.size w5))
            have HB5 := Lib.hid (below_next HB4.out hbk)
            have S5 := Lib.hid (S4.out.next hbk)
            have T5 := Lib.hid (SvAt.new (s := ⟨cs, [⟨nm, bs⟩], false⟩) (p := n) (q := 1) (c := c5) (d := d5) r1 r2)
            have P5 := Lib.hid h1
            have Q5 := Lib.hid h2
            clear hb2 hbk r1 r2 h1 h2 S4 HB4
            clear x0 x1 x2
            go_upto_region 5 with fail
            obtain ⟨b5, hb5⟩ : ∃ b, b = w5.heap.size := ⟨_, rfl⟩
            obtain ⟨W5, hW5⟩ : ∃ W, W = w5.alloc (.cells #[.slice A5 n c5, .slice B5 1 d5, .bool false] 24) := ⟨_, rfl⟩
            try simp only at T5
            rw [← hW5] at T5 S5 HB5 ⊢
            rw [← hb5] at T5 ⊢
            clear hW5 hb5
            have x0 := T5.out.at_.cell (j := 0) rfl; have x1 := T5.out.at_.cell (j := 1) rfl; have x2 := T5.out.at_.cell (j := 2) rfl
            go_wp2_with fail
            refine (HR2.out _ _ _ _ _ T5.out.ra T5.out.rb).mono ?_
            rintro e w6 ⟨rfl, hb6⟩
            have HB6 := Lib.hid (below_next HB5.out hb6)
            have S6 := Lib.hid (S5.out.next hb6)
            have T6 := Lib.hid (T5.out.next hb6)
            clear hb6 S5 T5 HB5
            clear x0 x1 x2
            have hq : ((kS rb).toList == (kS rb).toList) = true := by simp
            have x0 := T6.out.at_.cell (j := 0) rfl; have x1 := T6.out.at_.cell (j := 1) rfl; have x2 := T6.out.at_.cell (j := 2) rfl
            go_wp2_with fail
            refine (HST.out _ _ _ _ _ T6.out.ra T6.out.rb P5.out).mono ?_
            rintro e w7 ⟨A7, c7, B7, d7, rfl, r1, r2, h1, h2, hb2⟩
            have hbk := below_next hb2 (below_al (o := (.cells #[.slice A7 n c7, .slice B7 0 d7, .bool false] 24)) (Below.refl w7.heap.size w7))
            have HB7 := Lib.hid (below_next HB6.out hbk)
            have S7 := Lib.hid (S6.out.next hbk)
            have T7 := Lib.hid (T6.out.next hbk)
            have U7 := Lib.hid (SvAt.new (s := ⟨cs, [], false⟩) (p := n) (q := 0) (c := c7) (d := d7) r1 r2)
            have P7 := Lib.hid h1
            have Q7 := Lib.hid h2
            clear hb2 hbk r1 r2 h1 h2 S6 T6 HB6
            clear x0 x1 x2
            go_upto_region 11 with fail
            obtain ⟨b7, hb7⟩ : ∃ b, b = w7.heap.size := ⟨_, rfl⟩
            obtain ⟨W7, hW7⟩ : ∃ W, W = w7.alloc (.cells #[.slice A7 n c7, .slice B7 0 d7, .bool false] 24) := ⟨_, rfl⟩
            try simp only at U7
            rw [← hW7] at U7 S7 T7 HB7 ⊢
            rw [← hb7] at U7 ⊢
            clear hW7 hb7
            clear hq
            have x0 := U7.out.at_.cell (j := 0) rfl; have x1 := U7.out.at_.cell (j := 1) rfl; have x2 := U7.out.at_.cell (j := 2) rfl
            have y0 := S7.out.at_.cell (j := 0) rfl; have y1 := S7.out.at_.cell (j := 1) rfl; have y2 := S7.out.at_.cell (j := 2) rfl
            go_wp2_with fail
            refine (HLK.out _ _ _ _ _ _ _ _ _ U7.out.ra U7.out.rb S7.out.ra S7.out.rb).mono ?_
            rintro e w8 ⟨rfl, hb8⟩
            have HB8 := Lib.hid (below_next HB7.out hb8)
            have S8 := Lib.hid (S7.out.next hb8)
            have T8 := Lib.hid (T7.out.next hb8)
            clear hb8 S7 T7 HB7
            clear x0 x1 x2 y0 y1 y2
            by_cases h64 : 64 < (withC cs ⟨nm, bs⟩).length
            · have e64 : n = 64 := by have := with_len cs ⟨nm, bs⟩; have := HX.out.len.1; have := HN.out; simp only at *; omega
              have HCM := Lib.hid (fun A c B d w' hA hB hc => ckCommit cs [⟨nm, bs⟩] n 1 false HN.out rfl (⟨[], [], false⟩, 3) ((commit_one HX.out).trans (if_pos h64)).symm 0 0 rfl rfl A c B d w' hA hB hc (by have := HN100.out; omega))
              have HE64 := Lib.hid e64
              clear h64 e64
              have x0 := T8.out.at_.cell (j := 0) rfl; have x1 := T8.out.at_.cell (j := 1) rfl; have x2 := T8.out.at_.cell (j := 2) rfl
              go_wp2_with fail
              refine (HCM.out _ _ _ _ _ T8.out.ra T8.out.rb P5.out).mono ?_
              rintro e w9 ⟨A9, c9, B9, d9, rfl, r1, r2, h1, h2, hb2⟩
              have hbk := below_next hb2 (below_al (o := (.cells #[.slice A9 0 c9, .slice B9 0 d9, .bool false] 24)) (Below.refl w9.heap.size w9))
              have HB9 := Lib.hid (below_next HB8.out hbk)
              have S9 := Lib.hid (S8.out.next hbk)
              have V9 := Lib.hid (SvAt.new (s := ⟨[], [], false⟩) (p := 0) (q := 0) (c := c9) (d := d9) r1 r2)
              have P9 := Lib.hid h1
              have Q9 := Lib.hid h2
              clear hb2 hbk r1 r2 h1 h2 S8 HB8
              clear x0 x1 x2
              go_upto_region 14 with fail
              obtain ⟨b9, hb9⟩ : ∃ b, b = w9.heap.size := ⟨_, rfl⟩
              obtain ⟨W9, hW9⟩ : ∃ W, W = w9.alloc (.cells #[.slice A9 0 c9, .slice B9 0 d9, .bool false] 24) := ⟨_, rfl⟩
              try simp only at V9
              rw [← hW9] at V9 S9 HB9 ⊢
              rw [← hb9] at V9 ⊢
              clear hW9 hb9
              have he := HE64.out
              subst he
              have x0 := S9.out.at_.cell (j := 0) rfl
              go_wp2_with fail
              go_ret
              exact ⟨rfl, HB9.out⟩
            · obtain ⟨ms, hms⟩ : ∃ ms, ms = withC cs ⟨nm, bs⟩ := ⟨_, rfl⟩
              obtain ⟨p, hp⟩ : ∃ p, p = ms.length := ⟨_, rfl⟩
              have HCM := Lib.hid (fun A c B d w' hA hB hc => ckCommit cs [⟨nm, bs⟩] n 1 false HN.out rfl (⟨ms, [], false⟩, 0) (by rw [commit_one HX.out, if_neg h64, hms]) p 0 hp rfl A c B d w' hA hB hc (by have := HN100.out; omega))
              have HR3 := Lib.hid (fun o ho A c B d w' hA hB => ckRead ms [] p 0 false hp rfl nm o ho A c B d w' hA hB (by rw [hp, hms]; omega) (by omega))
              have HRN : Hid (readO ⟨ms, [], false⟩ nm = if bs = [] then ([], 171) else (bs, 0)) := Lib.hid (by rw [hms]; exact read_new HX.out h64)
              clear h64 hms hp
              have x0 := T8.out.at_.cell (j := 0) rfl; have x1 := T8.out.at_.cell (j := 1) rfl; have x2 := T8.out.at_.cell (j := 2) rfl
              go_wp2_with fail
              refine (HCM.out _ _ _ _ _ T8.out.ra T8.out.rb P5.out).mono ?_
              rintro e w9 ⟨A9, c9, B9, d9, rfl, r1, r2, h1, h2, hb2⟩
              have hbk := below_next hb2 (below_al (o := (.cells #[.slice A9 p c9, .slice B9 0 d9, .bool false] 24)) (Below.refl w9.heap.size w9))
              have HB9 := Lib.hid (below_next HB8.out hbk)
              have S9 := Lib.hid (S8.out.next hbk)
              have V9 := Lib.hid (SvAt.new (s := ⟨ms, [], false⟩) (p := p) (q := 0) (c := c9) (d := d9) r1 r2)
              have P9 := Lib.hid h1
              have Q9 := Lib.hid h2
              clear hb2 hbk r1 r2 h1 h2 S8 HB8
              clear x0 x1 x2
              go_upto_region 14 with fail
              obtain ⟨b9, hb9⟩ : ∃ b, b = w9.heap.size := ⟨_, rfl⟩
              obtain ⟨W9, hW9⟩ : ∃ W, W = w9.alloc (.cells #[.slice A9 p c9, .slice B9 0 d9, .bool false] 24) := ⟨_, rfl⟩
              try simp only at V9
              rw [← hW9] at V9 S9 HB9 ⊢
              rw [← hb9] at V9 ⊢
              clear hW9 hb9
              by_cases hbs : bs = []
              · have HR4 := Lib.hid (fun A c B d w' hA hB => HR3.out ([], 171) (HRN.out.trans (if_pos hbs)).symm A c B d w' hA hB)
                have hq : (kS bs).toList.isEmpty = true := by rw [kS_list, hbs]; rfl
                have hq2 : (kS []).toList.isEmpty = true := by rw [kS_list]; rfl
                clear hbs
                have x0 := V9.out.at_.cell (j := 0) rfl; have x1 := V9.out.at_.cell (j := 1) rfl; have x2 := V9.out.at_.cell (j := 2) rfl
                go_wp2_with fail
                refine (HR4.out _ _ _ _ _ V9.out.ra V9.out.rb).mono ?_
                rintro e w10 ⟨rfl, hb10⟩
                have HB10 := Lib.hid (below_next HB9.out hb10)
                have S10 := Lib.hid (S9.out.next hb10)
                clear hb10 S9 HB9
                clear x0 x1 x2
                go_wp2_with fail
                go_ret
                exact ⟨rfl, HB10.out⟩
              · have HR4 := Lib.hid (fun A c B d w' hA hB => HR3.out (bs, 0) (HRN.out.trans (if_neg hbs)).symm A c B d w' hA hB)
                have hq : (kS bs).toList.isEmpty = false := by rw [kS_list]; cases bs <;> simp_all
                have hq2 : ((kS bs).toList == (kS bs).toList) = true := by simp
                clear hbs
                have x0 := V9.out.at_.cell (j := 0) rfl; have x1 := V9.out.at_.cell (j := 1) rfl; have x2 := V9.out.at_.cell (j := 2) rfl
                go_wp2_with fail
                refine (HR4.out _ _ _ _ _ V9.out.ra V9.out.rb).mono ?_
                rintro e w10 ⟨rfl, hb10⟩
                have HB10 := Lib.hid (below_next HB9.out hb10)
                have S10 := Lib.hid (S9.out.next hb10)
                clear hb10 S9 HB9
                clear x0 x1 x2
                go_wp2_with fail
                go_ret
                exact ⟨rfl, HB10.out⟩
          · have HWR := Lib.hid (fun A c B d w' hA hB hc => ckWrite cs [] n 0 false HN.out rfl nm bs (⟨[], [], false⟩, 1) (by unfold writeO; rw [if_pos (.inr (by simpa using hmy))]; rfl) 0 0 rfl rfl A c B d w' hA hB hc (by have := HN100.out; omega) (by omega))
            clear hmy
            have x0 := S4.out.at_.cell (j := 0) rfl; have x1 := S4.out.at_.cell (j := 1) rfl; have x2 := S4.out.at_.cell (j := 2) rfl
            go_wp2_with fail
            refine (HWR.out _ _ _ _ _ S4.out.ra S4.out.rb HC.out).mono ?_
            rintro e w5 ⟨A5, c5, B5, d5, rfl, r1, r2, h1, h2, hb2⟩
            have hbk := below_next hb2 (below_al (o := (.cells #[.slice A5 0 c5, .slice B5 0 d5, .bool false] 24)) (Below.refl w5.heap.size w5))
            have HB5 := Lib.hid (below_next HB4.out hbk)
            have S5 := Lib.hid (S4.out.next hbk)
            have T5 := Lib.hid (SvAt.new (s := ⟨[], [], false⟩) (p := 0) (q := 0) (c := c5) (d := d5) r1 r2)
            have P5 := Lib.hid h1
            have Q5 := Lib.hid h2
            clear hb2 hbk r1 r2 h1 h2 S4 HB4
            clear x0 x1 x2
            go_upto_region 5 with fail
            obtain ⟨b5, hb5⟩ : ∃ b, b = w5.heap.size := ⟨_, rfl⟩
            obtain ⟨W5, hW5⟩ : ∃ W, W = w5.alloc (.cells #[.slice A5 0 c5, .slice B5 0 d5, .bool false] 24) := ⟨_, rfl⟩
            try simp only at T5
            rw [← hW5] at T5 S5 HB5 ⊢
            rw [← hb5] at T5 ⊢
            clear hW5 hb5
            have x0 := T5.out.at_.cell (j := 0) rfl
            go_wp2_with fail
            go_ret
            exact ⟨rfl, HB5.out⟩
        · have hm1 : decide (0 < m) = true := decide_eq_true (by omega)
          clear hm0
          go_wp2_with fail
          refine (HAL.out _).mono ?_
          rintro e w3 ⟨rfl, hb3⟩
          have HB3 := Lib.hid (below_next HB2.out hb3)
          have S3 := Lib.hid (S2.out.next hb3)
          clear hb3 S2 HB2
          go_wp2_with fail
          go_ret
          exact ⟨rfl, HB3.out⟩
      · go_wp2_with fail
        refine (HAL.out _).mono ?_
        rintro e w3 ⟨rfl, hb3⟩
        have HB3 := Lib.hid (below_next HB2.out hb3)
        have S3 := Lib.hid (S2.out.next hb3)
        clear hb3 S2 HB2
        go_wp2_with fail
        go_ret
        exact ⟨rfl, HB3.out⟩
end So
end Go.Proofs.Ytpjgdpdgfchhkaa
