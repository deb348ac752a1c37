/- The walk of the law StoreWhole. -/
import Derived.Test.YtpjgdpdgfchhkaaStoreD
namespace Go.Proofs.Ytpjgdpdgfchhkaa
open Go.ChangeShapes Go.WideShapes Go.ChangeAt Go.RowKit
set_option linter.unusedVariables false
set_option maxRecDepth 8000
namespace So
open Gen (TellsB row_one flat_len flat_get)
/-- The law's blocks. -/
structure WhAt (w0 : World) (b0 b7 : Nat) (s a : Sr) (n m p q : Nat) (A : Option Addr) (c : Nat) (B : Option Addr) (d : Nat) (A4 : Option Addr) (c4 : Nat) (B4 : Option Addr) (d4 : Nat) (C : Option Addr) (xs : List Cl) (w : World) : Prop where
  s0 : SvAt b0 s n m A c B d w
  a0 : SvAt b7 a p q A4 c4 B4 d4 w
  row : Row w C (clc xs)
  below : Below w0.heap.size w0 w
theorem WhAt.next {w0 : World} {b0 b7 : Nat} {s a : Sr} {n m p q : Nat} {A : Option Addr} {c : Nat} {B : Option Addr} {d : Nat} {A4 : Option Addr} {c4 : Nat} {B4 : Option Addr} {d4 : Nat} {C : Option Addr} {xs : List Cl} {w w' : World} (h : WhAt w0 b0 b7 s a n m p q A c B d A4 c4 B4 d4 C xs w) (hb : Below w.heap.size w w') : WhAt w0 b0 b7 s a n m p q A c B d A4 c4 B4 d4 C xs w' :=
  ⟨h.s0.next hb, h.a0.next hb, h.row.below hb, below_next h.below hb⟩
theorem WhAt.cells {w0 : World} {b0 b7 : Nat} {s a : Sr} {n m p q : Nat} {A : Option Addr} {c : Nat} {B : Option Addr} {d : Nat} {A4 : Option Addr} {c4 : Nat} {B4 : Option Addr} {d4 : Nat} {C : Option Addr} {xs : List Cl} {w : World} (h : WhAt w0 b0 b7 s a n m p q A c B d A4 c4 B4 d4 C xs w) : w.cell? ⟨b7, 0, none⟩ = some (.slice A4 p c4) ∧ w.cell? ⟨b7, 1, none⟩ = some (.slice B4 q d4) ∧ w.cell? ⟨b7, 2, none⟩ = some (.bool a.down) ∧ w.cell? ⟨b0, 0, none⟩ = some (.slice A n c) ∧ WhAt w0 b0 b7 s a n m p q A c B d A4 c4 B4 d4 C xs w :=
  ⟨h.a0.at_.cell (j := 0) rfl, h.a0.at_.cell (j := 1) rfl, h.a0.at_.cell (j := 2) rfl, h.s0.at_.cell (j := 0) rfl, h⟩
theorem keepWh {w0 : World} {b0 b7 : Nat} {s a : Sr} {n m p q : Nat} {A : Option Addr} {c : Nat} {B : Option Addr} {d : Nat} {A4 : Option Addr} {c4 : Nat} {B4 : Option Addr} {d4 : Nat} {C : Option Addr} {xs : List Cl} {w w' : World} (hb : Below w.heap.size w w') (h : w.cell? ⟨b7, 0, none⟩ = some (.slice A4 p c4) ∧ w.cell? ⟨b7, 1, none⟩ = some (.slice B4 q d4) ∧ w.cell? ⟨b7, 2, none⟩ = some (.bool a.down) ∧ w.cell? ⟨b0, 0, none⟩ = some (.slice A n c) ∧ WhAt w0 b0 b7 s a n m p q A c B d A4 c4 B4 d4 C xs w) : w'.cell? ⟨b7, 0, none⟩ = some (.slice A4 p c4) ∧ w'.cell? ⟨b7, 1, none⟩ = some (.slice B4 q d4) ∧ w'.cell? ⟨b7, 2, none⟩ = some (.bool a.down) ∧ w'.cell? ⟨b0, 0, none⟩ = some (.slice A n c) ∧ WhAt w0 b0 b7 s a n m p q A c B d A4 c4 B4 d4 C xs w' :=
  ⟨Gen.cell_below h.1 hb, Gen.cell_below h.2.1 hb, Gen.cell_below h.2.2.1 hb, Gen.cell_below h.2.2.2.1 hb, h.2.2.2.2.next hb⟩
theorem whOf {w0 : World} {b0 b7 : Nat} {s a : Sr} {n m p q : Nat} {A : Option Addr} {c : Nat} {B : Option Addr} {d : Nat} {A4 : Option Addr} {c4 : Nat} {B4 : Option Addr} {d4 : Nat} {C : Option Addr} {xs : List Cl} {w : World} (h : w.cell? ⟨b7, 0, none⟩ = some (.slice A4 p c4) ∧ w.cell? ⟨b7, 1, none⟩ = some (.slice B4 q d4) ∧ w.cell? ⟨b7, 2, none⟩ = some (.bool a.down) ∧ w.cell? ⟨b0, 0, none⟩ = some (.slice A n c) ∧ WhAt w0 b0 b7 s a n m p q A c B d A4 c4 B4 d4 C xs w) : WhAt w0 b0 b7 s a n m p q A c B d A4 c4 B4 d4 C xs w := h.2.2.2.2
set_option maxRecDepth 100000 in
set_option maxHeartbeats 4000000 in
theorem walkWhole (cs fs xs : List Cl) (dn : Bool) (left : Int) (A : Option Addr) (c : Nat) (B : Option Addr) (d : Nat) (C : Option Addr) (e : Nat) (w : World) (hA : Row w A (clc cs)) (hB : Row w B (clc fs)) (hC : Row w C (clc xs)) (hc : cs.length ≤ c) (hd : fs.length ≤ d) (hce : xs.length ≤ e) :
    Calls Try.prog 5 #[srV A cs.length c B fs.length d dn, .slice C xs.length e, .int .i64 left] w (TellsB true w) := by
  obtain ⟨n, hn⟩ : ∃ n, n = cs.length := ⟨_, rfl⟩
  obtain ⟨m, hm⟩ : ∃ n, n = fs.length := ⟨_, rfl⟩
  obtain ⟨g, hg⟩ : ∃ n, n = xs.length := ⟨_, rfl⟩
  rw [← hn] at hc ⊢
  rw [← hm] at hd ⊢
  rw [← hg]
  obtain ⟨r, hr⟩ : ∃ r, r = (decide (n ≤ 100) && decide (m ≤ 100)) := ⟨_, rfl⟩
  obtain ⟨k, hk⟩ : ∃ k, k = rightS ⟨cs, fs, dn⟩ := ⟨_, rfl⟩
  have HS := Lib.hid (fun w' => lawSmall A n c B m d dn r hr w')
  have HAL := Lib.hid (fun w' => lawAlive w')
  have HRS : Hid (r = true → n ≤ 100 ∧ m ≤ 100) := Lib.hid (fun h => by rw [hr, Bool.and_eq_true] at h; exact ⟨of_decide_eq_true h.1, of_decide_eq_true h.2⟩)
  have HRT := Lib.hid (fun (h1 : n ≤ 100 ∧ m ≤ 100) w' (hA : Row w' A (clc cs)) (hB : Row w' B (clc fs)) => ckRight cs fs n m dn k hn hm hk A c B d w' hA hB (by omega) (by omega))
  have HOK : Hid (k = true → Ok ⟨cs, fs, dn⟩) := Lib.hid (fun h => (ok_iff _).1 (hk.symm.trans h))
  have HB := Lib.hid (below_al (o := .cells #[.slice A n c, .slice B m d, .bool dn] 24) (Below.refl w.heap.size w))
  have S0 := Lib.hid (SvAt.new (s := ⟨cs, fs, dn⟩) (p := n) (q := m) (c := c) (d := d) hA hB)
  have HC0 := Lib.hid hC
  have HN := Lib.hid hn
  have HM := Lib.hid hm
  have HG := Lib.hid hg
  have HC := Lib.hid hc
  have HD := Lib.hid hd
  have HCE : Hid (g ≤ e) := Lib.hid (by omega)
  clear hA hB hC hn hm hg hr hk hc hd hce
  go_enter Try.func5, Try.ntmps5
  go_upto_region 1 with fail
  obtain ⟨b0, hb0⟩ : ∃ b, b = w.heap.size := ⟨_, rfl⟩
  obtain ⟨W, hW⟩ : ∃ W, W = w.alloc (.cells #[.slice A n c, .slice B m d, .bool dn] 24) := ⟨_, rfl⟩
  try simp only at S0
  rw [← hW] at S0 HB ⊢
  rw [← hb0] at S0 ⊢
  clear hW hb0
  have x0 := S0.out.at_.cell (j := 0) rfl; have x1 := S0.out.at_.cell (j := 1) rfl; have x2 := S0.out.at_.cell (j := 2) rfl
  go_wp2_with fail
  refine (HS.out _).mono ?_
  rintro e w1 ⟨rfl, hb1⟩
  have HB1 := Lib.hid (below_next HB.out hb1)
  have S1 := Lib.hid (S0.out.next hb1)
  clear hb1 S0 HB
  clear x0 x1 x2
  cases r
  · go_wp2_with fail
    refine (HAL.out _).mono ?_
    rintro e w2 ⟨rfl, hb2⟩
    have HB2 := Lib.hid (below_next HB1.out hb2)
    have S2 := Lib.hid (S1.out.next hb2)
    clear hb2 S1 HB1
    go_wp2_with fail
    go_ret
    exact ⟨rfl, HB2.out⟩
  · have HN1 : Hid (n ≤ 100 ∧ m ≤ 100) := Lib.hid (HRS.out (by trivial))
    by_cases hg1 : 100 < g
    · have g1 : decide ((100 : Int) < (g : Int)) = true := decide_eq_true (by omega)
      clear hg1
      go_wp2_with fail
      refine (HAL.out _).mono ?_
      rintro e w2 ⟨rfl, hb2⟩
      have HB2 := Lib.hid (below_next HB1.out hb2)
      have S2 := Lib.hid (S1.out.next hb2)
      clear hb2 S1 HB1
      go_wp2_with fail
      go_ret
      exact ⟨rfl, HB2.out⟩
    · have g1 : decide ((100 : Int) < (g : Int)) = false := decide_eq_false (by omega)
      have HG1 : Hid (g ≤ 100) := Lib.hid (by omega)
      clear hg1
      have x0 := S1.out.at_.cell (j := 0) rfl; have x1 := S1.out.at_.cell (j := 1) rfl; have x2 := S1.out.at_.cell (j := 2) rfl
      go_wp2_with fail
      refine (HRT.out HN1.out _ S1.out.ra S1.out.rb).mono ?_
      rintro e w2 ⟨rfl, hb2⟩
      have HB2 := Lib.hid (below_next HB1.out hb2)
      have S2 := Lib.hid (S1.out.next hb2)
      clear hb2 S1 HB1
      clear x0 x1 x2
      clear g1
      cases k
      · go_wp2_with fail
        refine (HAL.out _).mono ?_
        rintro e w3 ⟨rfl, hb3⟩
        have HB3 := Lib.hid (below_next HB2.out hb3)
        have S3 := Lib.hid (S2.out.next hb3)
        clear hb3 S2 HB2
        go_wp2_with fail
        go_ret
        exact ⟨rfl, HB3.out⟩
      · have HK0 : Hid (Ok ⟨cs, fs, dn⟩) := Lib.hid (HOK.out (by trivial))
        have x2 := S2.out.at_.cell (j := 2) rfl
        cases dn
        · have x1 := S2.out.at_.cell (j := 1) rfl
          by_cases hm0 : m = 0
          · have hf : fs = [] := List.eq_nil_of_length_eq_zero (HM.out.symm.trans hm0)
            subst hf hm0
            have HK : Hid (Ok ⟨cs, [], false⟩) := HK0
            have hn1 : n ≤ 100 := HN1.out.1
            have HN100 := Lib.hid hn1
            obtain ⟨o, ho⟩ : ∃ o, o = batchO ⟨cs, [], false⟩ xs left := ⟨_, rfl⟩
            have HEN : Hid (Ends cs xs left o) := Lib.hid (by rw [ho]; exact batch_ends HK.out rfl rfl xs left)
            obtain ⟨p, hp⟩ : ∃ p, p = o.1.cells.length := ⟨_, rfl⟩
            obtain ⟨q, hq⟩ : ∃ q, q = o.1.fresh.length := ⟨_, rfl⟩
            have HP := Lib.hid hp
            have HQ := Lib.hid hq
            have HCK := Lib.hid (fun A c B d C e w' hA hB hC hc hd hce => ckBatch cs [] xs n 0 g false left HN.out rfl HG.out o ho p q hp hq A c B d C e w' hA hB hC hc hd (by have := HN100.out; omega) (by omega) (by have := HG1.out; omega) hce)
            have HLK := Lib.hid (fun A B A' B' c d c' d' w' => rfLikeS ⟨cs, [], false⟩ n 0 HN.out rfl (by have := HN100.out; omega) (by omega) A B A' B' c d c' d' w')
            have HLC := Lib.hid (fun A A' c c' w' => rfLikeCells cs n HN.out (by have := HN100.out; omega) A A' c c' w')
            clear HM HOK HRT HS HRS HN1 HK0 hn1 ho hp hq x1 x2
            obtain ⟨⟨us, vs, dn2⟩, er⟩ := o
            have x0 := S2.out.at_.cell (j := 0) rfl; have x1 := S2.out.at_.cell (j := 1) rfl; have x2 := S2.out.at_.cell (j := 2) rfl
            go_wp2_with fail
            refine (HCK.out _ _ _ _ _ _ _ S2.out.ra S2.out.rb (HC0.out.below HB2.out) HC.out (Nat.zero_le _) HCE.out).mono ?_
            rintro e w4 ⟨A4, c4, B4, d4, rfl, r1, r2, h1, h2, hb2⟩
            have hbk := below_next hb2 (below_al (o := (.cells #[.slice A4 p c4, .slice B4 q d4, .bool dn2] 24)) (Below.refl w4.heap.size w4))
            have HB4 := Lib.hid (below_next HB2.out hbk)
            have S4 := Lib.hid (S2.out.next hbk)
            have T4 := Lib.hid (SvAt.new (s := ⟨us, vs, dn2⟩) (p := p) (q := q) (c := c4) (d := d4) r1 r2)
            have P4 := Lib.hid h1
            have Q4 := Lib.hid h2
            clear hb2 hbk r1 r2 h1 h2 S2 HB2
            clear x0 x1 x2
            go_upto_region 4 with fail
            obtain ⟨b4, hb4⟩ : ∃ b, b = w4.heap.size := ⟨_, rfl⟩
            obtain ⟨W4, hW4⟩ : ∃ W, W = w4.alloc (.cells #[.slice A4 p c4, .slice B4 q d4, .bool dn2] 24) := ⟨_, rfl⟩
            try simp only at T4
            rw [← hW4] at T4 S4 HB4 ⊢
            rw [← hb4] at T4 ⊢
            clear hW4 hb4
            have HX4 : Hid (Row W4 C (clc xs)) := Lib.hid (HC0.out.below HB4.out)
            rcases HEN.out with ⟨h, ok⟩ | ⟨f, h, ok, l0, l1⟩ | ⟨er2, h, he⟩
            · have e1 : us = count cs xs := congrArg (fun x => x.1.cells) h
              have e2 : vs = [] := congrArg (fun x => x.1.fresh) h
              have e3 : dn2 = false := congrArg (fun x => x.1.down) h
              have e4 : er = 0 := congrArg (fun x => x.2) h
              have hq0 : q = 0 := by rw [HQ.out]; show vs.length = 0; rw [e2]; rfl
              have HE1 := Lib.hid e1
              subst e2 e3 e4 hq0
              have HPL : Hid (p ≤ 64) := Lib.hid (by have := ok.len.1; rw [HP.out]; exact this)
              clear h ok HEN e1 HCK
              have HCT := Lib.hid (fun c B d w' hA hB => rfCount cs xs n g HN.out HG.out us HE1.out p HP.out A c B d w' hA hB)
              have HCT2 := Lib.hid (fun w' hA hB => HCT.out c C e w' hA hB HC.out (by have := HN100.out; have := HG1.out; omega))
              have HI := Lib.hid (fun A A' c c' w' => rfLikeCells us p HP.out (by have := HPL.out; omega) A A' c c' w')
              have K4 : Hid (WhAt w b0 b4 ⟨cs, [], false⟩ ⟨us, [], false⟩ n 0 p 0 A c B d A4 c4 B4 d4 C xs W4) := Lib.hid ⟨S4.out, T4.out, HX4.out, HB4.out⟩
              clear S4 T4 HX4 HB4 HP HQ HCT
              go_upto_region 6 with fail
              have K5 := Lib.hid (K4.out.next (below_drewOf (Below.refl _ _)))
              go_wp2_with fail
              have S0 := K5.out.cells
              clear K4 K5
              go_region_held3 (fun w' => w'.cell? ⟨b4, 0, none⟩ = some (.slice A4 p c4) ∧ w'.cell? ⟨b4, 1, none⟩ = some (.slice B4 0 d4) ∧ w'.cell? ⟨b4, 2, none⟩ = some (.bool false) ∧ w'.cell? ⟨b0, 0, none⟩ = some (.slice A n c) ∧ WhAt w b0 b4 ⟨cs, [], false⟩ ⟨us, [], false⟩ n 0 p 0 A c B d A4 c4 B4 d4 C xs w')
                (first | with_reducible assumption | ((with_reducible refine keepWh (s := ⟨cs, [], false⟩) (a := ⟨us, [], false⟩) hb5 ?_); with_reducible assumption))
                (first
                | (go_at_call 16
                   refine (HAL.out _).mono ?_
                   rintro e5 w5 ⟨rfl, hb5⟩
                   (try have HR5 := Lib.hid (HR5.out.below hb5))
                   dsimp only)
                | (go_at_call 24
                   have HW9 := Lib.hid (whOf (s := ⟨cs, [], false⟩) (a := ⟨us, [], false⟩) (by with_reducible assumption))
                   refine (HCT2.out _ HW9.out.s0.ra HW9.out.row).mono ?_
                   clear HW9
                   rintro e5 w5 ⟨A5, c5, rfl, ho5, hc5, hb5⟩
                   have HR5 := Lib.hid ho5
                   clear ho5
                   dsimp only)
                | (go_at_call 23
                   have HW9 := Lib.hid (whOf (s := ⟨cs, [], false⟩) (a := ⟨us, [], false⟩) (by with_reducible assumption))
                   refine (HI.out _ _ _ _ _ HW9.out.a0.ra HR5.out).mono ?_
                   rintro e5 w5 ⟨rfl, hb5⟩
                   have HB9 := Lib.hid (below_next HW9.out.below hb5)
                   clear HW9
                   dsimp only))
              all_goals (
                go_wp2_with fail
                go_ret
                exact ⟨rfl, HB9.out⟩)
            · have e1 : us = cs := congrArg (fun x => x.1.cells) h
              have e2 : vs = f := congrArg (fun x => x.1.fresh) h
              have e3 : dn2 = true := congrArg (fun x => x.1.down) h
              have e4 : er = 170 := congrArg (fun x => x.2) h
              subst e1 e2 e3 e4
              have hpn : p = n := by rw [HP.out, HN.out]
              subst hpn
              have HOK2 := Lib.hid ok
              have HL0 := Lib.hid l0
              have HL1 := Lib.hid l1
              clear h HEN HCK ok l0 l1
              have HST := Lib.hid (fun A c B d w' hA hB hc => ckStart us vs p q true HN.out HQ.out (⟨us, [], false⟩, 0) (start_ok HOK2.out).symm p 0 HN.out rfl A c B d w' hA hB hc (by have := HN100.out; omega) (by have := HOK2.out.len.2; have := HQ.out; simp only at *; omega))
              have x0 := T4.out.at_.cell (j := 0) rfl; have x1 := T4.out.at_.cell (j := 1) rfl; have x2 := T4.out.at_.cell (j := 2) rfl
              go_wp2_with fail
              refine (HST.out _ _ _ _ _ T4.out.ra T4.out.rb P4.out).mono ?_
              rintro e w5 ⟨A5, c5, B5, d5, rfl, r1, r2, h1, h2, hb2⟩
              have hbk := below_next hb2 (below_al (o := (.cells #[.slice A5 p c5, .slice B5 0 d5, .bool false] 24)) (Below.refl w5.heap.size w5))
              have HB5 := Lib.hid (below_next HB4.out hbk)
              have S5 := Lib.hid (S4.out.next hbk)
              have T5 := Lib.hid (T4.out.next hbk)
              have U5 := Lib.hid (SvAt.new (s := ⟨us, [], false⟩) (p := p) (q := 0) (c := c5) (d := d5) r1 r2)
              have P5 := Lib.hid h1
              have Q5 := Lib.hid h2
              clear hb2 hbk r1 r2 h1 h2 S4 T4 HB4
              clear x0 x1 x2
              go_upto_region 9 with fail
              obtain ⟨b5, hb5⟩ : ∃ b, b = w5.heap.size := ⟨_, rfl⟩
              obtain ⟨W5, hW5⟩ : ∃ W, W = w5.alloc (.cells #[.slice A5 p c5, .slice B5 0 d5, .bool false] 24) := ⟨_, rfl⟩
              try simp only at U5
              rw [← hW5] at U5 S5 T5 HB5 ⊢
              rw [← hb5] at U5 ⊢
              clear hW5 hb5
              go_wp2_with fail
              refine (HAL.out _).mono ?_
              rintro e w6 ⟨rfl, hb6⟩
              have HB6 := Lib.hid (below_next HB5.out hb6)
              have S6 := Lib.hid (S5.out.next hb6)
              have T6 := Lib.hid (T5.out.next hb6)
              have U6 := Lib.hid (U5.out.next hb6)
              clear hb6 S5 T5 U5 HB5
              have x0 := T6.out.at_.cell (j := 0) rfl; have x1 := T6.out.at_.cell (j := 1) rfl; have x2 := T6.out.at_.cell (j := 2) rfl
              have y0 := S6.out.at_.cell (j := 0) rfl; have y1 := S6.out.at_.cell (j := 1) rfl; have y2 := S6.out.at_.cell (j := 2) rfl
              go_wp2_with fail
              refine (HLC.out _ _ _ _ _ T6.out.ra S6.out.ra).mono ?_
              rintro e w7 ⟨rfl, hb7⟩
              have HB7 := Lib.hid (below_next HB6.out hb7)
              have S7 := Lib.hid (S6.out.next hb7)
              have U7 := Lib.hid (U6.out.next hb7)
              clear hb7 S6 U6 HB6
              clear x0 x1 x2 y0 y1 y2
              have gl0 : decide ((0 : Int) ≤ left) = true := decide_eq_true HL0.out
              have gl1 : decide (left ≤ (g : Int)) = true := decide_eq_true (by rw [HG.out]; exact HL1.out)
              have x0 := U7.out.at_.cell (j := 0) rfl; have x1 := U7.out.at_.cell (j := 1) rfl; have x2 := U7.out.at_.cell (j := 2) rfl
              have y0 := S7.out.at_.cell (j := 0) rfl; have y1 := S7.out.at_.cell (j := 1) rfl; have y2 := S7.out.at_.cell (j := 2) rfl
              go_wp2_with fail
              refine (HLK.out _ _ _ _ _ _ _ _ _ U7.out.ra U7.out.rb S7.out.ra S7.out.rb).mono ?_
              rintro e w8 ⟨rfl, hb8⟩
              have HB8 := Lib.hid (below_next HB7.out hb8)
              clear hb8  HB7
              clear x0 x1 x2 y0 y1 y2
              go_wp2_with fail
              go_ret
              exact ⟨rfl, HB8.out⟩
            · have e1 : us = [] := congrArg (fun x => x.1.cells) h
              have e2 : vs = [] := congrArg (fun x => x.1.fresh) h
              have e3 : dn2 = false := congrArg (fun x => x.1.down) h
              have e4 : er = er2 := congrArg (fun x => x.2) h
              have hq0 : q = 0 := by rw [HQ.out]; show vs.length = 0; rw [e2]; rfl
              have hp0 : p = 0 := by rw [HP.out]; show us.length = 0; rw [e1]; rfl
              subst e1 e2 e3 e4 hq0 hp0
              clear h HEN HCK HP HQ
              rcases he with he | he
              · subst he
                go_wp2_with fail
                refine (HAL.out _).mono ?_
                rintro e w5 ⟨rfl, hb5⟩
                have HB5 := Lib.hid (below_next HB4.out hb5)
                have S5 := Lib.hid (S4.out.next hb5)
                have T5 := Lib.hid (T4.out.next hb5)
                clear hb5 S4 T4 HB4
                have x0 := T5.out.at_.cell (j := 0) rfl
                go_wp2_with fail
                go_ret
                exact ⟨rfl, HB5.out⟩
              · subst he
                go_wp2_with fail
                refine (HAL.out _).mono ?_
                rintro e w5 ⟨rfl, hb5⟩
                have HB5 := Lib.hid (below_next HB4.out hb5)
                have S5 := Lib.hid (S4.out.next hb5)
                have T5 := Lib.hid (T4.out.next hb5)
                clear hb5 S4 T4 HB4
                have x0 := T5.out.at_.cell (j := 0) rfl
                go_wp2_with fail
                go_ret
                exact ⟨rfl, HB5.out⟩
          · have hm1 : decide (0 < m) = true := decide_eq_true (by omega)
            clear hm0
            go_wp2_with fail
            refine (HAL.out _).mono ?_
            rintro e w3 ⟨rfl, hb3⟩
            have HB3 := Lib.hid (below_next HB2.out hb3)
            have S3 := Lib.hid (S2.out.next hb3)
            clear hb3 S2 HB2
            go_wp2_with fail
            go_ret
            exact ⟨rfl, HB3.out⟩
        · go_wp2_with fail
          refine (HAL.out _).mono ?_
          rintro e w3 ⟨rfl, hb3⟩
          have HB3 := Lib.hid (below_next HB2.out hb3)
          have S3 := Lib.hid (S2.out.next hb3)
          clear hb3 S2 HB2
          go_wp2_with fail
          go_ret
          exact ⟨rfl, HB3.out⟩
end So
end Go.Proofs.Ytpjgdpdgfchhkaa
