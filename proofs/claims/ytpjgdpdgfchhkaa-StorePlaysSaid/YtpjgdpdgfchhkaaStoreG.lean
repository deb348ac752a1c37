/- The walk of the law StorePlays. -/
import Derived.Test.YtpjgdpdgfchhkaaStoreF
namespace Go.Proofs.Ytpjgdpdgfchhkaa
open Go.ChangeShapes Go.WideShapes Go.ChangeAt Go.RowKit
set_option linter.unusedVariables false
set_option maxRecDepth 8000
namespace So
open Gen (TellsB row_one flat_len flat_get)
theorem read_mem {l : List Cl} (h : Ok ⟨l, [], false⟩) {y : Cl} (hy : y ∈ l) : readO ⟨l, [], false⟩ y.n = (y.b, 0) := by
  rw [read_as h rfl]
  simp only
  rw [find_good h.good hy]
/-- The law's blocks. -/
structure PyAt (w0 : World) (b0 : Nat) (us : List Cl) (n : Nat) (A : Option Addr) (c : Nat) (B : Option Addr) (d : Nat) (Aw : Option Addr) (cw : Nat) (w : World) : Prop where
  sv : SvAt b0 ⟨us, [], false⟩ n 0 A c B d w
  want : Row w Aw (clc us)
  below : Below w0.heap.size w0 w
  high : w0.heap.size ≤ b0
  len : n = us.length
  cap : n ≤ c
  cap2 : n ≤ cw
  ok : Ok ⟨us, [], false⟩
theorem PyAt.next {w0 : World} {b0 : Nat} {us : List Cl} {n : Nat} {A : Option Addr} {c : Nat} {B : Option Addr} {d : Nat} {Aw : Option Addr} {cw : Nat} {w w' : World} (h : PyAt w0 b0 us n A c B d Aw cw w) (hb : Below w.heap.size w w') : PyAt w0 b0 us n A c B d Aw cw w' :=
  ⟨h.sv.next hb, h.want.below hb, below_next h.below hb, h.high, h.len, h.cap, h.cap2, h.ok⟩
theorem PyAt.set {w0 : World} {b0 : Nat} {us : List Cl} {n : Nat} {A : Option Addr} {c : Nat} {B : Option Addr} {d : Nat} {Aw : Option Addr} {cw : Nat} {w : World} (h : PyAt w0 b0 us n A c B d Aw cw w) {vs : List Cl} {m : Nat} {A' : Option Addr} {c' : Nat} {B' : Option Addr} {d' : Nat} {Aw' : Option Addr} {cw' : Nat}
    (h1 : Row w A' (clc vs)) (h2 : Row w Aw' (clc vs)) (hl : m = vs.length) (hc : m ≤ c') (hc2 : m ≤ cw') (hk : Ok ⟨vs, [], false⟩) : PyAt w0 b0 vs m A' c' B' d' Aw' cw' (set3O w b0 (.slice A' m c') (.slice B' 0 d') (.bool false)) :=
  ⟨⟨lies_set3O h.sv.at_ _ _ _, row_set3O h1 h.sv.at_ _ _ _, .inl rfl⟩, row_set3O h2 h.sv.at_ _ _ _, below_set3O h.below h.high _ _ _, h.high, hl, hc, hc2, hk⟩
theorem turn_row {w0 w : World} {A : Option Addr} {l : List (TuAt w0)} (h : Row w A (l.flatMap tuL)) {k : Nat} {x : TuAt w0} (hk : l[k]? = some x) :
    ∃ q off, A = some ⟨q, off, none⟩ ∧ w.cell? ⟨q, off + k * 2, none⟩ = some (.slice x.1.1 x.1.2.2.1.length x.1.2.1) ∧ w.cell? ⟨q, off + k * 2 + 1, none⟩ = some (.int .i64 x.1.2.2.2) := by
  obtain ⟨q, off, rfl, g⟩ := row_one tuL_len (by omega) h hk
  exact ⟨q, off, rfl, by simpa using g 0 _ rfl, g 1 _ rfl⟩
set_option maxRecDepth 100000 in
set_option maxHeartbeats 8000000 in
theorem walkPlays (w : World) (l : List (TuAt w)) (T : Option Addr) (e : Nat) (hT : Row w T (l.flatMap tuL)) (hl : l.length ≤ maxLen) :
    Calls Try.prog 6 #[.slice T l.length e] w (TellsB true w) := by
  obtain ⟨N, hN⟩ : ∃ n, n = l.length := ⟨_, rfl⟩
  rw [← hN] at hl ⊢
  have hl2 : N ≤ 9223372036854775807 := by unfold maxLen at hl; omega
  have HL := Lib.hid hl2
  have HAL := Lib.hid (fun w' => lawAlive w')
  have HT := Lib.hid hT
  have HNN := Lib.hid hN
  have PL : Hid (PyAt w w.heap.size [] 0 none 0 none 0 none 0 (w.alloc (.cells #[.slice none 0 0, .slice none 0 0, .bool false] 24))) := Lib.hid
    ⟨SvAt.new (s := ⟨[], [], false⟩) (p := 0) (q := 0) (.inl rfl) (.inl rfl), .inl rfl, below_al (Below.refl _ _), Nat.le_refl _, rfl, Nat.le_refl _, Nat.le_refl _, (ok_iff _).1 (by decide)⟩
  clear hT hN hl hl2
  go_enter Try.func6, Try.ntmps6
  go_upto_region 2 with fail
  obtain ⟨W, hW⟩ : ∃ W, W = w.alloc (.cells #[.slice none 0 0, .slice none 0 0, .bool false] 24) := ⟨_, rfl⟩
  obtain ⟨b0, hb0⟩ : ∃ b, b = w.heap.size := ⟨_, rfl⟩
  rw [← hW] at PL ⊢
  rw [← hb0] at PL ⊢
  clear hW hb0
  go_wp2_with fail
  go_loopw [4, 18] (fun s4 s18 wr => ∃ (k n c d cw : Nat) (A B Aw : Option Addr) (us : List Cl), s4 = .slice Aw n cw ∧ s18 = .int .i64 k ∧ k ≤ N ∧ PyAt w b0 us n A c B d Aw cw wr) (fun _ s18 _ => N - (intOf s18).toNat)
  case atStart => exact ⟨0, 0, 0, 0, 0, none, none, none, [], rfl, rfl, Nat.zero_le _, PL.out⟩
  case round =>
    clear PL
    obtain ⟨k, n, c, d, cw, A, B, Aw, us, rfl, rfl, hk, hAT⟩ := hrel
    have PL := Lib.hid hAT
    clear hAT
    by_cases hlt : k < N
    · obtain ⟨t, ht⟩ : ∃ t, l[k]? = some t := ⟨_, List.getElem?_eq_getElem (by rw [← HNN.out]; exact hlt)⟩
      obtain ⟨bt, off, hT1, d0, d1⟩ := turn_row (HT.out.below PL.out.below) ht
      subst hT1
      have hki : (k : Int) < (N : Int) := by omega
      have hw := wrapKO (k := k) (by have := HL.out; omega)
      have HKM := Lib.hid hlt
      clear ht hlt hk
      obtain ⟨⟨tA, tc, xs, left⟩, htx⟩ := t
      simp only at d0 d1
      have HX0 := Lib.hid (htx.1.below PL.out.below)
      obtain ⟨g, hg⟩ : ∃ g, g = xs.length := ⟨_, rfl⟩
      simp only at HX0
      rw [← hg] at d0
      have HG := Lib.hid hg
      have HTC : Hid (g ≤ tc) := Lib.hid (by have h := htx.2.1; simp only at h; omega)
      clear hg htx
      go_upto_region 6 with fail
      clear d0 d1
      have hbx := below_al (o := .cells #[.slice tA g tc, .int .i64 left] 41) (Below.refl wr.heap.size wr)
      have P1 := Lib.hid (PL.out.next hbx)
      have HX1 := Lib.hid (HX0.out.below hbx)
      have LT := Lib.hid (Lies.new wr #[.slice tA g tc, .int .i64 left] 41)
      obtain ⟨bu, hbu⟩ : ∃ b, b = wr.heap.size := ⟨_, rfl⟩
      obtain ⟨W1, hW1⟩ : ∃ W, W = wr.alloc (.cells #[.slice tA g tc, .int .i64 left] 41) := ⟨_, rfl⟩
      rw [← hW1] at P1 LT HX1 ⊢
      rw [← hbu] at LT ⊢
      clear hW1 hbu hbx PL HX0
      by_cases hk30 : 30 ≤ k
      · have g1 : decide ((30 : Int) ≤ (k : Int)) = true := decide_eq_true (by omega)
        clear hk30
        go_wp2_with fail
        go_roundw
        case rel => exact ⟨k + 1, n, c, d, cw, A, B, Aw, us, rfl, rfl, HKM.out, P1.out⟩
        case measure => simp [intOf]; have := HKM.out; omega
      · have g1 : decide ((30 : Int) ≤ (k : Int)) = false := decide_eq_false (by omega)
        clear hk30
        have t0 := LT.out.cell (j := 0) rfl
        by_cases hg20 : 20 < g
        · have g2 : decide ((20 : Int) < (g : Int)) = true := decide_eq_true (by omega)
          clear hg20
          go_wp2_with fail
          go_roundw
          case rel => exact ⟨k + 1, n, c, d, cw, A, B, Aw, us, rfl, rfl, HKM.out, P1.out⟩
          case measure => simp [intOf]; have := HKM.out; omega
        · have g2 : decide ((20 : Int) < (g : Int)) = false := decide_eq_false (by omega)
          have HG20 : Hid (g ≤ 20) := Lib.hid (by omega)
          clear hg20
          have HN64' : Hid (n ≤ 64) := Lib.hid (by have := P1.out.len; have := P1.out.ok.len.1; simp only at *; omega)
          obtain ⟨o, ho⟩ : ∃ o, o = batchO ⟨us, [], false⟩ xs left := ⟨_, rfl⟩
          have HEN : Hid (Ends us xs left o) := Lib.hid (by rw [ho]; exact batch_ends P1.out.ok rfl rfl xs left)
          obtain ⟨p, hp⟩ : ∃ p, p = o.1.cells.length := ⟨_, rfl⟩
          obtain ⟨q, hq⟩ : ∃ q, q = o.1.fresh.length := ⟨_, rfl⟩
          have HP := Lib.hid hp
          have HQ := Lib.hid hq
          have HLEN0 := Lib.hid P1.out.len
          have HCK := Lib.hid (fun w' hA hB hC => ckBatch us [] xs n 0 g false left HLEN0.out rfl HG.out o ho p q hp hq A c B d tA tc w' hA hB hC P1.out.cap (Nat.zero_le _) (by have := HN64'.out; omega) (by omega) (by have := HG20.out; omega) HTC.out)
          clear ho hp hq
          obtain ⟨⟨vs, fs, dn2⟩, er⟩ := o
          have t1 := LT.out.cell (j := 1) rfl
          have x0 := P1.out.sv.at_.cell (j := 0) rfl; have x1 := P1.out.sv.at_.cell (j := 1) rfl; have x2 := P1.out.sv.at_.cell (j := 2) rfl
          go_wp2_with fail
          refine (HCK.out _ P1.out.sv.ra P1.out.sv.rb HX1.out).mono ?_
          rintro e w4 ⟨A4, c4, B4, d4, rfl, r1, r2, h1, h2, hb2⟩
          have hbk := below_next hb2 (below_al (o := (.cells #[.slice A4 p c4, .slice B4 q d4, .bool dn2] 24)) (Below.refl w4.heap.size w4))
          have P4 := Lib.hid (P1.out.next hbk)
          have HX4 := Lib.hid (HX1.out.below hbk)
          have LT4 := Lib.hid (LT.out.below hbk)
          have T4 := Lib.hid (SvAt.new (s := ⟨vs, fs, dn2⟩) (p := p) (q := q) (c := c4) (d := d4) r1 r2)
          have H1 := Lib.hid h1
          have H2 := Lib.hid h2
          clear hb2 hbk r1 r2 h1 h2 x0 x1 x2 t0 t1 P1 HX1 LT HCK
          go_upto_region 8 with fail
          obtain ⟨b4, hb4⟩ : ∃ b, b = w4.heap.size := ⟨_, rfl⟩
          obtain ⟨W4, hW4⟩ : ∃ W, W = w4.alloc (.cells #[.slice A4 p c4, .slice B4 q d4, .bool dn2] 24) := ⟨_, rfl⟩
          try simp only at T4
          rw [← hW4] at T4 P4 HX4 LT4 ⊢
          rw [← hb4] at T4 ⊢
          clear hW4 hb4 g1 g2
          rcases HEN.out with ⟨h, ok⟩ | ⟨f, h, ok, l0, l1⟩ | ⟨er2, h, he⟩
          · have e1 : vs = count us xs := congrArg (fun x => x.1.cells) h
            have e2 : fs = [] := congrArg (fun x => x.1.fresh) h
            have e3 : dn2 = false := congrArg (fun x => x.1.down) h
            have e4 : er = 0 := congrArg (fun x => x.2) h
            have hq0 : q = 0 := by rw [HQ.out]; show fs.length = 0; rw [e2]; rfl
            have HE1 := Lib.hid e1
            subst e2 e3 e4 hq0
            have HOK4 : Hid (Ok ⟨vs, [], false⟩) := Lib.hid ok
            clear h ok HEN e1 HQ
            have HP0 : Hid (p = vs.length) := Lib.hid HP.out
            have HCT := Lib.hid (fun w' hA hB => rfCount us xs n g HLEN0.out HG.out vs HE1.out p HP0.out Aw cw tA tc w' hA hB P4.out.cap2 (by have := HN64'.out; have := HG20.out; omega))
            have t0 := LT4.out.cell (j := 0) rfl
            go_wp2_with fail
            refine (HCT.out _ P4.out.want HX4.out).mono ?_
            rintro e w5 ⟨A5, c5, rfl, ho5, hc5, hb5⟩
            have P5 := Lib.hid (P4.out.next hb5)
            have T5 := Lib.hid (T4.out.next hb5)
            have R5 := Lib.hid ho5
            have C5 := Lib.hid hc5
            clear hb5 ho5 hc5 t0 HCT P4 T4 HX4 LT4
            have x0 := T5.out.at_.cell (j := 0) rfl; have x1 := T5.out.at_.cell (j := 1) rfl; have x2 := T5.out.at_.cell (j := 2) rfl
            have y0 := P5.out.sv.at_.cell (j := 0) rfl; have y1 := P5.out.sv.at_.cell (j := 1) rfl; have y2 := P5.out.sv.at_.cell (j := 2) rfl
            have z0 := P5.out.sv.at_.free 0; have z1 := P5.out.sv.at_.free 1; have z2 := P5.out.sv.at_.free 2
            go_upto_region 11 with fail
            clear x0 x1 x2 y0 y1 y2 z0 z1 z2
            have P6 := Lib.hid (P5.out.set (B' := B4) (d' := d4) T5.out.ra R5.out HP0.out H1.out C5.out HOK4.out)
            unfold set3O at P6
            obtain ⟨W6, hW6⟩ : ∃ W, W = ((w5.setCell ⟨b0, 0, none⟩ (.slice A4 p c4)).setCell ⟨b0, 1, none⟩ (.slice B4 0 d4)).setCell ⟨b0, 2, none⟩ (.bool false) := ⟨_, rfl⟩
            rw [← hW6] at P6 ⊢
            clear hW6 P5 T5 R5 C5
            have HRT := Lib.hid (fun w' hA hB => ckRight vs [] p 0 false true P6.out.len rfl ((ok_iff _).2 P6.out.ok).symm A4 c4 B4 d4 w' hA hB (by have := P6.out.len; have := P6.out.ok.len.1; simp only at *; omega) (by omega))
            have HLC := Lib.hid (fun A A' c c' w' => rfLikeCells vs p P6.out.len (by have := P6.out.len; have := P6.out.ok.len.1; simp only at *; omega) A A' c c' w')
            have HN64 : Hid (p ≤ 64) := Lib.hid (by have := P6.out.len; have := P6.out.ok.len.1; simp only at *; omega)
            have HOKK := Lib.hid P6.out.ok
            have HLEN := Lib.hid P6.out.len
            have x0 := P6.out.sv.at_.cell (j := 0) rfl; have x1 := P6.out.sv.at_.cell (j := 1) rfl; have x2 := P6.out.sv.at_.cell (j := 2) rfl
            go_wp2_with fail
            refine (HRT.out _ P6.out.sv.ra P6.out.sv.rb).mono ?_
            rintro e w20 ⟨rfl, hb20⟩
            have PA := Lib.hid (P6.out.next hb20)
            clear hb20 x0 x1 x2 P6 HRT
            have x0 := PA.out.sv.at_.cell (j := 0) rfl
            go_wp2_with fail
            refine (HLC.out _ _ _ _ _ PA.out.sv.ra PA.out.want).mono ?_
            rintro e w21 ⟨rfl, hb21⟩
            have PB := Lib.hid (PA.out.next hb21)
            clear hb21 x0 PA HLC
            go_wp2_with fail
            go_loopw [69] (fun i wr => ∃ j : Nat, i = .int .i64 j ∧ j ≤ p ∧ PyAt w b0 vs p A4 c4 B4 d4 A5 c5 wr) (fun i _ => p - (intOf i).toNat)
            case atStart => exact ⟨0, rfl, Nat.zero_le _, PB.out⟩
            case round =>
              clear PB
              obtain ⟨j, rfl, hj, hPL⟩ := hrel
              have PC := Lib.hid hPL
              clear hPL
              by_cases hjn : j < p
              · obtain ⟨y, hy⟩ : ∃ y, vs[j]? = some y := ⟨_, List.getElem?_eq_getElem (by rw [← HLEN.out]; exact hjn)⟩
                obtain ⟨bq, off, hA1, d0, d1⟩ := cell_row PC.out.want hy
                have hA1' := hA1
                subst hA1'
                have hji : (j : Int) < (p : Int) := by omega
                have hwj := wrapKO (k := j) (by have := HN64.out; omega)
                have HJN := Lib.hid hjn
                have HRD := Lib.hid (fun w' hA hB => ckRead vs [] p 0 false HLEN.out rfl y.n (y.b, 0) (read_mem HOKK.out (List.mem_of_getElem? hy)).symm A4 c4 B4 d4 w' hA hB (by have := HN64.out; omega) (by omega))
                clear hy hjn hj
                obtain ⟨yn, yb⟩ := y
                simp only at d0 d1 HRD
                go_upto_region 21 with fail
                clear d0 d1
                have hbx := below_al (o := .cells #[.string (kS yn), .string (kS yb)] 43) (Below.refl wr.heap.size wr)
                have PD := Lib.hid (PC.out.next hbx)
                have LY := Lib.hid (Lies.new wr #[.string (kS yn), .string (kS yb)] 43)
                obtain ⟨b1, hb1⟩ : ∃ b, b = wr.heap.size := ⟨_, rfl⟩
                obtain ⟨W1, hW1⟩ : ∃ W, W = wr.alloc (.cells #[.string (kS yn), .string (kS yb)] 43) := ⟨_, rfl⟩
                rw [← hW1] at PD LY ⊢
                rw [← hb1] at LY ⊢
                clear hW1 hb1 hbx PC
                have x0 := PD.out.sv.at_.cell (j := 0) rfl; have x1 := PD.out.sv.at_.cell (j := 1) rfl; have x2 := PD.out.sv.at_.cell (j := 2) rfl
                have y0 := LY.out.cell (j := 0) rfl
                go_wp2_with fail
                refine (HRD.out _ PD.out.sv.ra PD.out.sv.rb).mono ?_
                rintro e w22 ⟨rfl, hb22⟩
                have PE := Lib.hid (PD.out.next hb22)
                have LZ := Lib.hid (LY.out.below hb22)
                clear hb22 x0 x1 x2 y0 PD LY HRD
                have y1 := LZ.out.cell (j := 1) rfl
                have hq : ((kS yb).toList == (kS yb).toList) = true := by simp
                go_wp2_with fail
                go_roundw
                case rel => exact ⟨j + 1, rfl, HJN.out, PE.out⟩
                case measure => simp [intOf]; have := HJN.out; omega
              · have hji : ¬ (j : Int) < (p : Int) := by omega
                go_wp2_with fail
                go_roundw
                case rel => exact ⟨k + 1, p, c4, d4, c5, A4, B4, A5, vs, rfl, rfl, HKM.out, PC.out⟩
                case measure => simp [intOf]; have := HKM.out; omega
          · have e1 : vs = us := congrArg (fun x => x.1.cells) h
            have e2 : fs = f := congrArg (fun x => x.1.fresh) h
            have e3 : dn2 = true := congrArg (fun x => x.1.down) h
            have e4 : er = 170 := congrArg (fun x => x.2) h
            have HOK2 := Lib.hid ok
            subst e2 e3 e4
            subst e1
            have hpn : p = n := by rw [HP.out, HLEN0.out]
            subst hpn
            clear h HEN ok l0 l1
            have HST := Lib.hid (fun A c B d w' hA hB hc => ckStart vs fs p q true HLEN0.out HQ.out (⟨vs, [], false⟩, 0) (start_ok HOK2.out).symm p 0 HLEN0.out rfl A c B d w' hA hB hc (by have := HN64'.out; omega) (by have := HOK2.out.len.2; have := HQ.out; simp only at *; omega))
            have x0 := T4.out.at_.cell (j := 0) rfl; have x1 := T4.out.at_.cell (j := 1) rfl; have x2 := T4.out.at_.cell (j := 2) rfl
            go_wp2_with fail
            refine (HST.out _ _ _ _ _ T4.out.ra T4.out.rb H1.out).mono ?_
            rintro e w5 ⟨A5, c5, B5, d5, rfl, r1, r2, h1, h2, hb2⟩
            have hbk := below_next hb2 (below_al (o := (.cells #[.slice A5 p c5, .slice B5 0 d5, .bool false] 24)) (Below.refl w5.heap.size w5))
            have P5 := Lib.hid (P4.out.next hbk)
            have T5 := Lib.hid (SvAt.new (s := ⟨vs, [], false⟩) (p := p) (q := 0) (c := c5) (d := d5) r1 r2)
            have H5 := Lib.hid h1
            clear hb2 hbk r1 r2 h1 h2 x0 x1 x2 P4 T4 HX4 LT4 HST
            go_upto_region 13 with fail
            obtain ⟨b5, hb5⟩ : ∃ b, b = w5.heap.size := ⟨_, rfl⟩
            obtain ⟨W5, hW5⟩ : ∃ W, W = w5.alloc (.cells #[.slice A5 p c5, .slice B5 0 d5, .bool false] 24) := ⟨_, rfl⟩
            try simp only at T5
            rw [← hW5] at T5 P5 ⊢
            rw [← hb5] at T5 ⊢
            clear hW5 hb5
            have x0 := T5.out.at_.cell (j := 0) rfl; have x1 := T5.out.at_.cell (j := 1) rfl; have x2 := T5.out.at_.cell (j := 2) rfl
            have y0 := P5.out.sv.at_.cell (j := 0) rfl; have y1 := P5.out.sv.at_.cell (j := 1) rfl; have y2 := P5.out.sv.at_.cell (j := 2) rfl
            have z0 := P5.out.sv.at_.free 0; have z1 := P5.out.sv.at_.free 1; have z2 := P5.out.sv.at_.free 2
            go_upto_region 16 with fail
            clear x0 x1 x2 y0 y1 y2 z0 z1 z2
            have P6 := Lib.hid (P5.out.set (B' := B5) (d' := d5) T5.out.ra P5.out.want HLEN0.out H5.out P5.out.cap2 P5.out.ok)
            unfold set3O at P6
            obtain ⟨W6, hW6⟩ : ∃ W, W = ((W5.setCell ⟨b0, 0, none⟩ (.slice A5 p c5)).setCell ⟨b0, 1, none⟩ (.slice B5 0 d5)).setCell ⟨b0, 2, none⟩ (.bool false) := ⟨_, rfl⟩
            rw [← hW6] at P6 ⊢
            clear hW6 P5 T5
            have HRT := Lib.hid (fun w' hA hB => ckRight vs [] p 0 false true P6.out.len rfl ((ok_iff _).2 P6.out.ok).symm A5 c5 B5 d5 w' hA hB (by have := P6.out.len; have := P6.out.ok.len.1; simp only at *; omega) (by omega))
            have HLC := Lib.hid (fun A A' c c' w' => rfLikeCells vs p P6.out.len (by have := P6.out.len; have := P6.out.ok.len.1; simp only at *; omega) A A' c c' w')
            have HN64 : Hid (p ≤ 64) := Lib.hid (by have := P6.out.len; have := P6.out.ok.len.1; simp only at *; omega)
            have HOKK := Lib.hid P6.out.ok
            have HLEN := Lib.hid P6.out.len
            have x0 := P6.out.sv.at_.cell (j := 0) rfl; have x1 := P6.out.sv.at_.cell (j := 1) rfl; have x2 := P6.out.sv.at_.cell (j := 2) rfl
            go_wp2_with fail
            refine (HRT.out _ P6.out.sv.ra P6.out.sv.rb).mono ?_
            rintro e w20 ⟨rfl, hb20⟩
            have PA := Lib.hid (P6.out.next hb20)
            clear hb20 x0 x1 x2 P6 HRT
            have x0 := PA.out.sv.at_.cell (j := 0) rfl
            go_wp2_with fail
            refine (HLC.out _ _ _ _ _ PA.out.sv.ra PA.out.want).mono ?_
            rintro e w21 ⟨rfl, hb21⟩
            have PB := Lib.hid (PA.out.next hb21)
            clear hb21 x0 PA HLC
            go_wp2_with fail
            go_loopw [69] (fun i wr => ∃ j : Nat, i = .int .i64 j ∧ j ≤ p ∧ PyAt w b0 vs p A5 c5 B5 d5 Aw cw wr) (fun i _ => p - (intOf i).toNat)
            case atStart => exact ⟨0, rfl, Nat.zero_le _, PB.out⟩
            case round =>
              clear PB
              obtain ⟨j, rfl, hj, hPL⟩ := hrel
              have PC := Lib.hid hPL
              clear hPL
              by_cases hjn : j < p
              · obtain ⟨y, hy⟩ : ∃ y, vs[j]? = some y := ⟨_, List.getElem?_eq_getElem (by rw [← HLEN.out]; exact hjn)⟩
                obtain ⟨bq, off, hA1, d0, d1⟩ := cell_row PC.out.want hy
                have hA1' := hA1
                subst hA1'
                have hji : (j : Int) < (p : Int) := by omega
                have hwj := wrapKO (k := j) (by have := HN64.out; omega)
                have HJN := Lib.hid hjn
                have HRD := Lib.hid (fun w' hA hB => ckRead vs [] p 0 false HLEN.out rfl y.n (y.b, 0) (read_mem HOKK.out (List.mem_of_getElem? hy)).symm A5 c5 B5 d5 w' hA hB (by have := HN64.out; omega) (by omega))
                clear hy hjn hj
                obtain ⟨yn, yb⟩ := y
                simp only at d0 d1 HRD
                go_upto_region 21 with fail
                clear d0 d1
                have hbx := below_al (o := .cells #[.string (kS yn), .string (kS yb)] 43) (Below.refl wr.heap.size wr)
                have PD := Lib.hid (PC.out.next hbx)
                have LY := Lib.hid (Lies.new wr #[.string (kS yn), .string (kS yb)] 43)
                obtain ⟨b1, hb1⟩ : ∃ b, b = wr.heap.size := ⟨_, rfl⟩
                obtain ⟨W1, hW1⟩ : ∃ W, W = wr.alloc (.cells #[.string (kS yn), .string (kS yb)] 43) := ⟨_, rfl⟩
                rw [← hW1] at PD LY ⊢
                rw [← hb1] at LY ⊢
                clear hW1 hb1 hbx PC
                have x0 := PD.out.sv.at_.cell (j := 0) rfl; have x1 := PD.out.sv.at_.cell (j := 1) rfl; have x2 := PD.out.sv.at_.cell (j := 2) rfl
                have y0 := LY.out.cell (j := 0) rfl
                go_wp2_with fail
                refine (HRD.out _ PD.out.sv.ra PD.out.sv.rb).mono ?_
                rintro e w22 ⟨rfl, hb22⟩
                have PE := Lib.hid (PD.out.next hb22)
                have LZ := Lib.hid (LY.out.below hb22)
                clear hb22 x0 x1 x2 y0 PD LY HRD
                have y1 := LZ.out.cell (j := 1) rfl
                have hq : ((kS yb).toList == (kS yb).toList) = true := by simp
                go_wp2_with fail
                go_roundw
                case rel => exact ⟨j + 1, rfl, HJN.out, PE.out⟩
                case measure => simp [intOf]; have := HJN.out; omega
              · have hji : ¬ (j : Int) < (p : Int) := by omega
                go_wp2_with fail
                go_roundw
                case rel => exact ⟨k + 1, p, c5, d5, cw, A5, B5, Aw, vs, rfl, rfl, HKM.out, PC.out⟩
                case measure => simp [intOf]; have := HKM.out; omega
          · have e1 : vs = [] := congrArg (fun x => x.1.cells) h
            have e2 : fs = [] := congrArg (fun x => x.1.fresh) h
            have e3 : dn2 = false := congrArg (fun x => x.1.down) h
            have e4 : er = er2 := congrArg (fun x => x.2) h
            have g3 : (er == (0 : Int)) = false := ne_b (by rw [e4]; omega)
            have g4 : (er == (170 : Int)) = false := ne_b (by rw [e4]; omega)
            clear h HEN HP HQ e1 e2 e3 e4 he T4 HX4 LT4 H1 H2
            have HRT := Lib.hid (fun w' hA hB => ckRight us [] n 0 false true P4.out.len rfl ((ok_iff _).2 P4.out.ok).symm A c B d w' hA hB (by have := P4.out.len; have := P4.out.ok.len.1; simp only at *; omega) (by omega))
            have HLC := Lib.hid (fun A A' c c' w' => rfLikeCells us n P4.out.len (by have := P4.out.len; have := P4.out.ok.len.1; simp only at *; omega) A A' c c' w')
            have HN64 : Hid (n ≤ 64) := Lib.hid (by have := P4.out.len; have := P4.out.ok.len.1; simp only at *; omega)
            have HOKK := Lib.hid P4.out.ok
            have HLEN := Lib.hid P4.out.len
            have x0 := P4.out.sv.at_.cell (j := 0) rfl; have x1 := P4.out.sv.at_.cell (j := 1) rfl; have x2 := P4.out.sv.at_.cell (j := 2) rfl
            go_wp2_with fail
            refine (HRT.out _ P4.out.sv.ra P4.out.sv.rb).mono ?_
            rintro e w20 ⟨rfl, hb20⟩
            have PA := Lib.hid (P4.out.next hb20)
            clear hb20 x0 x1 x2 P4 HRT
            have x0 := PA.out.sv.at_.cell (j := 0) rfl
            go_wp2_with fail
            refine (HLC.out _ _ _ _ _ PA.out.sv.ra PA.out.want).mono ?_
            rintro e w21 ⟨rfl, hb21⟩
            have PB := Lib.hid (PA.out.next hb21)
            clear hb21 x0 PA HLC
            go_wp2_with fail
            go_loopw [69] (fun i wr => ∃ j : Nat, i = .int .i64 j ∧ j ≤ n ∧ PyAt w b0 us n A c B d Aw cw wr) (fun i _ => n - (intOf i).toNat)
            case atStart => exact ⟨0, rfl, Nat.zero_le _, PB.out⟩
            case round =>
              clear PB
              obtain ⟨j, rfl, hj, hPL⟩ := hrel
              have PC := Lib.hid hPL
              clear hPL
              by_cases hjn : j < n
              · obtain ⟨y, hy⟩ : ∃ y, us[j]? = some y := ⟨_, List.getElem?_eq_getElem (by rw [← HLEN.out]; exact hjn)⟩
                obtain ⟨bq, off, hA1, d0, d1⟩ := cell_row PC.out.want hy
                have hA1' := hA1
                subst hA1'
                have hji : (j : Int) < (n : Int) := by omega
                have hwj := wrapKO (k := j) (by have := HN64.out; omega)
                have HJN := Lib.hid hjn
                have HRD := Lib.hid (fun w' hA hB => ckRead us [] n 0 false HLEN.out rfl y.n (y.b, 0) (read_mem HOKK.out (List.mem_of_getElem? hy)).symm A c B d w' hA hB (by have := HN64.out; omega) (by omega))
                clear hy hjn hj
                obtain ⟨yn, yb⟩ := y
                simp only at d0 d1 HRD
                go_upto_region 21 with fail
                clear d0 d1
                have hbx := below_al (o := .cells #[.string (kS yn), .string (kS yb)] 43) (Below.refl wr.heap.size wr)
                have PD := Lib.hid (PC.out.next hbx)
                have LY := Lib.hid (Lies.new wr #[.string (kS yn), .string (kS yb)] 43)
                obtain ⟨b1, hb1⟩ : ∃ b, b = wr.heap.size := ⟨_, rfl⟩
                obtain ⟨W1, hW1⟩ : ∃ W, W = wr.alloc (.cells #[.string (kS yn), .string (kS yb)] 43) := ⟨_, rfl⟩
                rw [← hW1] at PD LY ⊢
                rw [← hb1] at LY ⊢
                clear hW1 hb1 hbx PC
                have x0 := PD.out.sv.at_.cell (j := 0) rfl; have x1 := PD.out.sv.at_.cell (j := 1) rfl; have x2 := PD.out.sv.at_.cell (j := 2) rfl
                have y0 := LY.out.cell (j := 0) rfl
                go_wp2_with fail
                refine (HRD.out _ PD.out.sv.ra PD.out.sv.rb).mono ?_
                rintro e w22 ⟨rfl, hb22⟩
                have PE := Lib.hid (PD.out.next hb22)
                have LZ := Lib.hid (LY.out.below hb22)
                clear hb22 x0 x1 x2 y0 PD LY HRD
                have y1 := LZ.out.cell (j := 1) rfl
                have hq : ((kS yb).toList == (kS yb).toList) = true := by simp
                go_wp2_with fail
                go_roundw
                case rel => exact ⟨j + 1, rfl, HJN.out, PE.out⟩
                case measure => simp [intOf]; have := HJN.out; omega
              · have hji : ¬ (j : Int) < (n : Int) := by omega
                go_wp2_with fail
                go_roundw
                case rel => exact ⟨k + 1, n, c, d, cw, A, B, Aw, us, rfl, rfl, HKM.out, PC.out⟩
                case measure => simp [intOf]; have := HKM.out; omega
    · have hki : ¬ (k : Int) < (N : Int) := by omega
      go_wp2_with fail
      refine (HAL.out _).mono ?_
      rintro e w2 ⟨rfl, hb2⟩
      have HB2 := Lib.hid (below_next PL.out.below hb2)
      clear hb2
      go_wp2_with fail
      go_ret
      exact ⟨rfl, HB2.out⟩
end So
end Go.Proofs.Ytpjgdpdgfchhkaa
