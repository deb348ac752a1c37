/- The walk of the law StoreDoes. -/
import Derived.Test.YtpjgdpdgfchhkaaStoreE
namespace Go.Proofs.Ytpjgdpdgfchhkaa
open Go.ChangeShapes Go.WideShapes Go.ChangeAt Go.RowKit
set_option linter.unusedVariables false
set_option maxRecDepth 8000
namespace So
open Gen (TellsB row_one flat_len flat_get)
/-- The law's blocks. -/
structure DoAt (w0 : World) (b0 b4 b5 b6 b7 : Nat) (s a f : Sr) (n m p q p2 q2 : Nat) (A : Option Addr) (c : Nat) (B : Option Addr) (d : Nat) (A4 : Option Addr) (c4 : Nat) (B4 : Option Addr) (d4 : Nat) (A5 : Option Addr) (c5 : Nat) (B5 : Option Addr) (d5 : Nat) (A6 : Option Addr) (c6 : Nat) (B6 : Option Addr) (d6 : Nat) (A7 : Option Addr) (c7 : Nat) (B7 : Option Addr) (d7 : Nat) (w : World) : Prop where
  s0 : SvAt b0 s n m A c B d w
  s4 : SvAt b4 a p q A4 c4 B4 d4 w
  s5 : SvAt b5 a p q A5 c5 B5 d5 w
  s6 : SvAt b6 f p2 q2 A6 c6 B6 d6 w
  s7 : SvAt b7 f p2 q2 A7 c7 B7 d7 w
  below : Below w0.heap.size w0 w
theorem DoAt.next {w0 : World} {b0 b4 b5 b6 b7 : Nat} {s a f : Sr} {n m p q p2 q2 : Nat} {A : Option Addr} {c : Nat} {B : Option Addr} {d : Nat} {A4 : Option Addr} {c4 : Nat} {B4 : Option Addr} {d4 : Nat} {A5 : Option Addr} {c5 : Nat} {B5 : Option Addr} {d5 : Nat} {A6 : Option Addr} {c6 : Nat} {B6 : Option Addr} {d6 : Nat} {A7 : Option Addr} {c7 : Nat} {B7 : Option Addr} {d7 : Nat} {w w' : World} (h : DoAt w0 b0 b4 b5 b6 b7 s a f n m p q p2 q2 A c B d A4 c4 B4 d4 A5 c5 B5 d5 A6 c6 B6 d6 A7 c7 B7 d7 w) (hb : Below w.heap.size w w') : DoAt w0 b0 b4 b5 b6 b7 s a f n m p q p2 q2 A c B d A4 c4 B4 d4 A5 c5 B5 d5 A6 c6 B6 d6 A7 c7 B7 d7 w' :=
  ⟨h.s0.next hb, h.s4.next hb, h.s5.next hb, h.s6.next hb, h.s7.next hb, below_next h.below hb⟩
theorem DoAt.cells {w0 : World} {b0 b4 b5 b6 b7 : Nat} {s a f : Sr} {n m p q p2 q2 : Nat} {A : Option Addr} {c : Nat} {B : Option Addr} {d : Nat} {A4 : Option Addr} {c4 : Nat} {B4 : Option Addr} {d4 : Nat} {A5 : Option Addr} {c5 : Nat} {B5 : Option Addr} {d5 : Nat} {A6 : Option Addr} {c6 : Nat} {B6 : Option Addr} {d6 : Nat} {A7 : Option Addr} {c7 : Nat} {B7 : Option Addr} {d7 : Nat} {w : World} (h : DoAt w0 b0 b4 b5 b6 b7 s a f n m p q p2 q2 A c B d A4 c4 B4 d4 A5 c5 B5 d5 A6 c6 B6 d6 A7 c7 B7 d7 w) : w.cell? ⟨b0, 0, none⟩ = some (.slice A n c) ∧ w.cell? ⟨b0, 1, none⟩ = some (.slice B m d) ∧ w.cell? ⟨b0, 2, none⟩ = some (.bool s.down) ∧ w.cell? ⟨b4, 0, none⟩ = some (.slice A4 p c4) ∧ w.cell? ⟨b4, 1, none⟩ = some (.slice B4 q d4) ∧ w.cell? ⟨b4, 2, none⟩ = some (.bool a.down) ∧ w.cell? ⟨b5, 0, none⟩ = some (.slice A5 p c5) ∧ w.cell? ⟨b5, 1, none⟩ = some (.slice B5 q d5) ∧ w.cell? ⟨b5, 2, none⟩ = some (.bool a.down) ∧ w.cell? ⟨b6, 0, none⟩ = some (.slice A6 p2 c6) ∧ w.cell? ⟨b6, 1, none⟩ = some (.slice B6 q2 d6) ∧ w.cell? ⟨b6, 2, none⟩ = some (.bool f.down) ∧ w.cell? ⟨b7, 0, none⟩ = some (.slice A7 p2 c7) ∧ w.cell? ⟨b7, 1, none⟩ = some (.slice B7 q2 d7) ∧ w.cell? ⟨b7, 2, none⟩ = some (.bool f.down) ∧ DoAt w0 b0 b4 b5 b6 b7 s a f n m p q p2 q2 A c B d A4 c4 B4 d4 A5 c5 B5 d5 A6 c6 B6 d6 A7 c7 B7 d7 w :=
  ⟨h.s0.at_.cell (j := 0) rfl, h.s0.at_.cell (j := 1) rfl, h.s0.at_.cell (j := 2) rfl, h.s4.at_.cell (j := 0) rfl, h.s4.at_.cell (j := 1) rfl, h.s4.at_.cell (j := 2) rfl, h.s5.at_.cell (j := 0) rfl, h.s5.at_.cell (j := 1) rfl, h.s5.at_.cell (j := 2) rfl, h.s6.at_.cell (j := 0) rfl, h.s6.at_.cell (j := 1) rfl, h.s6.at_.cell (j := 2) rfl, h.s7.at_.cell (j := 0) rfl, h.s7.at_.cell (j := 1) rfl, h.s7.at_.cell (j := 2) rfl, h⟩
theorem keepDo {w0 : World} {b0 b4 b5 b6 b7 : Nat} {s a f : Sr} {n m p q p2 q2 : Nat} {A : Option Addr} {c : Nat} {B : Option Addr} {d : Nat} {A4 : Option Addr} {c4 : Nat} {B4 : Option Addr} {d4 : Nat} {A5 : Option Addr} {c5 : Nat} {B5 : Option Addr} {d5 : Nat} {A6 : Option Addr} {c6 : Nat} {B6 : Option Addr} {d6 : Nat} {A7 : Option Addr} {c7 : Nat} {B7 : Option Addr} {d7 : Nat} {w w' : World} (hb : Below w.heap.size w w') (h : w.cell? ⟨b0, 0, none⟩ = some (.slice A n c) ∧ w.cell? ⟨b0, 1, none⟩ = some (.slice B m d) ∧ w.cell? ⟨b0, 2, none⟩ = some (.bool s.down) ∧ w.cell? ⟨b4, 0, none⟩ = some (.slice A4 p c4) ∧ w.cell? ⟨b4, 1, none⟩ = some (.slice B4 q d4) ∧ w.cell? ⟨b4, 2, none⟩ = some (.bool a.down) ∧ w.cell? ⟨b5, 0, none⟩ = some (.slice A5 p c5) ∧ w.cell? ⟨b5, 1, none⟩ = some (.slice B5 q d5) ∧ w.cell? ⟨b5, 2, none⟩ = some (.bool a.down) ∧ w.cell? ⟨b6, 0, none⟩ = some (.slice A6 p2 c6) ∧ w.cell? ⟨b6, 1, none⟩ = some (.slice B6 q2 d6) ∧ w.cell? ⟨b6, 2, none⟩ = some (.bool f.down) ∧ w.cell? ⟨b7, 0, none⟩ = some (.slice A7 p2 c7) ∧ w.cell? ⟨b7, 1, none⟩ = some (.slice B7 q2 d7) ∧ w.cell? ⟨b7, 2, none⟩ = some (.bool f.down) ∧ DoAt w0 b0 b4 b5 b6 b7 s a f n m p q p2 q2 A c B d A4 c4 B4 d4 A5 c5 B5 d5 A6 c6 B6 d6 A7 c7 B7 d7 w) : w'.cell? ⟨b0, 0, none⟩ = some (.slice A n c) ∧ w'.cell? ⟨b0, 1, none⟩ = some (.slice B m d) ∧ w'.cell? ⟨b0, 2, none⟩ = some (.bool s.down) ∧ w'.cell? ⟨b4, 0, none⟩ = some (.slice A4 p c4) ∧ w'.cell? ⟨b4, 1, none⟩ = some (.slice B4 q d4) ∧ w'.cell? ⟨b4, 2, none⟩ = some (.bool a.down) ∧ w'.cell? ⟨b5, 0, none⟩ = some (.slice A5 p c5) ∧ w'.cell? ⟨b5, 1, none⟩ = some (.slice B5 q d5) ∧ w'.cell? ⟨b5, 2, none⟩ = some (.bool a.down) ∧ w'.cell? ⟨b6, 0, none⟩ = some (.slice A6 p2 c6) ∧ w'.cell? ⟨b6, 1, none⟩ = some (.slice B6 q2 d6) ∧ w'.cell? ⟨b6, 2, none⟩ = some (.bool f.down) ∧ w'.cell? ⟨b7, 0, none⟩ = some (.slice A7 p2 c7) ∧ w'.cell? ⟨b7, 1, none⟩ = some (.slice B7 q2 d7) ∧ w'.cell? ⟨b7, 2, none⟩ = some (.bool f.down) ∧ DoAt w0 b0 b4 b5 b6 b7 s a f n m p q p2 q2 A c B d A4 c4 B4 d4 A5 c5 B5 d5 A6 c6 B6 d6 A7 c7 B7 d7 w' :=
  ⟨Gen.cell_below h.1 hb, Gen.cell_below h.2.1 hb, Gen.cell_below h.2.2.1 hb, Gen.cell_below h.2.2.2.1 hb, Gen.cell_below h.2.2.2.2.1 hb, Gen.cell_below h.2.2.2.2.2.1 hb, Gen.cell_below h.2.2.2.2.2.2.1 hb, Gen.cell_below h.2.2.2.2.2.2.2.1 hb, Gen.cell_below h.2.2.2.2.2.2.2.2.1 hb, Gen.cell_below h.2.2.2.2.2.2.2.2.2.1 hb, Gen.cell_below h.2.2.2.2.2.2.2.2.2.2.1 hb, Gen.cell_below h.2.2.2.2.2.2.2.2.2.2.2.1 hb, Gen.cell_below h.2.2.2.2.2.2.2.2.2.2.2.2.1 hb, Gen.cell_below h.2.2.2.2.2.2.2.2.2.2.2.2.2.1 hb, Gen.cell_below h.2.2.2.2.2.2.2.2.2.2.2.2.2.2.1 hb, h.2.2.2.2.2.2.2.2.2.2.2.2.2.2.2.next hb⟩
theorem doOf {w0 : World} {b0 b4 b5 b6 b7 : Nat} {s a f : Sr} {n m p q p2 q2 : Nat} {A : Option Addr} {c : Nat} {B : Option Addr} {d : Nat} {A4 : Option Addr} {c4 : Nat} {B4 : Option Addr} {d4 : Nat} {A5 : Option Addr} {c5 : Nat} {B5 : Option Addr} {d5 : Nat} {A6 : Option Addr} {c6 : Nat} {B6 : Option Addr} {d6 : Nat} {A7 : Option Addr} {c7 : Nat} {B7 : Option Addr} {d7 : Nat} {w : World} (h : w.cell? ⟨b0, 0, none⟩ = some (.slice A n c) ∧ w.cell? ⟨b0, 1, none⟩ = some (.slice B m d) ∧ w.cell? ⟨b0, 2, none⟩ = some (.bool s.down) ∧ w.cell? ⟨b4, 0, none⟩ = some (.slice A4 p c4) ∧ w.cell? ⟨b4, 1, none⟩ = some (.slice B4 q d4) ∧ w.cell? ⟨b4, 2, none⟩ = some (.bool a.down) ∧ w.cell? ⟨b5, 0, none⟩ = some (.slice A5 p c5) ∧ w.cell? ⟨b5, 1, none⟩ = some (.slice B5 q d5) ∧ w.cell? ⟨b5, 2, none⟩ = some (.bool a.down) ∧ w.cell? ⟨b6, 0, none⟩ = some (.slice A6 p2 c6) ∧ w.cell? ⟨b6, 1, none⟩ = some (.slice B6 q2 d6) ∧ w.cell? ⟨b6, 2, none⟩ = some (.bool f.down) ∧ w.cell? ⟨b7, 0, none⟩ = some (.slice A7 p2 c7) ∧ w.cell? ⟨b7, 1, none⟩ = some (.slice B7 q2 d7) ∧ w.cell? ⟨b7, 2, none⟩ = some (.bool f.down) ∧ DoAt w0 b0 b4 b5 b6 b7 s a f n m p q p2 q2 A c B d A4 c4 B4 d4 A5 c5 B5 d5 A6 c6 B6 d6 A7 c7 B7 d7 w) : DoAt w0 b0 b4 b5 b6 b7 s a f n m p q p2 q2 A c B d A4 c4 B4 d4 A5 c5 B5 d5 A6 c6 B6 d6 A7 c7 B7 d7 w := h.2.2.2.2.2.2.2.2.2.2.2.2.2.2.2
set_option maxRecDepth 100000 in
set_option maxHeartbeats 8000000 in
theorem walkDoes (cs fs : List Cl) (dn : Bool) (nm bs : List UInt8) (A : Option Addr) (c : Nat) (B : Option Addr) (d : Nat) (w : World) (hA : Row w A (clc cs)) (hB : Row w B (clc fs)) (hc : cs.length ≤ c) (hd : fs.length ≤ d) :
    Calls Try.prog 3 #[srV A cs.length c B fs.length d dn, .string (kS nm), .string (kS bs)] w (TellsB true w) := by
  obtain ⟨n, hn⟩ : ∃ n, n = cs.length := ⟨_, rfl⟩
  obtain ⟨m, hm⟩ : ∃ n, n = fs.length := ⟨_, rfl⟩
  rw [← hn] at hc ⊢
  rw [← hm] at hd ⊢
  obtain ⟨r, hr⟩ : ∃ r, r = (decide (n ≤ 100) && decide (m ≤ 100)) := ⟨_, rfl⟩
  obtain ⟨k, hk⟩ : ∃ k, k = rightS ⟨cs, fs, dn⟩ := ⟨_, rfl⟩
  obtain ⟨o, ho⟩ : ∃ o, o = writeO ⟨cs, fs, dn⟩ nm bs := ⟨_, rfl⟩
  obtain ⟨p, hp⟩ : ∃ p, p = o.1.cells.length := ⟨_, rfl⟩
  obtain ⟨q, hq⟩ : ∃ q, q = o.1.fresh.length := ⟨_, rfl⟩
  obtain ⟨o2, ho2⟩ : ∃ o, o = commitO ⟨cs, fs, dn⟩ := ⟨_, rfl⟩
  obtain ⟨p2, hp2⟩ : ∃ p, p = o2.1.cells.length := ⟨_, rfl⟩
  obtain ⟨q2, hq2⟩ : ∃ q, q = o2.1.fresh.length := ⟨_, rfl⟩
  obtain ⟨o3, ho3⟩ : ∃ o, o = readO ⟨cs, fs, dn⟩ nm := ⟨_, rfl⟩
  have HS := Lib.hid (fun w' => lawSmall A n c B m d dn r hr w')
  have HAL := Lib.hid (fun w' => lawAlive w')
  have HRS : Hid (r = true → n ≤ 100 ∧ m ≤ 100) := Lib.hid (fun h => by rw [hr, Bool.and_eq_true] at h; exact ⟨of_decide_eq_true h.1, of_decide_eq_true h.2⟩)
  have HRT := Lib.hid (fun (h1 : n ≤ 100 ∧ m ≤ 100) w' (hA : Row w' A (clc cs)) (hB : Row w' B (clc fs)) => ckRight cs fs n m dn k hn hm hk A c B d w' hA hB (by omega) (by omega))
  have HRF := Lib.hid (fun (h1 : n ≤ 100 ∧ m ≤ 100) w' (hA : Row w' A (clc cs)) (hB : Row w' B (clc fs)) => rfRight cs fs n m dn k hn hm hk A c B d w' hA hB (by omega) (by omega))
  have HW1 := Lib.hid (fun (h1 : n ≤ 100 ∧ m ≤ 100) w' (hA : Row w' A (clc cs)) (hB : Row w' B (clc fs)) => ckWrite cs fs n m dn hn hm nm bs o ho p q hp hq A c B d w' hA hB hc (by omega) (by omega))
  have HW2 := Lib.hid (fun (h1 : n ≤ 100 ∧ m ≤ 100) w' (hA : Row w' A (clc cs)) (hB : Row w' B (clc fs)) => rfWrite cs fs n m dn hn hm nm bs o ho p q hp hq A c B d w' hA hB hc (by omega) (by omega))
  have HC1 := Lib.hid (fun (h1 : n ≤ 100 ∧ m ≤ 100) w' (hA : Row w' A (clc cs)) (hB : Row w' B (clc fs)) => ckCommit cs fs n m dn hn hm o2 ho2 p2 q2 hp2 hq2 A c B d w' hA hB hc (by omega))
  have HC2 := Lib.hid (fun (h1 : n ≤ 100 ∧ m ≤ 100) w' (hA : Row w' A (clc cs)) (hB : Row w' B (clc fs)) => rfCommit cs fs n m dn hn hm o2 ho2 p2 q2 hp2 hq2 A c B d w' hA hB hc (by omega))
  have HD1 := Lib.hid (fun (h1 : n ≤ 100 ∧ m ≤ 100) w' (hA : Row w' A (clc cs)) (hB : Row w' B (clc fs)) => ckRead cs fs n m dn hn hm nm o3 ho3 A c B d w' hA hB (by omega) (by omega))
  have HD2 := Lib.hid (fun (h1 : n ≤ 100 ∧ m ≤ 100) w' (hA : Row w' A (clc cs)) (hB : Row w' B (clc fs)) => rfRead cs fs n m dn hn hm nm o3 ho3 A c B d w' hA hB (by omega) (by omega))
  have HST := Lib.hid (fun (h1 : n ≤ 100 ∧ m ≤ 100) o ho p q hp hq w' (hA : Row w' A (clc cs)) (hB : Row w' B (clc fs)) => ckStart cs fs n m dn hn hm o ho p q hp hq A c B d w' hA hB hc (by omega) (by omega))
  have HLK := Lib.hid (fun (h1 : n ≤ 100 ∧ m ≤ 100) A B A' B' c d c' d' w' => rfLikeS o.1 p q hp hq (by have := write_len (s := ⟨cs, fs, dn⟩) nm bs (by rw [← hn, ← hm]; exact h1); rw [hp, ho]; omega) (by have := write_len (s := ⟨cs, fs, dn⟩) nm bs (by rw [← hn, ← hm]; exact h1); rw [hq, ho]; omega) A B A' B' c d c' d' w')
  have HLK2 := Lib.hid (fun A B A' B' c d c' d' w' => rfLikeS o2.1 p2 q2 hp2 hq2 (by have := commit_len ⟨cs, fs, dn⟩; rw [hp2, ho2]; omega) (by have := commit_len ⟨cs, fs, dn⟩; rw [hq2, ho2]; omega) A B A' B' c d c' d' w')
  have HB := Lib.hid (below_al (o := .cells #[.slice A n c, .slice B m d, .bool dn] 24) (Below.refl w.heap.size w))
  have S0 := Lib.hid (SvAt.new (s := ⟨cs, fs, dn⟩) (p := n) (q := m) (c := c) (d := d) hA hB)
  have HK := Lib.hid hk
  have HN := Lib.hid hn
  clear hA hB hn hm hr hk hc hd ho ho2 ho3 hp hq hp2 hq2
  go_enter Try.func3, Try.ntmps3
  go_upto_region 1 with fail
  obtain ⟨b0, hb0⟩ : ∃ b, b = w.heap.size := ⟨_, rfl⟩
  obtain ⟨W, hW⟩ : ∃ W, W = w.alloc (.cells #[.slice A n c, .slice B m d, .bool dn] 24) := ⟨_, rfl⟩
  try simp only at S0
  rw [← hW] at S0 HB ⊢
  rw [← hb0] at S0 ⊢
  clear hW hb0
  have x0 := S0.out.at_.cell (j := 0) rfl; have x1 := S0.out.at_.cell (j := 1) rfl; have x2 := S0.out.at_.cell (j := 2) rfl
  go_wp2_with fail
  refine (HS.out _).mono ?_
  rintro e w1 ⟨rfl, hb1⟩
  have HB1 := Lib.hid (below_next HB.out hb1)
  have S1 := Lib.hid (S0.out.next hb1)
  clear hb1 S0 HB
  clear x0 x1 x2
  cases r
  · go_wp2_with fail
    go_ret
    exact ⟨rfl, HB1.out⟩
  · have HN1 : Hid (n ≤ 100 ∧ m ≤ 100) := Lib.hid (HRS.out (by trivial))
    obtain ⟨⟨us, vs, dn2⟩, z⟩ := o
    obtain ⟨⟨us2, vs2, dn3⟩, z2⟩ := o2
    obtain ⟨rb, rz⟩ := o3
    have x0 := S1.out.at_.cell (j := 0) rfl; have x1 := S1.out.at_.cell (j := 1) rfl; have x2 := S1.out.at_.cell (j := 2) rfl
    go_wp2_with fail
    refine (HW1.out HN1.out _ S1.out.ra S1.out.rb).mono ?_
    rintro e w4 ⟨A4, c4, B4, d4, rfl, r1, r2, h1, h2, hb2⟩
    have hbk := below_next hb2 (below_al (o := (.cells #[.slice A4 p c4, .slice B4 q d4, .bool dn2] 24)) (Below.refl w4.heap.size w4))
    have HB4 := Lib.hid (below_next HB1.out hbk)
    have S4 := Lib.hid (S1.out.next hbk)
    have T4 := Lib.hid (SvAt.new (s := ⟨us, vs, dn2⟩) (p := p) (q := q) (c := c4) (d := d4) r1 r2)
    have P4 := Lib.hid h1
    have Q4 := Lib.hid h2
    clear hb2 hbk r1 r2 h1 h2 S1 HB1
    clear x0 x1 x2
    go_upto_region 4 with fail
    obtain ⟨b4, hb4⟩ : ∃ b, b = w4.heap.size := ⟨_, rfl⟩
    obtain ⟨W4, hW4⟩ : ∃ W, W = w4.alloc (.cells #[.slice A4 p c4, .slice B4 q d4, .bool dn2] 24) := ⟨_, rfl⟩
    try simp only at T4
    rw [← hW4] at T4 S4 HB4 ⊢
    rw [← hb4] at T4 ⊢
    clear hW4 hb4
    have x0 := S4.out.at_.cell (j := 0) rfl; have x1 := S4.out.at_.cell (j := 1) rfl; have x2 := S4.out.at_.cell (j := 2) rfl
    go_wp2_with fail
    refine (HW2.out HN1.out _ S4.out.ra S4.out.rb).mono ?_
    rintro e w5 ⟨A5, c5, B5, d5, rfl, r1, r2, h1, h2, hb2⟩
    have hbk := below_next hb2 (below_al (o := (.cells #[.slice A5 p c5, .slice B5 q d5, .bool dn2] 24)) (Below.refl w5.heap.size w5))
    have HB5 := Lib.hid (below_next HB4.out hbk)
    have S5 := Lib.hid (S4.out.next hbk)
    have T5 := Lib.hid (T4.out.next hbk)
    have U5 := Lib.hid (SvAt.new (s := ⟨us, vs, dn2⟩) (p := p) (q := q) (c := c5) (d := d5) r1 r2)
    have P5 := Lib.hid h1
    have Q5 := Lib.hid h2
    clear hb2 hbk r1 r2 h1 h2 S4 T4 HB4
    clear x0 x1 x2
    go_upto_region 5 with fail
    obtain ⟨b5, hb5⟩ : ∃ b, b = w5.heap.size := ⟨_, rfl⟩
    obtain ⟨W5, hW5⟩ : ∃ W, W = w5.alloc (.cells #[.slice A5 p c5, .slice B5 q d5, .bool dn2] 24) := ⟨_, rfl⟩
    try simp only at U5
    rw [← hW5] at U5 S5 T5 HB5 ⊢
    rw [← hb5] at U5 ⊢
    clear hW5 hb5
    have x0 := S5.out.at_.cell (j := 0) rfl; have x1 := S5.out.at_.cell (j := 1) rfl; have x2 := S5.out.at_.cell (j := 2) rfl
    go_wp2_with fail
    refine (HC1.out HN1.out _ S5.out.ra S5.out.rb).mono ?_
    rintro e w6 ⟨A6, c6, B6, d6, rfl, r1, r2, h1, h2, hb2⟩
    have hbk := below_next hb2 (below_al (o := (.cells #[.slice A6 p2 c6, .slice B6 q2 d6, .bool dn3] 24)) (Below.refl w6.heap.size w6))
    have HB6 := Lib.hid (below_next HB5.out hbk)
    have S6 := Lib.hid (S5.out.next hbk)
    have T6 := Lib.hid (T5.out.next hbk)
    have U6 := Lib.hid (U5.out.next hbk)
    have V6 := Lib.hid (SvAt.new (s := ⟨us2, vs2, dn3⟩) (p := p2) (q := q2) (c := c6) (d := d6) r1 r2)
    have P6 := Lib.hid h1
    have Q6 := Lib.hid h2
    clear hb2 hbk r1 r2 h1 h2 S5 T5 U5 HB5
    clear x0 x1 x2
    go_upto_region 6 with fail
    obtain ⟨b6, hb6⟩ : ∃ b, b = w6.heap.size := ⟨_, rfl⟩
    obtain ⟨W6, hW6⟩ : ∃ W, W = w6.alloc (.cells #[.slice A6 p2 c6, .slice B6 q2 d6, .bool dn3] 24) := ⟨_, rfl⟩
    try simp only at V6
    rw [← hW6] at V6 S6 T6 U6 HB6 ⊢
    rw [← hb6] at V6 ⊢
    clear hW6 hb6
    have x0 := S6.out.at_.cell (j := 0) rfl; have x1 := S6.out.at_.cell (j := 1) rfl; have x2 := S6.out.at_.cell (j := 2) rfl
    go_wp2_with fail
    refine (HC2.out HN1.out _ S6.out.ra S6.out.rb).mono ?_
    rintro e w7 ⟨A7, c7, B7, d7, rfl, r1, r2, h1, h2, hb2⟩
    have hbk := below_next hb2 (below_al (o := (.cells #[.slice A7 p2 c7, .slice B7 q2 d7, .bool dn3] 24)) (Below.refl w7.heap.size w7))
    have HB7 := Lib.hid (below_next HB6.out hbk)
    have S7 := Lib.hid (S6.out.next hbk)
    have T7 := Lib.hid (T6.out.next hbk)
    have U7 := Lib.hid (U6.out.next hbk)
    have V7 := Lib.hid (V6.out.next hbk)
    have X7 := Lib.hid (SvAt.new (s := ⟨us2, vs2, dn3⟩) (p := p2) (q := q2) (c := c7) (d := d7) r1 r2)
    have P7 := Lib.hid h1
    have Q7 := Lib.hid h2
    clear hb2 hbk r1 r2 h1 h2 S6 T6 U6 V6 HB6
    clear x0 x1 x2
    go_upto_region 7 with fail
    obtain ⟨b7, hb7⟩ : ∃ b, b = w7.heap.size := ⟨_, rfl⟩
    obtain ⟨W7, hW7⟩ : ∃ W, W = w7.alloc (.cells #[.slice A7 p2 c7, .slice B7 q2 d7, .bool dn3] 24) := ⟨_, rfl⟩
    try simp only at X7
    rw [← hW7] at X7 S7 T7 U7 V7 HB7 ⊢
    rw [← hb7] at X7 ⊢
    clear hW7 hb7
    have K7 : Hid (DoAt w b0 b4 b5 b6 b7 ⟨cs, fs, dn⟩ ⟨us, vs, dn2⟩ ⟨us2, vs2, dn3⟩ n m p q p2 q2 A c B d A4 c4 B4 d4 A5 c5 B5 d5 A6 c6 B6 d6 A7 c7 B7 d7 W7) := Lib.hid ⟨S7.out, T7.out, U7.out, V7.out, X7.out, HB7.out⟩
    clear S7 T7 U7 V7 X7 HB7
    have x0 := K7.out.s0.at_.cell (j := 0) rfl; have x1 := K7.out.s0.at_.cell (j := 1) rfl; have x2 := K7.out.s0.at_.cell (j := 2) rfl
    go_wp2_with fail
    refine (HD1.out HN1.out _ K7.out.s0.ra K7.out.s0.rb).mono ?_
    rintro e w8 ⟨rfl, hb8⟩
    have K8 := Lib.hid (K7.out.next hb8)
    clear hb8 x0 x1 x2 K7
    have x0 := K8.out.s0.at_.cell (j := 0) rfl; have x1 := K8.out.s0.at_.cell (j := 1) rfl; have x2 := K8.out.s0.at_.cell (j := 2) rfl
    go_wp2_with fail
    refine (HD2.out HN1.out _ K8.out.s0.ra K8.out.s0.rb).mono ?_
    rintro e w9 ⟨rfl, hb9⟩
    have K9 := Lib.hid (K8.out.next hb9)
    clear hb9 x0 x1 x2 K8 HW1 HW2 HC1 HC2 HD1 HD2
    have hq : ((kS rb).toList == (kS rb).toList) = true := by simp
    have HLIKE : Hid (∀ w5, DoAt w b0 b4 b5 b6 b7 ⟨cs, fs, dn⟩ ⟨us, vs, dn2⟩ ⟨us2, vs2, dn3⟩ n m p q p2 q2 A c B d A4 c4 B4 d4 A5 c5 B5 d5 A6 c6 B6 d6 A7 c7 B7 d7 w5 → ∀ a b : Value, (a = .agg #[.slice A4 p c4, .slice B4 q d4, .bool dn2] ∧ b = .agg #[.slice A5 p c5, .slice B5 q d5, .bool dn2]) ∨ (a = .agg #[.slice A6 p2 c6, .slice B6 q2 d6, .bool dn3] ∧ b = .agg #[.slice A7 p2 c7, .slice B7 q2 d7, .bool dn3]) → Calls Try.prog 19 #[a, b] w5 (TellsB true w5)) := Lib.hid (by
      intro w5 h5 a b hab
      rcases hab with ⟨rfl, rfl⟩ | ⟨rfl, rfl⟩
      · exact HLK.out HN1.out _ _ _ _ _ _ _ _ _ h5.s4.ra h5.s4.rb h5.s5.ra h5.s5.rb
      · exact HLK2.out _ _ _ _ _ _ _ _ _ h5.s6.ra h5.s6.rb h5.s7.ra h5.s7.rb)
    clear HLK HLK2
    go_upto_region 9 with fail
    have KD := Lib.hid (K9.out.next (below_drewOf (Below.refl _ _)))
    go_wp2_with fail
    have S0 := KD.out.cells
    clear KD K9
    go_region_held3 (fun w' => w'.cell? ⟨b0, 0, none⟩ = some (.slice A n c) ∧ w'.cell? ⟨b0, 1, none⟩ = some (.slice B m d) ∧ w'.cell? ⟨b0, 2, none⟩ = some (.bool dn) ∧ w'.cell? ⟨b4, 0, none⟩ = some (.slice A4 p c4) ∧ w'.cell? ⟨b4, 1, none⟩ = some (.slice B4 q d4) ∧ w'.cell? ⟨b4, 2, none⟩ = some (.bool dn2) ∧ w'.cell? ⟨b5, 0, none⟩ = some (.slice A5 p c5) ∧ w'.cell? ⟨b5, 1, none⟩ = some (.slice B5 q d5) ∧ w'.cell? ⟨b5, 2, none⟩ = some (.bool dn2) ∧ w'.cell? ⟨b6, 0, none⟩ = some (.slice A6 p2 c6) ∧ w'.cell? ⟨b6, 1, none⟩ = some (.slice B6 q2 d6) ∧ w'.cell? ⟨b6, 2, none⟩ = some (.bool dn3) ∧ w'.cell? ⟨b7, 0, none⟩ = some (.slice A7 p2 c7) ∧ w'.cell? ⟨b7, 1, none⟩ = some (.slice B7 q2 d7) ∧ w'.cell? ⟨b7, 2, none⟩ = some (.bool dn3) ∧ DoAt w b0 b4 b5 b6 b7 ⟨cs, fs, dn⟩ ⟨us, vs, dn2⟩ ⟨us2, vs2, dn3⟩ n m p q p2 q2 A c B d A4 c4 B4 d4 A5 c5 B5 d5 A6 c6 B6 d6 A7 c7 B7 d7 w')
      (first | with_reducible assumption | ((with_reducible refine keepDo (s := ⟨cs, fs, dn⟩) (a := ⟨us, vs, dn2⟩) (f := ⟨us2, vs2, dn3⟩) hb5 ?_); with_reducible assumption))
      (first
      | (go_at_call 16
         refine (HAL.out _).mono ?_
         rintro e5 w5 ⟨rfl, hb5⟩
         dsimp only)
      | (go_at_call 17
         have HW9 := Lib.hid (doOf (s := ⟨cs, fs, dn⟩) (a := ⟨us, vs, dn2⟩) (f := ⟨us2, vs2, dn3⟩) (by with_reducible assumption))
         refine (HRT.out HN1.out _ HW9.out.s0.ra HW9.out.s0.rb).mono ?_
         clear HW9
         rintro e5 w5 ⟨rfl, hb5⟩
         dsimp only)
      | (go_at_call 18
         have HW9 := Lib.hid (doOf (s := ⟨cs, fs, dn⟩) (a := ⟨us, vs, dn2⟩) (f := ⟨us2, vs2, dn3⟩) (by with_reducible assumption))
         refine (HRF.out HN1.out _ HW9.out.s0.ra HW9.out.s0.rb).mono ?_
         clear HW9
         rintro e5 w5 ⟨rfl, hb5⟩
         dsimp only)
      | (go_at_call 19
         have HW9 := Lib.hid (doOf (s := ⟨cs, fs, dn⟩) (a := ⟨us, vs, dn2⟩) (f := ⟨us2, vs2, dn3⟩) (by with_reducible assumption))
         refine (HLIKE.out _ HW9.out _ _ (by first | (with_reducible exact .inl ⟨rfl, rfl⟩) | (with_reducible exact .inr ⟨rfl, rfl⟩))).mono ?_
         rintro e5 w5 ⟨rfl, hb5⟩
         (try clear K5)
         have K5 := Lib.hid (HW9.out.next hb5)
         clear HW9
         dsimp only))
    all_goals (
      have x0 := K5.out.s0.at_.cell (j := 0) rfl; have x1 := K5.out.s0.at_.cell (j := 1) rfl; have x2 := K5.out.s0.at_.cell (j := 2) rfl
      cases k
      · have HS1 := Lib.hid (HST.out HN1.out (⟨[], [], false⟩, 1) (by unfold startO; rw [← HK.out, if_pos rfl]; rfl) 0 0 rfl rfl)
        have HL1 := Lib.hid (fun A B A' B' c d c' d' w' => rfLikeS ⟨[], [], false⟩ 0 0 rfl rfl (by have := HN1.out; omega) (by omega) A B A' B' c d c' d' w')
        have S5 : Hid (SvAt b0 ⟨cs, fs, dn⟩ n m A c B d _) := Lib.hid K5.out.s0
        have HB5 := Lib.hid K5.out.below
        clear x0 x1 x2 K5
        have x0 := S5.out.at_.cell (j := 0) rfl; have x1 := S5.out.at_.cell (j := 1) rfl; have x2 := S5.out.at_.cell (j := 2) rfl
        go_wp2_with fail
        refine (HS1.out _ S5.out.ra S5.out.rb).mono ?_
        rintro e w20 ⟨A20, c20, B20, d20, rfl, r1, r2, h1, h2, hb2⟩
        have hbk := below_next hb2 (below_al (o := (.cells #[.slice A20 0 c20, .slice B20 0 d20, .bool false] 24)) (Below.refl w20.heap.size w20))
        have HB20 := Lib.hid (below_next HB5.out hbk)
        have S20 := Lib.hid (S5.out.next hbk)
        have T20 := Lib.hid (SvAt.new (s := ⟨[], [], false⟩) (p := 0) (q := 0) (c := c20) (d := d20) r1 r2)
        have P20 := Lib.hid h1
        have Q20 := Lib.hid h2
        clear hb2 hbk r1 r2 h1 h2 S5 HB5
        clear x0 x1 x2
        go_upto_region 12 with fail
        obtain ⟨b20, hb20⟩ : ∃ b, b = w20.heap.size := ⟨_, rfl⟩
        obtain ⟨W20, hW20⟩ : ∃ W, W = w20.alloc (.cells #[.slice A20 0 c20, .slice B20 0 d20, .bool false] 24) := ⟨_, rfl⟩
        try simp only at T20
        rw [← hW20] at T20 S20 HB20 ⊢
        rw [← hb20] at T20 ⊢
        clear hW20 hb20
        have x0 := S20.out.at_.cell (j := 0) rfl; have x1 := S20.out.at_.cell (j := 1) rfl; have x2 := S20.out.at_.cell (j := 2) rfl
        go_wp2_with fail
        refine (HRF.out HN1.out _ S20.out.ra S20.out.rb).mono ?_
        rintro e w21 ⟨rfl, hb21⟩
        have HB21 := Lib.hid (below_next HB20.out hb21)
        have S21 := Lib.hid (S20.out.next hb21)
        have T21 := Lib.hid (T20.out.next hb21)
        clear hb21 S20 T20 HB20
        clear x0 x1 x2
        have x0 := T21.out.at_.cell (j := 0) rfl; have x1 := T21.out.at_.cell (j := 1) rfl; have x2 := T21.out.at_.cell (j := 2) rfl
        go_wp2_with fail
        refine (HL1.out _ _ _ _ _ _ _ _ _ T21.out.ra T21.out.rb (.inl rfl) (.inl rfl)).mono ?_
        rintro e w22 ⟨rfl, hb22⟩
        have HB22 := Lib.hid (below_next HB21.out hb22)
        clear hb22  HB21
        clear x0 x1 x2
        go_wp2_with fail
        go_ret
        exact ⟨rfl, HB22.out⟩
      · have HS1 := Lib.hid (HST.out HN1.out (⟨cs, [], false⟩, 0) (by unfold startO; rw [← HK.out, if_neg (by simp)]) n 0 HN.out rfl)
        have HL1 := Lib.hid (fun A B A' B' c d c' d' w' => rfLikeS ⟨cs, [], false⟩ n 0 HN.out rfl (by have := HN1.out; omega) (by omega) A B A' B' c d c' d' w')
        have S5 : Hid (SvAt b0 ⟨cs, fs, dn⟩ n m A c B d _) := Lib.hid K5.out.s0
        have HB5 := Lib.hid K5.out.below
        clear x0 x1 x2 K5
        have x0 := S5.out.at_.cell (j := 0) rfl; have x1 := S5.out.at_.cell (j := 1) rfl; have x2 := S5.out.at_.cell (j := 2) rfl
        go_wp2_with fail
        refine (HS1.out _ S5.out.ra S5.out.rb).mono ?_
        rintro e w20 ⟨A20, c20, B20, d20, rfl, r1, r2, h1, h2, hb2⟩
        have hbk := below_next hb2 (below_al (o := (.cells #[.slice A20 n c20, .slice B20 0 d20, .bool false] 24)) (Below.refl w20.heap.size w20))
        have HB20 := Lib.hid (below_next HB5.out hbk)
        have S20 := Lib.hid (S5.out.next hbk)
        have T20 := Lib.hid (SvAt.new (s := ⟨cs, [], false⟩) (p := n) (q := 0) (c := c20) (d := d20) r1 r2)
        have P20 := Lib.hid h1
        have Q20 := Lib.hid h2
        clear hb2 hbk r1 r2 h1 h2 S5 HB5
        clear x0 x1 x2
        go_upto_region 12 with fail
        obtain ⟨b20, hb20⟩ : ∃ b, b = w20.heap.size := ⟨_, rfl⟩
        obtain ⟨W20, hW20⟩ : ∃ W, W = w20.alloc (.cells #[.slice A20 n c20, .slice B20 0 d20, .bool false] 24) := ⟨_, rfl⟩
        try simp only at T20
        rw [← hW20] at T20 S20 HB20 ⊢
        rw [← hb20] at T20 ⊢
        clear hW20 hb20
        have x0 := S20.out.at_.cell (j := 0) rfl; have x1 := S20.out.at_.cell (j := 1) rfl; have x2 := S20.out.at_.cell (j := 2) rfl
        go_wp2_with fail
        refine (HRF.out HN1.out _ S20.out.ra S20.out.rb).mono ?_
        rintro e w21 ⟨rfl, hb21⟩
        have HB21 := Lib.hid (below_next HB20.out hb21)
        have S21 := Lib.hid (S20.out.next hb21)
        have T21 := Lib.hid (T20.out.next hb21)
        clear hb21 S20 T20 HB20
        clear x0 x1 x2
        have y0 := S21.out.at_.cell (j := 0) rfl
        have x0 := T21.out.at_.cell (j := 0) rfl; have x1 := T21.out.at_.cell (j := 1) rfl; have x2 := T21.out.at_.cell (j := 2) rfl
        go_wp2_with fail
        refine (HL1.out _ _ _ _ _ _ _ _ _ T21.out.ra T21.out.rb S21.out.ra (.inl rfl)).mono ?_
        rintro e w22 ⟨rfl, hb22⟩
        have HB22 := Lib.hid (below_next HB21.out hb22)
        clear hb22  HB21
        clear x0 x1 x2
        go_wp2_with fail
        go_ret
        exact ⟨rfl, HB22.out⟩)
end So
end Go.Proofs.Ytpjgdpdgfchhkaa
