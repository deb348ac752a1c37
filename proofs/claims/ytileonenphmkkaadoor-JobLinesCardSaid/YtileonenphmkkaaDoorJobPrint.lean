/- Print of the code. -/
import Derived.Test.YtileonenphmkkaaDoorJobFmt
import Derived.Test.YtileonenphmkkaaDoorJobBack
import Derived.Test.YtileonenphmkkaaDoorStill
namespace Go.Proofs.YtileonenphmkkaaDoor
open Go.RowKit
set_option linter.unusedVariables false
set_option maxRecDepth 8000
namespace Jo
open Gen
open Go.Lib (decDigits)
theorem dec_len {n : Nat} (h : n ≤ 9223372036854775807) : (decDigits n).length ≤ 20 := by
  rw [Lib.decDigits_length]
  rcases Nat.lt_or_ge 20 (Lib.nDigits n) with h2 | h2
  · exfalso
    have key : ∀ (u : Nat), 1 ≤ u → 10 ^ (Lib.nDigits u - 1) ≤ u := by
      intro u
      induction u using Nat.strongRecOn with
      | _ u ih =>
        intro hu
        by_cases h : u < 10
        · rw [Lib.nDigits_small h]; simpa using hu
        · rw [Lib.nDigits_big h, Nat.add_sub_cancel]
          have h1 := ih (u / 10) (by omega) (by omega)
          have h3 := Lib.nDigits_pos (u / 10)
          have e : 10 ^ Lib.nDigits (u / 10) = 10 ^ (Lib.nDigits (u / 10) - 1) * 10 := by
            rw [← Nat.pow_succ]; congr 1; omega
          omega
    have h1 : 1 ≤ n := by
      rcases Nat.eq_zero_or_pos n with h0 | h0
      · subst h0; rw [Lib.nDigits_small (by omega)] at h2; omega
      · exact h0
    have h3 := key n h1
    have h4 : (10 : Nat) ^ 20 ≤ 10 ^ (Lib.nDigits n - 1) := Nat.pow_le_pow_right (by omega) (by omega)
    have h5 : (10 : Nat) ^ 20 = 100000000000000000000 := by decide
    omega
  · exact h2
theorem lies_flds2 {b : Nat} {x y : List UInt8} {T : TypeId} {w : World} (h : Lies b #[strv x, strv y] T w) : Flds w b [x, y] := by
  intro j z hz
  match j, hz with
  | 0, hz => cases hz; exact h.cell (j := 0) rfl
  | 1, hz => cases hz; exact h.cell (j := 1) rfl
theorem lies_flds3 {b : Nat} {x y z : List UInt8} {T : TypeId} {w : World} (h : Lies b #[strv x, strv y, strv z] T w) : Flds w b [x, y, z] := by
  intro j u hu
  match j, hu with
  | 0, hu => cases hu; exact h.cell (j := 0) rfl
  | 1, hu => cases hu; exact h.cell (j := 1) rfl
  | 2, hu => cases hu; exact h.cell (j := 2) rfl
theorem join_len2 (x y : List UInt8) : (Lib.join [x, y] [32]).length = x.length + 1 + y.length := by
  unfold Lib.join
  simp [List.intercalate, List.intersperse]
  omega
theorem join_len3 (x y z : List UInt8) : (Lib.join [x, y, z] [32]).length = x.length + 1 + y.length + 1 + z.length := by
  unfold Lib.join
  simp [List.intercalate, List.intersperse]
  omega
theorem jPr2 (x y t : List UInt8) (ht : t = joined [x, y]) (hx : x.length ≤ 20) (hy : y.length ≤ 20) (b : Nat) (w : World) (h : Lies b #[strv x, strv y] 9 w) :
    Calls Tryd.prog 17 #[.slice (some ⟨b, 0, none⟩) 2 2] w (GivesS t w) :=
  ht ▸ jPrinted b 2 [x, y] w (lies_flds2 h) (lt_of_block h) (by simp) (by simp) (by rw [join_len2]; omega)
theorem jPr3 (x y z t : List UInt8) (ht : t = joined [x, y, z]) (hx : x.length ≤ 20) (hy : y.length ≤ 20) (hz : z.length ≤ 20) (b : Nat) (w : World) (h : Lies b #[strv x, strv y, strv z] 9 w) :
    Calls Tryd.prog 17 #[.slice (some ⟨b, 0, none⟩) 3 3] w (GivesS t w) :=
  ht ▸ jPrinted b 3 [x, y, z] w (lies_flds3 h) (lt_of_block h) (by simp) (by simp) (by rw [join_len3]; omega)
/-- What Print hands back. -/
def PrintR (j : Jb) (w : World) (e : Ending) (w' : World) : Prop :=
  e = .returned (.tuple #[strv (if right j then text j else []), .int .i64 (if right j then 0 else 130)]) ∧ Below w.heap.size w w'
theorem jPrint_bad (j : Jb) (hr : right j = false) (w : World) : Calls Tryd.prog 8 #[jbV j] w (PrintR j w) := by
  have HR := Lib.hid (fun w => hr ▸ jRight j w)
  unfold PrintR
  rw [hr]
  clear hr
  go_enter Tryd.func8, Tryd.ntmps8
  go_wp2_with fail
  refine (HR.out _).mono ?_
  rintro e w1 ⟨rfl, hb⟩
  have HB := Lib.hid (below_next (below_al (Below.refl _ _)) hb)
  clear hb
  go_wp2_with fail
  go_ret2
  exact ⟨rfl, HB.out⟩
theorem name_len8 (k : Nat) : (name k).length ≤ 8 := by
  unfold name
  split <;> simp
theorem keep9 {w x y : World} {g a b k f l d i : Nat} (h : Tb x ∧ x.cell? ⟨w.heap.size, 0, none⟩ = some (.int .i64 (g : Int)) ∧ x.cell? ⟨w.heap.size, 1, none⟩ = some (.int .i64 (a : Int)) ∧ x.cell? ⟨w.heap.size, 2, none⟩ = some (.int .i64 (b : Int)) ∧ x.cell? ⟨w.heap.size, 3, none⟩ = some (.int .i64 (k : Int)) ∧ x.cell? ⟨w.heap.size, 4, none⟩ = some (.int .i64 (f : Int)) ∧ x.cell? ⟨w.heap.size, 5, none⟩ = some (.int .i64 (l : Int)) ∧ x.cell? ⟨w.heap.size, 6, none⟩ = some (.int .i64 (d : Int)) ∧ x.cell? ⟨w.heap.size, 7, none⟩ = some (.int .i64 (i : Int)) ∧ Below w.heap.size w x) (hb : Below x.heap.size x y) : Tb y ∧ y.cell? ⟨w.heap.size, 0, none⟩ = some (.int .i64 (g : Int)) ∧ y.cell? ⟨w.heap.size, 1, none⟩ = some (.int .i64 (a : Int)) ∧ y.cell? ⟨w.heap.size, 2, none⟩ = some (.int .i64 (b : Int)) ∧ y.cell? ⟨w.heap.size, 3, none⟩ = some (.int .i64 (k : Int)) ∧ y.cell? ⟨w.heap.size, 4, none⟩ = some (.int .i64 (f : Int)) ∧ y.cell? ⟨w.heap.size, 5, none⟩ = some (.int .i64 (l : Int)) ∧ y.cell? ⟨w.heap.size, 6, none⟩ = some (.int .i64 (d : Int)) ∧ y.cell? ⟨w.heap.size, 7, none⟩ = some (.int .i64 (i : Int)) ∧ Below w.heap.size w y :=
  ⟨h.1.next hb, (hb.cell (lt_of_cell h.2.1)).trans h.2.1, (hb.cell (lt_of_cell h.2.2.1)).trans h.2.2.1, (hb.cell (lt_of_cell h.2.2.2.1)).trans h.2.2.2.1, (hb.cell (lt_of_cell h.2.2.2.2.1)).trans h.2.2.2.2.1, (hb.cell (lt_of_cell h.2.2.2.2.2.1)).trans h.2.2.2.2.2.1, (hb.cell (lt_of_cell h.2.2.2.2.2.2.1)).trans h.2.2.2.2.2.2.1, (hb.cell (lt_of_cell h.2.2.2.2.2.2.2.1)).trans h.2.2.2.2.2.2.2.1, (hb.cell (lt_of_cell h.2.2.2.2.2.2.2.2.1)).trans h.2.2.2.2.2.2.2.2.1, below_next h.2.2.2.2.2.2.2.2.2 hb⟩
theorem keep9d {w x : World} {o : Obj} {g a b k f l d i : Nat} (h : Tb x.drew ∧ x.drew.cell? ⟨w.heap.size, 0, none⟩ = some (.int .i64 (g : Int)) ∧ x.drew.cell? ⟨w.heap.size, 1, none⟩ = some (.int .i64 (a : Int)) ∧ x.drew.cell? ⟨w.heap.size, 2, none⟩ = some (.int .i64 (b : Int)) ∧ x.drew.cell? ⟨w.heap.size, 3, none⟩ = some (.int .i64 (k : Int)) ∧ x.drew.cell? ⟨w.heap.size, 4, none⟩ = some (.int .i64 (f : Int)) ∧ x.drew.cell? ⟨w.heap.size, 5, none⟩ = some (.int .i64 (l : Int)) ∧ x.drew.cell? ⟨w.heap.size, 6, none⟩ = some (.int .i64 (d : Int)) ∧ x.drew.cell? ⟨w.heap.size, 7, none⟩ = some (.int .i64 (i : Int)) ∧ Below w.heap.size w x.drew) : Tb (x.alloc o).drew ∧ (x.alloc o).drew.cell? ⟨w.heap.size, 0, none⟩ = some (.int .i64 (g : Int)) ∧ (x.alloc o).drew.cell? ⟨w.heap.size, 1, none⟩ = some (.int .i64 (a : Int)) ∧ (x.alloc o).drew.cell? ⟨w.heap.size, 2, none⟩ = some (.int .i64 (b : Int)) ∧ (x.alloc o).drew.cell? ⟨w.heap.size, 3, none⟩ = some (.int .i64 (k : Int)) ∧ (x.alloc o).drew.cell? ⟨w.heap.size, 4, none⟩ = some (.int .i64 (f : Int)) ∧ (x.alloc o).drew.cell? ⟨w.heap.size, 5, none⟩ = some (.int .i64 (l : Int)) ∧ (x.alloc o).drew.cell? ⟨w.heap.size, 6, none⟩ = some (.int .i64 (d : Int)) ∧ (x.alloc o).drew.cell? ⟨w.heap.size, 7, none⟩ = some (.int .i64 (i : Int)) ∧ Below w.heap.size w (x.alloc o).drew := keep9 h (below_al (b := x.drew) (o := o) (Below.refl _ _))
theorem keep9B {w x : World} {g a b k f l d i : Nat} (h : Tb x ∧ x.cell? ⟨w.heap.size, 0, none⟩ = some (.int .i64 (g : Int)) ∧ x.cell? ⟨w.heap.size, 1, none⟩ = some (.int .i64 (a : Int)) ∧ x.cell? ⟨w.heap.size, 2, none⟩ = some (.int .i64 (b : Int)) ∧ x.cell? ⟨w.heap.size, 3, none⟩ = some (.int .i64 (k : Int)) ∧ x.cell? ⟨w.heap.size, 4, none⟩ = some (.int .i64 (f : Int)) ∧ x.cell? ⟨w.heap.size, 5, none⟩ = some (.int .i64 (l : Int)) ∧ x.cell? ⟨w.heap.size, 6, none⟩ = some (.int .i64 (d : Int)) ∧ x.cell? ⟨w.heap.size, 7, none⟩ = some (.int .i64 (i : Int)) ∧ Below w.heap.size w x) : Below w.heap.size w x := h.2.2.2.2.2.2.2.2.2
theorem text_chain (g a b k f l d i : Nat) : joined [wGroups, decDigits g] ++ joined [wWindow, decDigits a, decDigits b] ++ joined [[102, 111, 108, 100], name k] ++ joined [wLoop, decDigits l, decDigits f] ++ joined [wDelay, decDigits d] ++ joined [wIdle, decDigits i] =
    tx1 wGroups g ++ (tx2 wWindow a b ++ (txF k ++ (tx2 wLoop l f ++ (tx1 wDelay d ++ (tx1 wIdle i ++ []))))) := by
  simp only [joined2, joined3, tx1, tx2, txF, List.append_assoc, List.append_nil]
  rfl
set_option maxHeartbeats 8000000 in
theorem jPrint_nats (g a b k f l d i : Nat) (hr : right ⟨g, a, b, k, f, l, d, i⟩ = true) (hk : k ≤ 5) (hg : g ≤ 9223372036854775807) (ha : a ≤ 9223372036854775807) (hb : b ≤ 9223372036854775807) (hf : f ≤ 9223372036854775807) (hl : l ≤ 9223372036854775807) (hd : d ≤ 9223372036854775807) (hi : i ≤ 9223372036854775807) (w : World) (hw : Tb w) :
    Calls Tryd.prog 8 #[jbV ⟨g, a, b, k, f, l, d, i⟩] w fun e w' => e = .returned (.tuple #[strv (tx1 wGroups g ++ (tx2 wWindow a b ++ (txF k ++ (tx2 wLoop l f ++ (tx1 wDelay d ++ (tx1 wIdle i ++ [])))))), .int .i64 0]) ∧ Below w.heap.size w w' := by
  have HR := Lib.hid (fun w => hr ▸ jRight ⟨g, a, b, k, f, l, d, i⟩ w)
  have HNm := Lib.hid (fun w => jName k (by omega) w)
  rw [← text_chain]
  have HDg := Lib.hid (fun w ht => jDigits g hg w ht)
  have zg := dec_len hg
  obtain ⟨dg, eg⟩ : ∃ x, x = decDigits g := ⟨_, rfl⟩
  rw [← eg] at HDg zg ⊢
  have HDa := Lib.hid (fun w ht => jDigits a ha w ht)
  have za := dec_len ha
  obtain ⟨da, ea⟩ : ∃ x, x = decDigits a := ⟨_, rfl⟩
  rw [← ea] at HDa za ⊢
  have HDb := Lib.hid (fun w ht => jDigits b hb w ht)
  have zb := dec_len hb
  obtain ⟨db, eb⟩ : ∃ x, x = decDigits b := ⟨_, rfl⟩
  rw [← eb] at HDb zb ⊢
  have HDf := Lib.hid (fun w ht => jDigits f hf w ht)
  have zf := dec_len hf
  obtain ⟨df, ef⟩ : ∃ x, x = decDigits f := ⟨_, rfl⟩
  rw [← ef] at HDf zf ⊢
  have HDl := Lib.hid (fun w ht => jDigits l hl w ht)
  have zl := dec_len hl
  obtain ⟨dl, el⟩ : ∃ x, x = decDigits l := ⟨_, rfl⟩
  rw [← el] at HDl zl ⊢
  have HDd := Lib.hid (fun w ht => jDigits d hd w ht)
  have zd := dec_len hd
  obtain ⟨dd, ed⟩ : ∃ x, x = decDigits d := ⟨_, rfl⟩
  rw [← ed] at HDd zd ⊢
  have HDi := Lib.hid (fun w ht => jDigits i hi w ht)
  have zi := dec_len hi
  obtain ⟨di, ei⟩ : ∃ x, x = decDigits i := ⟨_, rfl⟩
  rw [← ei] at HDi zi ⊢
  have zk := name_len8 k
  obtain ⟨nk, ek⟩ : ∃ x, x = name k := ⟨_, rfl⟩
  rw [← ek] at HNm zk ⊢
  obtain ⟨t1, q1⟩ : ∃ t, t = joined [wGroups, dg] := ⟨_, rfl⟩
  have HP1 := Lib.hid (fun b w h => jPr2 wGroups dg t1 q1 (by decide) zg b w h)
  have m1 : t1.length ≤ 100 := by rw [q1, joined2]; simp only [List.length_append, List.length_cons, List.length_nil]; omega
  rw [← q1]
  obtain ⟨t2, q2⟩ : ∃ t, t = joined [wWindow, da, db] := ⟨_, rfl⟩
  have HP2 := Lib.hid (fun b w h => jPr3 wWindow da db t2 q2 (by decide) za zb b w h)
  have m2 : t2.length ≤ 100 := by rw [q2, joined3]; simp only [List.length_append, List.length_cons, List.length_nil]; omega
  rw [← q2]
  obtain ⟨t3, q3⟩ : ∃ t, t = joined [[102, 111, 108, 100], nk] := ⟨_, rfl⟩
  have HP3 := Lib.hid (fun b w h => jPr2 [102, 111, 108, 100] nk t3 q3 (by decide) (Nat.le_trans zk (by omega)) b w h)
  have m3 : t3.length ≤ 100 := by rw [q3, joined2]; simp only [List.length_append, List.length_cons, List.length_nil]; omega
  rw [← q3]
  obtain ⟨t4, q4⟩ : ∃ t, t = joined [wLoop, dl, df] := ⟨_, rfl⟩
  have HP4 := Lib.hid (fun b w h => jPr3 wLoop dl df t4 q4 (by decide) zl zf b w h)
  have m4 : t4.length ≤ 100 := by rw [q4, joined3]; simp only [List.length_append, List.length_cons, List.length_nil]; omega
  rw [← q4]
  obtain ⟨t5, q5⟩ : ∃ t, t = joined [wDelay, dd] := ⟨_, rfl⟩
  have HP5 := Lib.hid (fun b w h => jPr2 wDelay dd t5 q5 (by decide) zd b w h)
  have m5 : t5.length ≤ 100 := by rw [q5, joined2]; simp only [List.length_append, List.length_cons, List.length_nil]; omega
  rw [← q5]
  obtain ⟨t6, q6⟩ : ∃ t, t = joined [wIdle, di] := ⟨_, rfl⟩
  have HP6 := Lib.hid (fun b w h => jPr2 wIdle di t6 q6 (by decide) zi b w h)
  have m6 : t6.length ≤ 100 := by rw [q6, joined2]; simp only [List.length_append, List.length_cons, List.length_nil]; omega
  rw [← q6]
  have ha2 := addS t1 t2 (by omega)
  obtain ⟨s2, u2⟩ : ∃ s, s = t1 ++ t2 := ⟨_, rfl⟩
  have p2 : s2.length ≤ 200 := by rw [u2, List.length_append]; omega
  rw [← u2] at ha2 ⊢
  have ha3 := addS s2 t3 (by omega)
  obtain ⟨s3, u3⟩ : ∃ s, s = s2 ++ t3 := ⟨_, rfl⟩
  have p3 : s3.length ≤ 300 := by rw [u3, List.length_append]; omega
  rw [← u3] at ha3 ⊢
  have ha4 := addS s3 t4 (by omega)
  obtain ⟨s4, u4⟩ : ∃ s, s = s3 ++ t4 := ⟨_, rfl⟩
  have p4 : s4.length ≤ 400 := by rw [u4, List.length_append]; omega
  rw [← u4] at ha4 ⊢
  have ha5 := addS s4 t5 (by omega)
  obtain ⟨s5, u5⟩ : ∃ s, s = s4 ++ t5 := ⟨_, rfl⟩
  have p5 : s5.length ≤ 500 := by rw [u5, List.length_append]; omega
  rw [← u5] at ha5 ⊢
  have ha6 := addS s5 t6 (by omega)
  obtain ⟨s6, u6⟩ : ∃ s, s = s5 ++ t6 := ⟨_, rfl⟩
  have p6 : s6.length ≤ 600 := by rw [u6, List.length_append]; omega
  rw [← u6] at ha6 ⊢
  have X0 := Lib.hid (Lies.new w (jbC ⟨g, a, b, k, f, l, d, i⟩) 23)
  have T0 := Lib.hid hw
  clear hr hk hg ha hb hf hl hd hi hw eg ea eb ef el ed ei ek zg za zb zf zl zd zi zk q1 q2 q3 q4 q5 q6 m1 m2 m3 m4 m5 m6 u2 u3 u4 u5 u6 p2 p3 p4 p5 p6
  go_enter Tryd.func8, Tryd.ntmps8
  go_wp2_with fail
  refine (HR.out _).mono ?_
  rintro e w1 ⟨rfl, hb1⟩
  have X1 := Lib.hid (show Lies w.heap.size (jbC ⟨g, a, b, k, f, l, d, i⟩) 23 w1 from (hb1.block _ (by simp)).trans X0.out)
  have B1 := below_next (below_al (o := .cells (jbC ⟨g, a, b, k, f, l, d, i⟩) 23) (Below.refl w.heap.size w)) hb1
  have S0 : Tb w1.drew ∧ w1.drew.cell? ⟨w.heap.size, 0, none⟩ = some (.int .i64 (g : Int)) ∧ w1.drew.cell? ⟨w.heap.size, 1, none⟩ = some (.int .i64 (a : Int)) ∧ w1.drew.cell? ⟨w.heap.size, 2, none⟩ = some (.int .i64 (b : Int)) ∧ w1.drew.cell? ⟨w.heap.size, 3, none⟩ = some (.int .i64 (k : Int)) ∧ w1.drew.cell? ⟨w.heap.size, 4, none⟩ = some (.int .i64 (f : Int)) ∧ w1.drew.cell? ⟨w.heap.size, 5, none⟩ = some (.int .i64 (l : Int)) ∧ w1.drew.cell? ⟨w.heap.size, 6, none⟩ = some (.int .i64 (d : Int)) ∧ w1.drew.cell? ⟨w.heap.size, 7, none⟩ = some (.int .i64 (i : Int)) ∧ Below w.heap.size w w1.drew := keep9 (x := w1) ⟨T0.out.next B1, X1.out.cell (j := 0) rfl, X1.out.cell (j := 1) rfl, X1.out.cell (j := 2) rfl, X1.out.cell (j := 3) rfl, X1.out.cell (j := 4) rfl, X1.out.cell (j := 5) rfl, X1.out.cell (j := 6) rfl, X1.out.cell (j := 7) rfl, B1⟩ (below_drewOf (Below.refl _ _))
  clear hb1 B1
  go_wp2_with fail
  go_region_held3 (fun w' => Tb w' ∧ w'.cell? ⟨w.heap.size, 0, none⟩ = some (.int .i64 (g : Int)) ∧ w'.cell? ⟨w.heap.size, 1, none⟩ = some (.int .i64 (a : Int)) ∧ w'.cell? ⟨w.heap.size, 2, none⟩ = some (.int .i64 (b : Int)) ∧ w'.cell? ⟨w.heap.size, 3, none⟩ = some (.int .i64 (k : Int)) ∧ w'.cell? ⟨w.heap.size, 4, none⟩ = some (.int .i64 (f : Int)) ∧ w'.cell? ⟨w.heap.size, 5, none⟩ = some (.int .i64 (l : Int)) ∧ w'.cell? ⟨w.heap.size, 6, none⟩ = some (.int .i64 (d : Int)) ∧ w'.cell? ⟨w.heap.size, 7, none⟩ = some (.int .i64 (i : Int)) ∧ Below w.heap.size w w') (first | with_reducible assumption | ((with_reducible refine keep9 ?_ hb5); with_reducible assumption) | ((with_reducible refine keep9d ?_); with_reducible assumption) | ((with_reducible refine keep9 ?_ (below_al (Below.refl _ _))); with_reducible assumption))
    (first
      | (go_at_call 18; first | ((with_reducible refine (HDg.out _ (And.left (by assumption))).mono ?_); rintro e w5 ⟨rfl, hb5⟩) | ((with_reducible refine (HDa.out _ (And.left (by assumption))).mono ?_); rintro e w5 ⟨rfl, hb5⟩) | ((with_reducible refine (HDb.out _ (And.left (by assumption))).mono ?_); rintro e w5 ⟨rfl, hb5⟩) | ((with_reducible refine (HDl.out _ (And.left (by assumption))).mono ?_); rintro e w5 ⟨rfl, hb5⟩) | ((with_reducible refine (HDf.out _ (And.left (by assumption))).mono ?_); rintro e w5 ⟨rfl, hb5⟩) | ((with_reducible refine (HDd.out _ (And.left (by assumption))).mono ?_); rintro e w5 ⟨rfl, hb5⟩) | ((with_reducible refine (HDi.out _ (And.left (by assumption))).mono ?_); rintro e w5 ⟨rfl, hb5⟩))
      | (go_at_call 19; refine (HNm.out _).mono ?_; rintro e w5 ⟨rfl, rfl⟩)
      | (go_at_call 17; first | ((with_reducible refine (HP1.out _ _ (by first | with_reducible exact Lies.new _ _ _ | with_reducible exact (Lies.new _ _ _).drew)).mono ?_); rintro e w5 ⟨rfl, hb5⟩) | ((with_reducible refine (HP2.out _ _ (by first | with_reducible exact Lies.new _ _ _ | with_reducible exact (Lies.new _ _ _).drew)).mono ?_); rintro e w5 ⟨rfl, hb5⟩) | ((with_reducible refine (HP3.out _ _ (by first | with_reducible exact Lies.new _ _ _ | with_reducible exact (Lies.new _ _ _).drew)).mono ?_); rintro e w5 ⟨rfl, hb5⟩) | ((with_reducible refine (HP4.out _ _ (by first | with_reducible exact Lies.new _ _ _ | with_reducible exact (Lies.new _ _ _).drew)).mono ?_); rintro e w5 ⟨rfl, hb5⟩) | ((with_reducible refine (HP5.out _ _ (by first | with_reducible exact Lies.new _ _ _ | with_reducible exact (Lies.new _ _ _).drew)).mono ?_); rintro e w5 ⟨rfl, hb5⟩) | ((with_reducible refine (HP6.out _ _ (by first | with_reducible exact Lies.new _ _ _ | with_reducible exact (Lies.new _ _ _).drew)).mono ?_); rintro e w5 ⟨rfl, hb5⟩)))
  all_goals (
    go_wp2_with fail
    go_ret2
    exact ⟨rfl, keep9B (by assumption)⟩)
theorem jPrint (j : Jb) (hl : j.limit ≤ 9223372036854775807) (w : World) (hw : Tb w) : Calls Tryd.prog 8 #[jbV j] w (PrintR j w) := by
  cases hr : right j with
  | false => exact jPrint_bad j hr w
  | true =>
    obtain ⟨g, a, b, k, l, f, d, i, N⟩ := right_nats hr
    have ht := text_nats N
    unfold PrintR
    rw [hr, ht]
    obtain ⟨n1, n2, n3, n4, n5, n6, n7, n8⟩ := N
    obtain ⟨jg, ja, jb, jk, jf, jl, jd, ji⟩ := j
    simp only at n1 n2 n3 n4 n5 n6 n7 n8 hl
    obtain ⟨rfl, n1⟩ := n1
    obtain ⟨rfl, n2⟩ := n2
    obtain ⟨rfl, n3⟩ := n3
    obtain ⟨rfl, n4⟩ := n4
    obtain rfl := n5
    obtain ⟨rfl, n6⟩ := n6
    obtain ⟨rfl, n7⟩ := n7
    obtain ⟨rfl, n8⟩ := n8
    exact jPrint_nats g a b k f l d i hr (by omega) (by omega) (by omega) (by omega) (by omega) (by omega) (by omega) (by omega) w hw
end Jo
end Go.Proofs.YtileonenphmkkaaDoor
