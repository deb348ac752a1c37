/- The code's count, rising, newest. -/
import Derived.Test.YtmkbdlailffjeaaSinkCb
import Derived.Test.YtmkbdlailffjeaaSinkO
namespace Go.Proofs.Ytmkbdlailffjeaa
open Go.ChangeShapes Go.WideShapes Go.ChangeAt Go.RowKit
set_option linter.unusedVariables false
set_option maxRecDepth 8000
namespace Sk
open Gen (TellsB TellsI row_one flat_len flat_get Mine)
def countS (s : Si) : Nat := s.op.length + s.out.length + cnt s.st
theorem cnt_take {l : List Pg} {k : Nat} {x : Pg} (h : l[k]? = some x) : cnt (l.take (k + 1)) = cnt (l.take k) + x.2.length := by
  rw [List.take_add_one, h, cnt_app]
  simp [cnt]
theorem cnt_le : ∀ (l : List Pg) (c : Nat), (∀ x ∈ l, x.2.length ≤ c) → cnt l ≤ l.length * c
  | [], _, _ => by simp [cnt]
  | x :: l, c, h => by
    have h1 := h x (List.mem_cons_self ..)
    have h2 := cnt_le l c fun y hy => h y (List.mem_cons_of_mem _ hy)
    rw [cnt_cons, List.length_cons, Nat.add_mul]
    omega
set_option maxRecDepth 100000 in
set_option maxHeartbeats 1000000 in
theorem ckCount {w : World} {s : Si} {no ns nu : Nat} {O : Option Addr} {cO : Nat} {S : Option Addr} {cS : Nat} {U : Option Addr} {cU : Nat} {sg : List Sg} (h : RawS w s no ns nu O cO S cS U cU sg) (hl : Lim s) (h8 : ns ≤ 8) (m : Nat) (hm : m = countS s) :
    Calls Try.prog 23 #[skV O no cO S ns cS s.last U nu cU] w (TellsI m w) := by
  have HH := Lib.hid h
  have HL := Lib.hid hl
  have H8 := Lib.hid h8
  have HM := Lib.hid hm
  have HNO : Hid (no ≤ 140737488355328) := Lib.hid (by rw [h.lno]; exact hl.o)
  have HNU : Hid (nu ≤ 140737488355328) := Lib.hid (by rw [h.lnu]; exact hl.u)
  have hw0 : IntKind.i64.wrap ((no : Int) + (nu : Int)) = ((no + nu : Nat) : Int) := by rw [wrapS (by omega) (by have := HNO.out; have := HNU.out; omega)]; omega
  have HB := Lib.hid (below_al (o := .cells (skC O no cO S ns cS s.last U nu cU) 25) (Below.refl w.heap.size w))
  have L := Lib.hid (Lies.new w (skC O no cO S ns cS s.last U nu cU) 25)
  clear h hl h8 hm
  go_enter Try.func23, Try.ntmps23
  go_upto_region 1 with fail
  obtain ⟨tb, htb⟩ : ∃ b, b = w.heap.size := ⟨_, rfl⟩
  obtain ⟨W, hW⟩ : ∃ W, W = w.alloc (.cells (skC O no cO S ns cS s.last U nu cU) 25) := ⟨_, rfl⟩
  rw [← hW] at L HB ⊢
  rw [← htb] at L ⊢
  clear hW htb
  have x0 := L.out.cell (j := 0) rfl; have x1 := L.out.cell (j := 1) rfl; have x3 := L.out.cell (j := 3) rfl
  go_wp2_with fail
  clear x0 x1 x3 L
  go_loopw [3, 16] (fun s3 s16 wr => ∃ (k a : Nat), s3 = .int .i64 a ∧ s16 = .int .i64 k ∧ k ≤ ns ∧ a = no + nu + cnt (s.st.take k) ∧ Below w.heap.size w wr) (fun _ s16 _ => ns - (intOf s16).toNat)
  case atStart => exact ⟨0, no + nu, rfl, rfl, Nat.zero_le _, by simp [cnt], HB.out⟩
  case round =>
    clear HB
    obtain ⟨k, a, rfl, rfl, hk, ha, hb⟩ := hrel
    have HB := Lib.hid hb
    have HA := Lib.hid ha
    clear hb ha
    by_cases hlt : k < ns
    · obtain ⟨⟨N, A, c, l⟩, hx⟩ : ∃ x, sg[k]? = some x := ⟨_, List.getElem?_eq_getElem (by have h1 := congrArg List.length HH.out.map; rw [List.length_map, ← HH.out.lns] at h1; omega)⟩
      have hp : s.st[k]? = some (N, l) := by rw [← HH.out.map, List.getElem?_map, hx]; rfl
      obtain ⟨q, off, hA1, d0, d1⟩ := stage_row (HH.out.rs.row.below HB.out) hx
      subst hA1
      have hki : (k : Int) < (ns : Int) := by omega
      have hw := wrapKS (k := k) (by have := H8.out; omega)
      obtain ⟨m1, hm1⟩ : ∃ m1, m1 = l.length := ⟨_, rfl⟩
      simp only at d0 d1
      rw [← hm1] at d1
      have hml : m1 ≤ 140737488355328 := by rw [hm1]; exact HL.out.e _ (List.mem_of_getElem? hp)
      have hal : a ≤ 140737488355328 * 2 + k * 140737488355328 := by
        have h1 := cnt_le (s.st.take k) 140737488355328 fun y hy => HL.out.e y (List.mem_of_mem_take hy)
        have h2 : (s.st.take k).length ≤ k := List.length_take_le _ _
        have h3 := Nat.mul_le_mul_right 140737488355328 h2
        have := HA.out; have := HNO.out; have := HNU.out
        omega
      have hw2 : IntKind.i64.wrap ((a : Int) + (m1 : Int)) = ((a + m1 : Nat) : Int) := by have := H8.out; rw [wrapS (by omega) (by omega)]; omega
      have HNX : Hid (a + m1 = no + nu + cnt (s.st.take (k + 1))) := Lib.hid (by rw [cnt_take hp, HA.out, hm1]; simp only; omega)
      have HK := Lib.hid hlt
      clear hx hp hm1 hlt hk hml hal
      go_upto_region 5 with fail
      have hb9 := below_al (o := .cells #[.int .i64 N, .slice A m1 c] 50) (Below.refl wr.heap.size wr)
      have L9 := Lib.hid (Lies.new wr #[.int .i64 N, .slice A m1 c] 50)
      have HB9 := Lib.hid (below_next HB.out hb9)
      obtain ⟨b9, hb9e⟩ : ∃ b, b = wr.heap.size := ⟨_, rfl⟩
      obtain ⟨W9, hW9⟩ : ∃ W, W = wr.alloc (.cells #[.int .i64 N, .slice A m1 c] 50) := ⟨_, rfl⟩
      rw [← hW9] at L9 HB9 ⊢
      rw [← hb9e] at L9 ⊢
      clear hW9 hb9e hb9 d0 d1
      have y1 := L9.out.cell (j := 1) rfl
      go_wp2_with fail
      go_roundw
      case rel => exact ⟨k + 1, a + m1, rfl, rfl, HK.out, HNX.out, HB9.out⟩
      case measure => simp [intOf]; have := HK.out; omega
    · have hki : ¬ (k : Int) < (ns : Int) := by omega
      have e : a = m := by rw [HA.out, HM.out, List.take_of_length_le (by rw [← HH.out.lns]; omega)]; unfold countS; rw [HH.out.lno, HH.out.lnu]
      subst e
      clear hlt hk
      go_wp2_with fail
      go_ret
      exact ⟨rfl, HB.out⟩
def riseB : Int → List Pg → Bool
  | b, [] => decide (b ≤ 1073741824)
  | b, x :: r => decide (b < x.1) && riseB x.1 r
theorem rise_iff : ∀ (l : List Pg) (b : Int), riseB b l = true ↔ b ≤ 1073741824 ∧ Srt b l
  | [], b => by simp [riseB, Srt]
  | x :: l, b => by
    have ih := rise_iff l x.1
    unfold riseB Srt
    rw [Bool.and_eq_true, decide_eq_true_eq, ih]
    constructor
    · rintro ⟨h1, h2, h3⟩; exact ⟨by omega, h1, h2, h3⟩
    · rintro ⟨h1, h2, h3, h4⟩; exact ⟨h2, h3, h4⟩
def risingS (s : Si) : Bool := riseB s.last s.st && decide (0 ≤ s.last)
theorem rise_no {b : Int} {x : Pg} {l : List Pg} (h : x.1 ≤ b) : riseB b (x :: l) = false := by
  unfold riseB
  rw [decide_eq_false (by omega), Bool.false_and]
theorem rise_go {b : Int} {x : Pg} {l : List Pg} (h : ¬ x.1 ≤ b) : riseB b (x :: l) = riseB x.1 l := by
  conv => lhs; unfold riseB
  rw [decide_eq_true (by omega), Bool.true_and]
set_option maxRecDepth 100000 in
set_option maxHeartbeats 1000000 in
theorem ckRising {w : World} {s : Si} {no ns nu : Nat} {O : Option Addr} {cO : Nat} {S : Option Addr} {cS : Nat} {U : Option Addr} {cU : Nat} {sg : List Sg} (h : RawS w s no ns nu O cO S cS U cU sg) (h8 : ns ≤ 8) (r : Bool) (hr : r = risingS s) :
    Calls Try.prog 28 #[skV O no cO S ns cS s.last U nu cU] w (TellsB r w) := by
  have HH := Lib.hid h
  have H8 := Lib.hid h8
  have HR := Lib.hid hr
  have HB := Lib.hid (below_al (o := .cells (skC O no cO S ns cS s.last U nu cU) 25) (Below.refl w.heap.size w))
  have L := Lib.hid (Lies.new w (skC O no cO S ns cS s.last U nu cU) 25)
  clear h h8 hr
  go_enter Try.func28, Try.ntmps28
  go_upto_region 1 with fail
  obtain ⟨tb, htb⟩ : ∃ b, b = w.heap.size := ⟨_, rfl⟩
  obtain ⟨W, hW⟩ : ∃ W, W = w.alloc (.cells (skC O no cO S ns cS s.last U nu cU) 25) := ⟨_, rfl⟩
  rw [← hW] at L HB ⊢
  rw [← htb] at L ⊢
  clear hW htb
  have x1 := L.out.cell (j := 1) rfl; have x2 := L.out.cell (j := 2) rfl
  go_wp2_with fail
  clear x1 x2
  go_loopw [3, 11] (fun s3 s11 wr => ∃ (k : Nat) (b : Int), s3 = .int .i64 b ∧ s11 = .int .i64 k ∧ k ≤ ns ∧ riseB s.last s.st = riseB b (s.st.drop k) ∧ Below w.heap.size w wr ∧ Lies tb (skC O no cO S ns cS s.last U nu cU) 25 wr) (fun _ s11 _ => ns - (intOf s11).toNat)
  case atStart => exact ⟨0, s.last, rfl, rfl, Nat.zero_le _, by rw [List.drop_zero], HB.out, L.out⟩
  case round =>
    clear HB L
    obtain ⟨k, b, rfl, rfl, hk, ha, hb, hl⟩ := hrel
    have HB := Lib.hid hb
    have HA := Lib.hid ha
    have L := Lib.hid hl
    clear hb ha hl
    by_cases hlt : k < ns
    · obtain ⟨⟨N, A, c, l⟩, hx⟩ : ∃ x, sg[k]? = some x := ⟨_, List.getElem?_eq_getElem (by have h1 := congrArg List.length HH.out.map; rw [List.length_map, ← HH.out.lns] at h1; omega)⟩
      have hp : s.st[k]? = some (N, l) := by rw [← HH.out.map, List.getElem?_map, hx]; rfl
      have hdr : s.st.drop k = (N, l) :: s.st.drop (k + 1) := by
        obtain ⟨h1, h2⟩ := List.getElem?_eq_some_iff.1 hp
        rw [List.drop_eq_getElem_cons h1, h2]
      have HDR := Lib.hid hdr
      obtain ⟨q, off, hA1, d0, d1⟩ := stage_row (HH.out.rs.row.below HB.out) hx
      subst hA1
      have hki : (k : Int) < (ns : Int) := by omega
      have hw := wrapKS (k := k) (by have := H8.out; omega)
      obtain ⟨m1, hm1⟩ : ∃ m1, m1 = l.length := ⟨_, rfl⟩
      simp only at d0 d1
      rw [← hm1] at d1
      have HK := Lib.hid hlt
      clear hx hp hm1 hlt hk hdr
      go_upto_region 5 with fail
      have hb9 := below_al (o := .cells #[.int .i64 N, .slice A m1 c] 50) (Below.refl wr.heap.size wr)
      have L9 := Lib.hid (Lies.new wr #[.int .i64 N, .slice A m1 c] 50)
      have HB9 := Lib.hid (below_next HB.out hb9)
      have LS := Lib.hid (L.out.below hb9)
      obtain ⟨b9, hb9e⟩ : ∃ b, b = wr.heap.size := ⟨_, rfl⟩
      obtain ⟨W9, hW9⟩ : ∃ W, W = wr.alloc (.cells #[.int .i64 N, .slice A m1 c] 50) := ⟨_, rfl⟩
      rw [← hW9] at L9 HB9 LS ⊢
      rw [← hb9e] at L9 ⊢
      clear hW9 hb9e hb9 d0 d1 L
      have y0 := L9.out.cell (j := 0) rfl
      by_cases h1 : N ≤ b
      · have g4 : decide (N ≤ b) = true := decide_eq_true h1
        have e : r = false := by rw [HR.out]; unfold risingS; rw [HA.out, HDR.out, rise_no h1, Bool.false_and]
        clear h1
        go_wp2_with fail
        go_ret
        exact ⟨by first | rfl | (rw [e]; rfl) | rw [e], HB9.out⟩
      · have g4 : decide (N ≤ b) = false := decide_eq_false h1
        have HNX : Hid (riseB s.last s.st = riseB N (s.st.drop (k + 1))) := Lib.hid (by rw [HA.out, HDR.out]; exact rise_go h1)
        clear h1
        go_wp2_with fail
        go_roundw
        case rel => exact ⟨k + 1, N, rfl, rfl, HK.out, HNX.out, HB9.out, LS.out⟩
        case measure => simp [intOf]; have := HK.out; omega
    · have hki : ¬ (k : Int) < (ns : Int) := by omega
      have e : r = (decide (b ≤ 1073741824) && decide (0 ≤ s.last)) := by
        rw [HR.out]; unfold risingS; rw [HA.out, List.drop_eq_nil_of_le (by rw [← HH.out.lns]; omega)]; rfl
      have x2 := L.out.cell (j := 2) rfl
      clear hlt hk
      have HE := Lib.hid e
      clear e
      by_cases h1 : 0 ≤ s.last
      · have g1 : decide (0 ≤ s.last) = true := decide_eq_true h1
        by_cases h2 : b ≤ 1073741824
        · have g2 : decide (b ≤ 1073741824) = true := decide_eq_true h2
          have e : r = true := by rw [HE.out, g1, g2]; rfl
          clear h1 h2
          go_wp2_with fail
          go_ret
          exact ⟨by first | rfl | (rw [e]; rfl) | rw [e], HB.out⟩
        · have g2 : decide (b ≤ 1073741824) = false := decide_eq_false h2
          have e : r = false := by rw [HE.out, g1, g2]; rfl
          clear h1 h2
          go_wp2_with fail
          go_ret
          exact ⟨by first | rfl | (rw [e]; rfl) | rw [e], HB.out⟩
      · have g1 : decide (0 ≤ s.last) = false := decide_eq_false h1
        have e : r = false := by rw [HE.out, g1, Bool.and_false]
        clear h1
        go_wp2_with fail
        go_ret
        exact ⟨by first | rfl | (rw [e]; rfl) | rw [e], HB.out⟩
theorem ckNewest {w : World} {s : Si} {no ns nu : Nat} {O : Option Addr} {cO : Nat} {S : Option Addr} {cS : Nat} {U : Option Addr} {cU : Nat} {sg : List Sg} (h : RawS w s no ns nu O cO S cS U cU sg) (h8 : ns ≤ 8) :
    Calls Try.prog 27 #[skV O no cO S ns cS s.last U nu cU] w (TellsI (lastO s) w) := by
  have hb0 := below_al (o := .cells (skC O no cO S ns cS s.last U nu cU) 25) (Below.refl w.heap.size w)
  have HB := Lib.hid hb0
  have L := Lib.hid (Lies.new w (skC O no cO S ns cS s.last U nu cU) 25)
  rcases Nat.eq_zero_or_pos ns with h0 | h0
  · subst h0
    have e : lastO s = s.last := by unfold lastO; rw [List.eq_nil_of_length_eq_zero h.lns.symm]; rfl
    rw [e]
    clear h hb0 h8
    go_enter Try.func27, Try.ntmps27
    go_wp2_with fail
    go_ret
    exact ⟨rfl, HB.out⟩
  · obtain ⟨k, rfl⟩ : ∃ k, ns = k + 1 := ⟨ns - 1, by omega⟩
    obtain ⟨⟨N, A, c, l⟩, hx⟩ : ∃ x, sg[k]? = some x := ⟨_, List.getElem?_eq_getElem (by have h1 := congrArg List.length h.map; rw [List.length_map, ← h.lns] at h1; omega)⟩
    have hp : s.st[k]? = some (N, l) := by rw [← h.map, List.getElem?_map, hx]; rfl
    have e : lastO s = N := by unfold lastO; rw [List.getLast?_eq_getElem?, ← h.lns, Nat.add_sub_cancel, hp]
    obtain ⟨q, off, hA1, d0, d1⟩ := stage_row (h.rs.row.below hb0) hx
    subst hA1
    rw [e]
    have hj1 : IntKind.i64.wrap (((k + 1 : Nat) : Int) - 1) = (k : Int) := by rw [wrapS (by omega) (by omega)]; omega
    have hj2 : (0 : Int) ≤ (k : Int) := by omega
    have hj3 : (k : Int) < ((k + 1 : Nat) : Int) := by omega
    have hj4 : decide ((0 : Int) < ((k + 1 : Nat) : Int)) = true := decide_eq_true (by omega)
    simp only at d0
    have HC := Lib.hid d0
    clear h hb0 hx hp d0 d1 e h0
    go_enter Try.func27, Try.ntmps27
    go_upto_region 1 with fail
    obtain ⟨tb, htb⟩ : ∃ b, b = w.heap.size := ⟨_, rfl⟩
    obtain ⟨W, hW⟩ : ∃ W, W = w.alloc (.cells (skC O no cO (some ⟨q, off, none⟩) (k + 1) cS s.last U nu cU) 25) := ⟨_, rfl⟩
    rw [← hW] at L HB HC ⊢
    rw [← htb] at L ⊢
    clear hW htb
    have x1 := L.out.cell (j := 1) rfl
    have d0 := HC.out
    go_wp2_with fail
    go_ret
    exact ⟨rfl, HB.out⟩
end Sk
end Go.Proofs.Ytmkbdlailffjeaa
