/- WinRef, WinLike, WinFacts, put together. -/
import Derived.Test.YtipmphkmeiogoaaZ17
import Derived.Laws.StructEq
import Derived.Deep.QuietTactic
import Derived.BigQuiet
import Derived.Maps.AppendAt
/- The reference's Of. -/
namespace Go.Proofs.Ytipmphkmeiogoaa
open Go.RowKit Go.Shelf Tick
set_option linter.unusedVariables false
namespace Win
theorem of_len {s d t : Int} (h : good s d t = true) : (of s d t).length = cnt s d t := by rw [of, List.length_reverse, desc_len h]
theorem of_not {s d t : Int} (h : good s d t = false) : of s d t = [] := by rw [of, desc_not h]; rfl
theorem of_get {s d t : Int} (h : good s d t = true) {j : Nat} (hj : j < cnt s d t) : (of s d t)[cnt s d t - 1 - j]? = some (win s d t j) := by
  rw [of, List.getElem?_reverse (by rw [desc_len h]; omega), desc_len h, desc_good h, show cnt s d t - 1 - (cnt s d t - 1 - j) = j by omega]
  simp [hj]
theorem of_take {s d t : Int} (h : good s d t = true) {j : Nat} (hj : j < cnt s d t) : (of s d t).take (cnt s d t - 1 - j) ++ [win s d t j] = (of s d t).take (cnt s d t - j) := by
  rw [show cnt s d t - j = cnt s d t - 1 - j + 1 by omega, List.take_add_one, of_get h hj]; rfl
/-- Where the reference begins. -/
def from_ (s d t : Int) : Int := if (t - s).tdiv d - 1 < 0 then 0 else (t - s).tdiv d - 1
theorem from_ok {s d t : Int} (hd : 1 ≤ d) (hs : d ≤ s) (ht : 0 ≤ t) : 0 ≤ from_ s d t ∧ from_ s d t ≤ t / d ∧ (cnt s d t : Int) ≤ t / d - from_ s d t + 1 := by
  have hq : 0 ≤ t / d := Int.ediv_nonneg ht (by omega)
  have key : from_ s d t = 0 ∨ (s ≤ t ∧ from_ s d t = (t - s) / d - 1) := by
    unfold from_
    split
    · exact .inl rfl
    · rename_i h
      by_cases h1 : t < s
      · have : (t - s).tdiv d ≤ 0 := by
          have e : t - s = -(s - t) := by omega
          rw [e, Int.neg_tdiv]
          have := Int.tdiv_nonneg (show 0 ≤ s - t by omega) (show 0 ≤ d by omega)
          omega
        omega
      · exact .inr ⟨by omega, by rw [Int.tdiv_eq_ediv_of_nonneg (by omega)]⟩
  have h0 : 0 ≤ from_ s d t := by unfold from_; split <;> omega
  have hle : from_ s d t ≤ t / d := by
    rcases key with h | ⟨h1, h2⟩
    · omega
    · have := Int.ediv_le_ediv (show 0 < d by omega) (show t - s ≤ t by omega)
      omega
  refine ⟨h0, hle, ?_⟩
  rcases Int.lt_or_le (t / d - from_ s d t + 1) (cnt s d t) with h | h
  · exfalso
    have h3 := (cnt_lt (size := s) hd hs ht (t / d - from_ s d t + 1).toNat).1 (by omega)
    have e : top d t - ((t / d - from_ s d t + 1).toNat : Int) * d = (from_ s d t - 1) * d := by
      rw [Int.toNat_of_nonneg (by omega), top_eq, ← Int.sub_mul]
      congr 1
      omega
    rw [e] at h3
    obtain ⟨h3, h4⟩ := h3
    have h5 : 0 ≤ from_ s d t - 1 := by
      rcases Int.lt_or_le (from_ s d t - 1) 0 with h6 | h6
      · have := Int.mul_neg_of_neg_of_pos h6 (show 0 < d by omega); omega
      · exact h6
    rcases key with h6 | ⟨h6, h7⟩
    · omega
    · have h8 := Int.ediv_mul_le (t - s) (show d ≠ 0 by omega)
      have h9 : (from_ s d t - 1) * d ≤ (t - s) / d * d := Int.mul_le_mul_of_nonneg_right (by omega) (by omega)
      omega
  · exact h
end Win
set_option maxRecDepth 100000 in
set_option maxHeartbeats 1000000 in
theorem refOf_none (s d t : Int) (w : World) (hg : Win.good s d t = false) : Calls Try.prog 33 #[.int .i64 s, .int .i64 d, .int .i64 t] w
    fun e w' => e = .returned (.slice (some ⟨w.heap.size, 0, none⟩) 0 0) ∧ w' = w.alloc (.cells #[] 48) := by
  by_cases h1 : Win.ok s d = true
  · have H := Lib.hid h1
    by_cases h2 : t < 0
    · clear h1 hg
      go_enter Try.func33, Try.ntmps33
      go_wp2_with (go_at_call 55; refine (refRight _ _ _).mono ?_; rw [H.out]; rintro e w' ⟨rfl, rfl⟩)
      go_ret
      exact ⟨rfl, rfl⟩
    · have h3 : 1099511627776 ≤ t := by
        by_cases h4 : t < 1099511627776
        · simp [Win.good, h1] at hg; omega
        · omega
      have h4 : 0 ≤ t := by omega
      clear h1 hg h2
      go_enter Try.func33, Try.ntmps33
      go_wp2_with (go_at_call 55; refine (refRight _ _ _).mono ?_; rw [H.out]; rintro e w' ⟨rfl, rfl⟩)
      go_ret
      exact ⟨rfl, rfl⟩
  · have H : Hid (Win.ok s d = false) := Lib.hid (by simpa using h1)
    clear h1 hg
    go_enter Try.func33, Try.ntmps33
    go_wp2_with (go_at_call 55; refine (refRight _ _ _).mono ?_; rw [H.out]; rintro e w' ⟨rfl, rfl⟩)
    go_ret
    exact ⟨rfl, rfl⟩
namespace Win
/-- How many are taken when the reference is at kk. -/
def till (s d t kk : Int) : Nat := cnt s d t - (t / d - kk + 1).toNat
theorem till_start {s d t : Int} (hd : 1 ≤ d) (hs : d ≤ s) (ht : 0 ≤ t) : till s d t (from_ s d t) = 0 := by
  have := from_ok hd hs ht
  unfold till
  omega
theorem till_end {s d t kk : Int} (h : kk = t / d + 1) : till s d t kk = cnt s d t := by
  unfold till
  rw [h, show t / d - (t / d + 1) + 1 = 0 by omega]
  simp
theorem at_ {s d t kk : Int} (hk0 : 0 ≤ kk) (hk : kk ≤ t / d) : top d t - ((t / d - kk).toNat : Int) * d = kk * d := by
  rw [Int.toNat_of_nonneg (by omega), top_eq, ← Int.sub_mul]
  congr 1
  omega
theorem till_hit {s d t kk : Int} (h : good s d t = true) (hk0 : 0 ≤ kk) (hk : kk ≤ t / d) (hh : t < kk * d + s) :
    (of s d t).take (till s d t (kk + 1)) = (of s d t).take (till s d t kk) ++ [(kk * d, hiOf s (kk * d))] := by
  obtain ⟨⟨o1, o2, o3, o4⟩, g1, g2⟩ := good_iff.1 h
  have e := at_ (s := s) (d := d) (t := t) hk0 hk
  have hj : (t / d - kk).toNat < cnt s d t := (cnt_lt o1 o2 g1 _).2 (by rw [e]; exact ⟨Int.mul_nonneg hk0 (by omega), hh⟩)
  have h1 := of_take h hj
  have h2 : win s d t (t / d - kk).toNat = (kk * d, hiOf s (kk * d)) := by unfold win; rw [e]
  rw [h2] at h1
  rw [show till s d t (kk + 1) = cnt s d t - (t / d - kk).toNat by unfold till; congr 2; omega, show till s d t kk = cnt s d t - 1 - (t / d - kk).toNat by unfold till; omega]
  exact h1.symm
theorem till_miss {s d t kk : Int} (h : good s d t = true) (hk0 : 0 ≤ kk) (hk : kk ≤ t / d) (hh : kk * d + s ≤ t) : till s d t (kk + 1) = till s d t kk := by
  obtain ⟨⟨o1, o2, o3, o4⟩, g1, g2⟩ := good_iff.1 h
  have e := at_ (s := s) (d := d) (t := t) hk0 hk
  have hj : ¬ (t / d - kk).toNat < cnt s d t := fun hj => by
    have := (cnt_lt o1 o2 g1 _).1 hj
    rw [e] at this
    omega
  unfold till
  omega
theorem take_len {s d t kk : Int} (h : good s d t = true) : ((of s d t).take (till s d t kk)).length = till s d t kk := by
  rw [List.length_take, of_len h]; unfold till; omega
end Win
theorem own_any {w w' : World} {B size n : Nat} {e : TypeId} {v : Value} {xs : List Value} (h : w.ownsRow B e size v n xs) (hb : Below w.heap.size w w') : w'.ownsRow B e size v n xs := by
  obtain ⟨hl, ⟨rfl, rfl⟩ | ⟨g, cap, cur, rfl, hg, hh, hn, hm, hc, hx⟩⟩ := h
  · exact ⟨hl, .inl ⟨rfl, rfl⟩⟩
  · exact ⟨hl, .inr ⟨g, cap, cur, rfl, hg, (hb.block g (Array.getElem?_eq_some_iff.1 hh).1).trans hh, hn, hm, hc, hx⟩⟩
theorem wrow_new (w : World) (a b : Int) : Row (w.alloc (.cells #[.int .i64 a, .int .i64 b] 48)) (some ⟨w.heap.size, 0, none⟩) [.int .i64 a, .int .i64 b] := by
  refine .inr ⟨w.heap.size, 0, rfl, fun j u hu => ?_⟩
  have := cells_new w [.int .i64 a, .int .i64 b] 48 j u hu
  rwa [Go.WideShapes.add_plain] at this
theorem wrow_new2 (w : World) (o : Obj) (a b : Int) : Row ((w.alloc o).alloc (.cells #[.int .i64 a, .int .i64 b] 48)) (some ⟨w.heap.size + 1, 0, none⟩) [.int .i64 a, .int .i64 b] := by
  have h := wrow_new (w.alloc o) a b
  rwa [World.size_alloc] at h
set_option maxRecDepth 100000 in
set_option maxHeartbeats 2000000 in
theorem refOf_some (s d t : Int) (w : World) (hg : Win.good s d t = true) : Calls Try.prog 33 #[.int .i64 s, .int .i64 d, .int .i64 t] w (GivesW (Win.of s d t) w) := by
  obtain ⟨i0, hi0, hz0, hz1, hz2⟩ := info_parts winInfo
  have HI0 := Lib.hid hi0; have HZ0 := Lib.hid hz0; have HZ1 := Lib.hid hz1; have HZ2 := Lib.hid hz2
  have G := Lib.hid hg
  obtain ⟨⟨o1, o2, o3, o4⟩, g1, g2⟩ := Win.good_iff.1 hg
  have H := Lib.hid (Win.ok_iff.2 ⟨o1, o2, o3, o4⟩)
  obtain ⟨f1, f2, f3⟩ := Win.from_ok o1 o2 g1 (s := s) (d := d) (t := t)
  have tb := Win.top_bd o1 g1 (slide := d) (t := t)
  have td : t / d ≤ t := Int.ediv_le_self _ g1
  have HF : Hid (Win.from_ s d t = if (t - s).tdiv d - 1 < 0 then 0 else (t - s).tdiv d - 1) := Lib.hid rfl
  have HF3 := Lib.hid f3
  have q1 : (t - s).tdiv d ≤ t := by
    rcases Int.lt_or_le (t - s) 0 with h | h
    · have e : t - s = -(s - t) := by omega
      rw [e, Int.neg_tdiv]
      have := Int.tdiv_nonneg (show 0 ≤ s - t by omega) (show 0 ≤ d by omega)
      omega
    · rw [Int.tdiv_eq_ediv_of_nonneg h]; have := Int.ediv_le_self d h; omega
  have q2 : -1048576 ≤ (t - s).tdiv d := by
    rcases Int.lt_or_le (t - s) 0 with h | h
    · have e : t - s = -(s - t) := by omega
      rw [e, Int.neg_tdiv, Int.tdiv_eq_ediv_of_nonneg (by omega)]
      have := Int.ediv_le_self d (show 0 ≤ s - t by omega)
      omega
    · have := Int.tdiv_nonneg h (show 0 ≤ d by omega); omega
  clear hi0 hz0 hz1 hz2 hg f3
  by_cases hf : (t - s).tdiv d - 1 < 0
  all_goals
    have HFF := Lib.hid hf
    go_enter Try.func33, Try.ntmps33
    go_wp2_with (go_at_call 55; refine (refRight _ _ _).mono ?_; rw [H.out]; rintro e w' ⟨rfl, rfl⟩)
    clear hf q1 q2
    go_loopw [7, 9] (fun v k wr => ∃ kk : Int, k = .int .i64 kk ∧ 0 ≤ kk ∧ kk ≤ t / d + 1 ∧ wr.ownsRow w.heap.size 48 2 v (Win.till s d t kk) (wc ((Win.of s d t).take (Win.till s d t kk))) ∧ Below w.heap.size w wr)
      (fun _ k _ => (t / d + 1 - intOf k).toNat)
    case atStart =>
      refine ⟨Win.from_ s d t, by rw [HF.out]; first | rw [if_pos HFF.out] | rw [if_neg (by have := HFF.out; omega)], f1, by omega, ?_, (Below.refl _ _).alloc (Nat.le_refl _) _⟩
      rw [Win.till_start o1 o2 g1]
      exact own_new (Nat.le_refl _)
    case round =>
      obtain ⟨kk, rfl, k1, k2, hown, hb⟩ := hrel
      have HO := Lib.hid hown
      have HB := Lib.hid hb
      have hbz := hb.size
      have m1 : 0 ≤ kk * d := Int.mul_nonneg k1 (by omega)
      have HT : Hid (Win.top d t = t / d * d) := Lib.hid Win.top_eq
      clear hown hb
      by_cases hk : kk ≤ t / d
      · have m2 : kk * d ≤ t := by
          have h1 : kk * d ≤ t / d * d := Int.mul_le_mul_of_nonneg_right hk (by omega)
          have h2 := HT.out
          omega
        have AD := Lib.hid (Win.addT_hi (size := s) m1 (by omega) (by omega) (by omega))
        have HHIT : Hid (kk * d + s > t → (Win.of s d t).take (Win.till s d t (kk + 1)) = (Win.of s d t).take (Win.till s d t kk) ++ [(kk * d, Win.hiOf s (kk * d))]) := Lib.hid fun h => Win.till_hit G.out k1 hk h
        have HMISS : Hid (kk * d + s ≤ t → Win.till s d t (kk + 1) = Win.till s d t kk) := Lib.hid fun h => Win.till_miss G.out k1 hk h
        have HC : Hid (t < Win.hiOf s (kk * d) ↔ t < kk * d + s) := Lib.hid (by unfold Win.hiOf; split <;> omega)
        obtain ⟨hi, hhi⟩ : ∃ hi, hi = Win.hiOf s (kk * d) := ⟨_, rfl⟩
        rw [← hhi] at AD HC HHIT
        have HHI := Lib.hid hhi
        clear hhi
        by_cases hh : t < hi
        · have hrow := wrow_new wr (kk * d) hi
          have hown2 := own_any HO.out ((Below.refl wr.heap.size wr).alloc (Nat.le_refl _) (.cells #[.int .i64 (kk * d), .int .i64 hi] 48))
          have HR := Lib.hid hrow
          have HO2 := Lib.hid hown2
          clear hrow hown2
          go_wp2_with (first
            | (go_at_call 56; refine (refAdd _ _ _).mono ?_; rw [AD.out]; rintro e w' ⟨rfl, rfl⟩)
            | (at_builtin; refine hold_mk ?_))
          refine hold_out ?_
          have ht16 : Win.till s d t kk ≤ 16 := Nat.le_trans (Nat.sub_le _ _) (Win.cnt_le o1 o4 g1)
          refine wpApp rfl _ _ 74 rfl w.heap.size 48 i0 _ 2 16 Try.underlying74 HI0.out HZ0.out HZ1.out HZ2.out rfl (by omega) _ _ _ rfl
            (own_any HO2.out ((Below.refl _ _).alloc (Nat.le_refl _) _)) _ 1 1 [.int .i64 (kk * d), .int .i64 hi] rfl (wrow_new2 _ _ _ _) rfl (by simp [Value.oneCell']) (by unfold maxLen; omega) (by omega) (by simp; omega) ?_
          intro v2 w2 hown3 hb2
          have hb3 := ((HB.out.alloc hbz (.cells #[.int .i64 (kk * d), .int .i64 hi] 48)).alloc (by simp; omega) (.cells #[.int .i64 (kk * d), .int .i64 hi] 48)).trans hb2
          have HO3 := Lib.hid hown3
          have HB3 := Lib.hid hb3
          have hth : t < kk * d + s := HC.out.1 hh
          have HTH := Lib.hid (HHIT.out hth)
          clear hown3 hb2 hb3
          go_wp2_with fail
          go_roundw
          case rel =>
            refine ⟨kk + 1, rfl, by omega, by omega, ?_, HB3.out⟩
            have e1 : Win.till s d t (kk + 1) = Win.till s d t kk + 1 := by
              have h1 := Win.take_len (kk := kk + 1) G.out
              rw [HTH.out, List.length_append, Win.take_len G.out] at h1
              simpa using h1.symm
            rw [HTH.out, e1, wc_app, wc_one]
            exact HO3.out
          case measure => simp [intOf]; omega
        · have hh2 : hi ≤ t := by omega
          have hmi : kk * d + s ≤ t := by have := HC.out; omega
          have HM := Lib.hid (HMISS.out hmi)
          have HO2 := Lib.hid (own_any HO.out ((Below.refl wr.heap.size wr).alloc (Nat.le_refl _) (.cells #[.int .i64 (kk * d), .int .i64 hi] 48)))
          clear hh hmi
          go_wp2_with (go_at_call 56; refine (refAdd _ _ _).mono ?_; rw [AD.out]; rintro e w' ⟨rfl, rfl⟩)
          go_roundw
          case rel => exact ⟨kk + 1, rfl, by omega, by omega, by rw [HM.out]; exact HO2.out, HB.out.alloc hbz _⟩
          case measure => simp [intOf]; omega
      · have hk3 : kk = t / d + 1 := by omega
        have m2 : kk * d = Win.top d t + d := by rw [HT.out, hk3, Int.add_mul]; omega
        have m3 : t < kk * d := by omega
        have m4 : kk * d ≤ t + d := by omega
        have HE := Lib.hid (Win.till_end (s := s) hk3)
        clear hk3 m2 hk
        go_wp2_with fail
        go_ret
        have h1 := HO.out
        rw [HE.out, ← Win.of_len G.out, List.take_length] at h1
        exact gives_own h1 rfl HB.out
theorem refOf (s d t : Int) (w : World) : Calls Try.prog 33 #[.int .i64 s, .int .i64 d, .int .i64 t] w (GivesW (Win.of s d t) w) := by
  by_cases hg : Win.good s d t = true
  · exact refOf_some s d t w hg
  · have hg' : Win.good s d t = false := by simpa using hg
    refine (refOf_none s d t w hg').mono ?_
    rintro e w' ⟨rfl, rfl⟩
    rw [Win.of_not hg']
    exact ⟨_, 0, rfl, Nat.le_refl _, by simp [maxLen], Row.nil, (Below.refl _ _).alloc (Nat.le_refl _) _⟩
end Go.Proofs.Ytipmphkmeiogoaa
/- Rows of windows compared; the reference's Open. -/
namespace Go.Proofs.Ytipmphkmeiogoaa
open Go.RowKit Go.Shelf Tick
set_option linter.unusedVariables false
theorem wfields_win : Try.prog.underlying 48 = some (.struct (Try.prog.fieldsOf 48)) := by kernel_rfl
theorem wstood_win : Try.prog.stoodInHeld 48 = false := by kernel_rfl
theorem run_eqIn (d : Nat) (lo hi lo' hi' : Int) (w : World) : (Op.equalIn (d + 2) 48 (.agg #[.int .i64 lo, .int .i64 hi]) (.agg #[.int .i64 lo', .int .i64 hi'])).run Try.prog w = .ok ((lo == lo') && (hi == hi')) w := by
  have h2 := Try.underlying2
  rw [run_equalIn_agg w _ _ _ _ wfields_win wstood_win]
  simp [Program.fieldsOf, Try.underlying48, Op.eqFields, part, isAgg, run_underlying h2, run_equalIn_int w d _ .i64 .i64 _ _ h2]
  by_cases g1 : lo = lo' <;> by_cases g2 : hi = hi' <;> simp [g1, g2]
theorem run_eqWin (lo hi lo' hi' : Int) (w : World) : (binOp .eql 48 (.agg #[.int .i64 lo, .int .i64 hi]) (.agg #[.int .i64 lo', .int .i64 hi'])).run Try.prog w = .ok (.bool ((lo == lo') && (hi == hi'))) w := by
  rw [run_eql_struct, show (10000 : Nat) = 9998 + 2 from rfl, run_eqIn]; rfl
theorem run_neWin (lo hi lo' hi' : Int) (w : World) : (binOp .neq 48 (.agg #[.int .i64 lo, .int .i64 hi]) (.agg #[.int .i64 lo', .int .i64 hi'])).run Try.prog w = .ok (.bool (!((lo == lo') && (hi == hi')))) w := by
  rw [run_neq_struct, show (10000 : Nat) = 9998 + 2 from rfl, run_eqIn]; rfl
/-- The cells of a row's k-th window. -/
theorem Row.win {w : World} {A : Option Addr} {xs : List (Int × Int)} (h : Row w A (wc xs)) {k : Nat} {x : Int × Int} (hk : xs[k]? = some x) :
    ∃ b off, A = some ⟨b, off, none⟩ ∧ w.cell? ⟨b, off + k * 2, none⟩ = some (.int .i64 x.1) ∧ w.cell? ⟨b, off + k * 2 + 1, none⟩ = some (.int .i64 x.2) := by
  have h0 := wc_0 hk
  have h1 := wc_1 hk
  rcases h with h | ⟨b, off, rfl, h⟩
  · rw [h] at h0; simp at h0
  · exact ⟨b, off, rfl, h _ _ h0, by rw [Nat.add_assoc]; exact h _ _ h1⟩
theorem Row.grown {w w' : World} {A : Option Addr} {cs : List Value} {row : Option Nat} (h : Row w A cs) (hg : w.grownBy w' row) (hne : cs = [] ∨ ∃ b off, A = some ⟨b, off, none⟩ ∧ some b ≠ row) : Row w' A cs := by
  rcases h with h | ⟨b, off, rfl, h⟩
  · exact .inl h
  · rcases hne with h0 | ⟨b', off', e, h1⟩
    · exact .inl h0
    · cases e
      refine .inr ⟨b, off, rfl, fun j u hu => ?_⟩
      have h2 := h j u hu
      exact hg.cell h2 h1
namespace Win
theorem filt_hit {m : Int} {xs : List (Int × Int)} {k : Nat} {x : Int × Int} (hx : xs[k]? = some x) (h : m < x.2) : (xs.take (k + 1)).filter (fun p => decide (m < p.2)) = (xs.take k).filter (fun p => decide (m < p.2)) ++ [x] := by
  rw [List.take_add_one, hx, List.filter_append]; simp [h]
theorem filt_miss {m : Int} {xs : List (Int × Int)} {k : Nat} {x : Int × Int} (hx : xs[k]? = some x) (h : x.2 ≤ m) : (xs.take (k + 1)).filter (fun p => decide (m < p.2)) = (xs.take k).filter (fun p => decide (m < p.2)) := by
  rw [List.take_add_one, hx, List.filter_append]; simp [show ¬ m < x.2 by omega]
end Win
namespace Win
theorem take_filter {α : Type} (p : α → Bool) : ∀ l : List α, (∀ (i j : Nat) a b, i < j → l[i]? = some a → l[j]? = some b → p b = true → p a = true) → l.takeWhile p = l.filter p
  | [], _ => rfl
  | a :: r, h => by
    have ih := take_filter p r fun i j x y hij hx hy => h (i + 1) (j + 1) x y (by omega) (by simpa using hx) (by simpa using hy)
    by_cases ha : p a = true
    · rw [List.takeWhile_cons_of_pos ha, List.filter_cons_of_pos ha, ih]
    · rw [List.takeWhile_cons_of_neg ha, List.filter_cons_of_neg ha]
      symm
      rw [List.filter_eq_nil_iff]
      intro b hb hpb
      obtain ⟨j, hj, rfl⟩ := List.getElem_of_mem hb
      exact ha (h 0 (j + 1) a r[j] (by omega) (by simp) (by simp [hj]) hpb)
theorem hi_mono {s x y : Int} (h : x ≤ y) : hiOf s x ≤ hiOf s y := by unfold hiOf; split <;> split <;> omega
theorem open_eq (s d t m : Int) : open_ s d t m = (of s d t).filter fun p => decide (m < p.2) := by
  unfold open_ of
  rw [List.filter_reverse]
  congr 1
  apply take_filter
  intro i j a b hij ha hb hp
  by_cases hg : good s d t = true
  · obtain ⟨⟨o1, o2, o3, o4⟩, g1, g2⟩ := good_iff.1 hg
    rw [desc_good hg] at ha hb
    rw [List.getElem?_map] at ha hb
    obtain ⟨i', hi, rfl⟩ := Option.map_eq_some_iff.1 ha
    obtain ⟨j', hj, rfl⟩ := Option.map_eq_some_iff.1 hb
    have ei : i' = i := by
      have := List.getElem?_eq_some_iff.1 hi
      obtain ⟨_, h⟩ := this
      simpa using h.symm
    have ej : j' = j := by
      have := List.getElem?_eq_some_iff.1 hj
      obtain ⟨_, h⟩ := this
      simpa using h.symm
    subst ei ej
    have hm : (i' : Int) * d ≤ (j' : Int) * d := Int.mul_le_mul_of_nonneg_right (by omega) (by omega)
    have := hi_mono (s := s) (show top d t - (j' : Int) * d ≤ top d t - (i' : Int) * d by omega)
    have hp' : m < (win s d t j').2 := of_decide_eq_true hp
    show decide (m < (win s d t i').2) = true
    exact decide_eq_true (by unfold win at hp' ⊢; simp only at hp' ⊢; omega)
  · rw [desc_not (by simpa using hg)] at ha
    simp at ha
end Win
end Go.Proofs.Ytipmphkmeiogoaa
/- What holds of the windows of a time. -/
namespace Go.Proofs.Ytipmphkmeiogoaa
open Tick
set_option linter.unusedVariables false
namespace Win
variable {s d t : Int}
/-- Where the i-th window begins. -/
def lo (s d t : Int) (i : Nat) : Int := (t / d - (cnt s d t - 1 - i : Nat)) * d
theorem lo_top (i : Nat) : lo s d t i = top d t - ((cnt s d t - 1 - i : Nat) : Int) * d := by rw [top_eq, ← Int.sub_mul]; rfl
theorem of_at (h : good s d t = true) {i : Nat} (hi : i < cnt s d t) : (of s d t)[i]? = some (lo s d t i, hiOf s (lo s d t i)) := by
  have := of_get h (j := cnt s d t - 1 - i) (by omega)
  rw [show cnt s d t - 1 - (cnt s d t - 1 - i) = i by omega] at this
  rw [this, lo_top]
  rfl
theorem lo_bd (h : good s d t = true) {i : Nat} (hi : i < cnt s d t) : 0 ≤ lo s d t i ∧ lo s d t i ≤ t ∧ t < lo s d t i + s ∧ lo s d t i % d = 0 := by
  obtain ⟨⟨o1, o2, o3, o4⟩, g1, g2⟩ := good_iff.1 h
  have h1 := (cnt_lt (size := s) o1 o2 g1 (cnt s d t - 1 - i)).1 (by omega)
  rw [← lo_top] at h1
  have tb := top_bd o1 g1
  have h2 : lo s d t i ≤ top d t := by
    rw [lo_top]
    have : 0 ≤ ((cnt s d t - 1 - i : Nat) : Int) * d := Int.mul_nonneg (by omega) (by omega)
    omega
  exact ⟨h1.1, by omega, h1.2, by unfold lo; exact Int.mul_emod_left _ _⟩
theorem lo_next {i : Nat} (hi : i + 1 < cnt s d t) : lo s d t (i + 1) = lo s d t i + d := by
  unfold lo
  have e : (t / d - ((cnt s d t - 1 - (i + 1) : Nat) : Int)) = (t / d - ((cnt s d t - 1 - i : Nat) : Int)) + 1 := by omega
  rw [e, Int.add_mul, Int.one_mul]
theorem hi_bd {s x t : Int} (h1 : t < x + s) (h2 : t < 1099511627776) : t < hiOf s x ∧ hiOf s x ≤ 1099511627776 ∧ (hiOf s x = 1099511627776 ∨ hiOf s x - x = s) := by
  unfold hiOf
  split <;> omega
theorem cnt_facts (h : good s d t = true) : 1 ≤ cnt s d t ∧ (cnt s d t : Int) ≤ s / d + 1 ∧ (s - 1 ≤ t → s / d ≤ cnt s d t) ∧ (s = d → cnt s d t = 1) := by
  obtain ⟨⟨o1, o2, o3, o4⟩, g1, g2⟩ := good_iff.1 h
  have hp := cnt_pos (size := s) o1 o2 g1
  have hr := floor_lo g1 o1
  have hq : 0 ≤ t / d := Int.ediv_nonneg g1 (by omega)
  have hx : 0 ≤ (s - 1 - t % d) / d := Int.ediv_nonneg (by omega) (by omega)
  have e1 : (s - 1 - t % d) / d ≤ s / d := Int.ediv_le_ediv (by omega) (by omega)
  have e2 : s / d ≤ (s - 1 - t % d) / d + 1 := by
    have h1 : (s - d) / d ≤ (s - 1 - t % d) / d := Int.ediv_le_ediv (by omega) (by omega)
    have h2 : (s - d) / d = s / d - 1 := by
      have := Int.add_mul_ediv_right s (-1) (show d ≠ 0 by omega)
      rw [show s - d = s + -1 * d by omega, this]
      omega
    omega
  refine ⟨hp, by unfold cnt; omega, fun ht => ?_, fun he => ?_⟩
  · have e3 : s / d ≤ t / d + 1 := by
      have h1 : (s - d) / d ≤ t / d := Int.ediv_le_ediv (by omega) (by omega)
      have h2 : (s - d) / d = s / d - 1 := by
        have := Int.add_mul_ediv_right s (-1) (show d ≠ 0 by omega)
        rw [show s - d = s + -1 * d by omega, this]
        omega
      omega
    unfold cnt; omega
  · have e4 : (s - 1 - t % d) / d = 0 := Int.ediv_eq_zero_of_lt (by omega) (by omega)
    unfold cnt
    rw [e4]
    omega
end Win
end Go.Proofs.Ytipmphkmeiogoaa
