/- pointsOf: the map of all points of the workers. -/
import Derived.Test.YtgpcbiballdioaaDoorRingPts
import Derived.Test.YtgpcbiballdioaaDoorRingHashC
import Derived.Test.YtgpcbiballdioaaDoorRingAsgR
import Derived.Maps.OwnIn
import Derived.Carry
namespace Go.Proofs.YtgpcbiballdioaaDoor
open Go.RowKit Go.Maps
set_option linter.unusedVariables false
set_option maxRecDepth 8000
namespace Rg
/-- m has just the points of S, each with its least worker. -/
structure PtsOf (S : Int → Nat → Prop) (m : Nat → Int) : Prop where
  src : ∀ h, m h ≠ 0 → ∃ i, S (m h) i ∧ wPt (m h).toNat i = h
  low : ∀ x i, S x i → m (wPt x.toNat i) ≠ 0 ∧ m (wPt x.toNat i) ≤ x
theorem PtsOf.none : PtsOf (fun _ _ => False) (fun _ => 0) := ⟨fun _ h => absurd rfl h, fun _ _ h => h.elim⟩
theorem PtsOf.next {S T : Int → Nat → Prop} {m : Nat → Int} (h : PtsOf S m) {x : Int} {i : Nat} (hx : 0 < x) (hT : ∀ y j, T y j ↔ S y j ∨ (y = x ∧ j = i)) : PtsOf T (upd m (wPt x.toNat i) x) := by
  obtain ⟨p, hp⟩ : ∃ p, p = wPt x.toNat i := ⟨_, rfl⟩
  rw [← hp]
  refine ⟨fun k hk => ?_, fun y j hyj => ?_⟩
  · unfold upd at hk ⊢
    by_cases e : k = p ∧ (m p = 0 ∨ x < m p)
    · rw [if_pos e]; exact ⟨i, (hT _ _).2 (.inr ⟨rfl, rfl⟩), by rw [e.1, hp]⟩
    · rw [if_neg e] at hk ⊢
      obtain ⟨j, h1, h2⟩ := h.src k hk
      exact ⟨j, (hT _ _).2 (.inl h1), h2⟩
  · unfold upd
    by_cases e : wPt y.toNat j = p ∧ (m p = 0 ∨ x < m p)
    · rw [if_pos e]
      rcases (hT _ _).1 hyj with h1 | ⟨rfl, rfl⟩
      · have h2 := h.low y j h1
        rw [e.1] at h2
        omega
      · omega
    · rw [if_neg e]
      rcases (hT _ _).1 hyj with h1 | ⟨rfl, rfl⟩
      · exact h.low y j h1
      · rw [← hp] at e ⊢
        have : ¬ (m p = 0 ∨ y < m p) := fun q => e ⟨rfl, q⟩
        omega
def GivesPts (l : List Int) (w : World) (e : Ending) (w' : World) : Prop :=
  ∃ (b nn : Nat) (m : Nat → Int), e = .returned (.map (some b)) ∧ nn ≤ 64 ∧ HasP w' b nn m ∧ PtsOf (fun y j => y ∈ l ∧ j < 8) m ∧ w.heap.size ≤ b ∧ Below w.heap.size w w'
set_option maxRecDepth 100000 in
set_option maxHeartbeats 2000000 in
theorem ckPts (l : List Int) (A : Option Addr) (c : Nat) (w : World) (h : Row w A (iv l)) (hl : l.length ≤ 8) (hm : ∀ x ∈ l, 0 < x ∧ x ≤ 99) :
    Calls Tryd.prog 15 #[.slice A l.length c] w (GivesPts l w) := by
  have H := Lib.hid h
  have HM := Lib.hid hm
  have HI := Lib.hid (fun n (h : n < 100) (w : World) => itItoa h w)
  have HH := Lib.hid (fun (s : ByteArray) (w : World) (h : s.size ≤ 9223372036854775807) => ckHash s w h)
  have HP := Lib.hid (fun (b nn h : Nat) (m : Nat → Int) (x : Int) (w : World) (H : HasP w b nn m) (hn : nn < 1000) (hh : h < 4294967296) (h0 : 0 < x) (h1 : x ≤ 99) => ckPut b nn h m x w H hn hh h0 h1)
  have HS := Lib.hid (HasP.mk w)
  have HB0 := Lib.hid (al_below w (.map #[] 0))
  have hmm := @run_makeMap Tryd.prog
  clear h hm
  go_enter Tryd.func15, Tryd.ntmps15
  go_wp2_with fail
  clear hmm
  go_loopw [5, 6, 10, 14] (fun _ _ s10 _ wr => ∃ (k : Nat) (m : Nat → Int), s10 = .int .i64 k ∧ k ≤ l.length ∧ PtsOf (fun y j => y ∈ l.take k ∧ j < 8) m ∧ HasP wr w.heap.size (8 * k) m ∧ Below w.heap.size w wr) (fun _ _ s10 _ _ => l.length - (intOf s10).toNat)
  case atStart =>
    refine ⟨0, fun _ => 0, rfl, Nat.zero_le _, ⟨fun _ h => absurd rfl h, fun _ _ h => ?_⟩, HS.out, HB0.out⟩
    have := h.1
    simp at this
  case round =>
    obtain ⟨k, m, rfl, hk, hpt, hhp, hb⟩ := hrel
    have HPT := Lib.hid hpt; have HHP := Lib.hid hhp; have HB := Lib.hid hb
    clear hpt hhp hb
    by_cases hlt : k < l.length
    · obtain ⟨x, hx⟩ : ∃ x, l[k]? = some x := ⟨_, List.getElem?_eq_getElem hlt⟩
      have hxm := HM.out x (List.mem_of_getElem? hx)
      obtain ⟨n, rfl⟩ : ∃ n : Nat, x = n := ⟨x.toNat, by omega⟩
      have hn : n < 100 := by omega
      have hn0 : 0 < n := by omega
      obtain ⟨b, off, rfl, c0⟩ := row_int (H.out.below HB.out) hx
      have HX := Lib.hid hx
      clear hx hxm
      obtain ⟨d1, hd1⟩ : ∃ d, d = dec n := ⟨_, rfl⟩
      obtain ⟨t0, ht0⟩ : ∃ d, d = wT0 n := ⟨_, rfl⟩
      obtain ⟨t1, ht1⟩ : ∃ d, d = wT1 n := ⟨_, rfl⟩
      have c2 : ∀ w : World, (Op.stringOp .add ⟨#[119]⟩ d1).run Tryd.prog w = .ok (.string t0) w := fun w => by
        rw [ht0, hd1]
        exact run_string_add w _ _ (by decide) (by have := dec_size hn; omega)
      have c3 : ∀ w : World, (Op.stringOp .add t0 ⟨#[35]⟩).run Tryd.prog w = .ok (.string t1) w := fun w => by
        rw [ht1, ht0]
        exact run_string_add w _ _ (by have := wT0_size hn; omega) (by decide)
      have HD1 := Lib.hid hd1
      have HT1 := Lib.hid ht1
      clear hd1 ht0 ht1
      go_wp2_with fail
      go_loopw [6, 14] (fun _ s14 wi => ∃ (i : Nat) (m : Nat → Int), s14 = .int .i64 i ∧ i ≤ 8 ∧ PtsOf (fun y j => (y ∈ l.take k ∧ j < 8) ∨ (y = n ∧ j < i)) m ∧ HasP wi w.heap.size (8 * k + i) m ∧ Below w.heap.size w wi) (fun _ s14 _ => 8 - (intOf s14).toNat)
      case atStart =>
        refine ⟨0, m, rfl, Nat.zero_le _, ⟨fun h hh => ?_, fun y j hy => ?_⟩, HHP.out, HB.out⟩
        · obtain ⟨i, h1, h2⟩ := HPT.out.src h hh
          exact ⟨i, .inl h1, h2⟩
        · rcases hy with h1 | ⟨_, h1⟩
          · exact HPT.out.low y j h1
          · omega
      case round =>
        obtain ⟨i, m2, rfl, hi, hpt, hhp, hb⟩ := hrel
        have HPT2 := Lib.hid hpt; have HHP2 := Lib.hid hhp; have HB2 := Lib.hid hb
        clear hpt hhp hb
        by_cases hi8 : i < 8
        · have hi100 : i < 100 := by omega
          obtain ⟨d2, hd2⟩ : ∃ d, d = dec i := ⟨_, rfl⟩
          obtain ⟨t2, ht2⟩ : ∃ d, d = wT n i := ⟨_, rfl⟩
          obtain ⟨p0, hp0⟩ : ∃ d, d = wPt n i := ⟨_, rfl⟩
          have c4 : ∀ w : World, (Op.stringOp .add t1 d2).run Tryd.prog w = .ok (.string t2) w := fun w => by
            rw [ht2, hd2, HT1.out]
            exact run_string_add w _ _ (by have := wT1_size hn; omega) (by have := dec_size hi100; omega)
          have hts2 : t2.size ≤ 6 := by rw [ht2]; exact wT_size hn hi100
          have HD2 := Lib.hid hd2
          have HT2 := Lib.hid (show p0 = hash t2.data.toList by rw [hp0, ht2]; rfl)
          have hp0l : p0 < 4294967296 := by rw [hp0]; exact wPt_lt _ _
          have HN := Lib.hid (show PtsOf (fun y j => (y ∈ l.take k ∧ j < 8) ∨ (y = n ∧ j < i + 1)) (upd m2 p0 n) by
            rw [hp0]
            refine HPT2.out.next (x := (n : Int)) (i := i) (by omega) fun y j => ?_
            constructor
            · rintro (h | ⟨h1, h2⟩)
              · exact .inl (.inl h)
              · by_cases e : j = i
                · exact .inr ⟨h1, e⟩
                · exact .inl (.inr ⟨h1, by omega⟩)
            · rintro ((h | ⟨h1, h2⟩) | ⟨h1, h2⟩)
              · exact .inl h
              · exact .inr ⟨h1, by omega⟩
              · exact .inr ⟨h1, by omega⟩)
          clear hd2 ht2 hp0
          go_wp2_with fail
          refine (HI.out n hn _).mono ?_
          rintro e w3 ⟨rfl, rfl⟩
          rw [← HD1.out]
          go_wp2_with fail
          refine (HI.out i hi100 _).mono ?_
          rintro e w4 ⟨rfl, rfl⟩
          rw [← HD2.out]
          go_wp2_with fail
          refine (HH.out t2 _ (by omega)).mono ?_
          rintro e w5 ⟨rfl, rfl⟩
          rw [← HT2.out]
          go_wp2_with fail
          refine (HP.out w.heap.size (8 * k + i) p0 m2 n _ HHP2.out (by omega) hp0l (by omega) (by omega)).mono ?_
          rintro e w6 ⟨rfl, h1, h2⟩
          have HHP3 := Lib.hid h1
          have HB3 := Lib.hid (HB2.out.grown h2 HB2.out.size (fun q hq => by injection hq with hq; omega))
          clear h1 h2
          go_wp2_with fail
          go_roundw
          case rel => exact ⟨i + 1, _, by go_num, by omega, HN.out, HHP3.out, HB3.out⟩
          case measure => simp [intOf]; omega
        · have e8 : i = 8 := by omega
          subst e8
          have HN := Lib.hid (show PtsOf (fun y j => y ∈ l.take (k + 1) ∧ j < 8) m2 by
            have e : ∀ y j, (y ∈ l.take (k + 1) ∧ j < 8) ↔ ((y ∈ l.take k ∧ j < 8) ∨ (y = (n : Int) ∧ j < 8)) := fun y j => by
              rw [List.take_add_one, HX.out, List.mem_append]
              simp only [Option.toList_some, List.mem_singleton, or_and_right]
            exact ⟨fun h hh => by obtain ⟨i, h1, h2⟩ := HPT2.out.src h hh; exact ⟨i, (e _ _).2 h1, h2⟩, fun y j hy => HPT2.out.low y j ((e _ _).1 hy)⟩)
          go_wp2_with fail
          go_roundw
          case rel => exact ⟨k + 1, m2, by go_num, by omega, HN.out, HHP2.out, HB2.out⟩
          case measure => simp [intOf]; omega
    · have hke : l.take k = l := List.take_of_length_le (by omega)
      have HE := Lib.hid (show PtsOf (fun y j => y ∈ l ∧ j < 8) m by have := HPT.out; rw [hke] at this; exact this)
      have hge : l.length ≤ k := by omega
      clear hke
      go_wp2_with fail
      go_ret
      exact ⟨w.heap.size, 8 * k, m, rfl, by omega, HHP.out, HE.out, Nat.le_refl _, HB.out⟩
end Rg
end Go.Proofs.YtgpcbiballdioaaDoor
