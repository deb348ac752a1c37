/- A link that comes to an end; a sender that has no room. No code. -/
import Derived.Test.YtbdlmokgmgpbfaaLinkPlay
namespace Go.Proofs.Ytbdlmokgmgpbfaa
set_option linter.unusedVariables false
namespace Lk
/-- A sender with another timer. -/
def tw (s : Sn) (t : Int) : Sn := { s with timer := t }
theorem tw_right {s : Sn} (h : rightS s = true) (h0 : 0 < s.bodies.length) {t : Int} (ht : 1 ≤ t ∧ t ≤ 4) : rightS (tw s t) = true := by
  rw [right_iff] at h ⊢
  obtain ⟨g1, g2, g3, g4, g5, g6⟩ := h
  exact ⟨g1, g2, g3, g4, fun e => absurd e (by show s.bodies.length ≠ 0; omega), fun _ => ht⟩
theorem tick_down {s : Sn} (h : rightS s = true) (h0 : 0 < s.bodies.length) {t : Int} (ht : 2 ≤ t ∧ t ≤ 4) : tickO (tw s t) = (tw s (t - 1), []) := by
  unfold tickO
  rw [if_neg (by rw [tw_right h h0 (by omega)]; simp only [Bool.true_eq_false, false_or]; show s.bodies.length ≠ 0; omega), if_pos (by show 1 < t; omega)]
  rfl
theorem tick_send {s : Sn} (h : rightS s = true) (h0 : 0 < s.bodies.length) : tickO (tw s 1) = (tw s 4, packs s.epoch s.base s.bodies) := by
  unfold tickO
  rw [if_neg (by rw [tw_right h h0 (by omega)]; simp only [Bool.true_eq_false, false_or]; show s.bodies.length ≠ 0; omega), if_neg (by show ¬ (1 : Int) < 1; omega)]
  rfl
/-- What is on its way, and which timer. -/
def sw (p : Wy) (t : Int) (l : List Pk) : Wy := { p with s := tw p.s t, way := l }
theorem sw_down {p : Wy} (h : rightS p.s = true) (h0 : 0 < p.s.bodies.length) {t : Int} (ht : 2 ≤ t ∧ t ≤ 4) (l : List Pk) : tickW (sw p t l) = sw p (t - 1) l := by
  unfold tickW sw
  simp only [tick_down h h0 ht, List.append_nil]
  congr 1
  split <;> rfl
theorem sw_send {p : Wy} (h : rightS p.s = true) (h0 : 0 < p.s.bodies.length) : tickW (sw p 1 []) = sw p 4 (packs p.s.epoch p.s.base p.s.bodies) := by
  unfold tickW sw
  simp only [tick_send h h0, List.nil_append, List.length_nil]
  rfl
/-- Four ticks send all bodies, once. -/
theorem ticks4 {p : Wy} (h : rightS p.s = true) : ∃ t : Int, tickW (tickW (tickW (tickW { p with way := [] }))) = sw p t (packs p.s.epoch p.s.base p.s.bodies) := by
  rcases Nat.eq_zero_or_pos p.s.bodies.length with h0 | h0
  · have hb : p.s.bodies = [] := List.eq_nil_of_length_eq_zero h0
    have ht : tickO p.s = (p.s, []) := by unfold tickO; rw [if_pos (.inr h0)]
    have h1 : tickW { p with way := [] } = { p with way := [] } := by
      unfold tickW
      simp only [ht, List.append_nil, ite_self]
    refine ⟨p.s.timer, ?_⟩
    rw [h1, h1, h1, h1]
    have e : packs p.s.epoch p.s.base p.s.bodies = [] := by rw [hb]; rfl
    rw [e]
    rfl
  · have ht := ((right_iff _).1 h).2.2.2.2.2 h0
    have e : ({ p with way := [] } : Wy) = sw p p.s.timer [] := rfl
    rw [e]
    have hc : p.s.timer = 1 ∨ p.s.timer = 2 ∨ p.s.timer = 3 ∨ p.s.timer = 4 := by omega
    rcases hc with e1 | e1 | e1 | e1
    · refine ⟨1, ?_⟩
      rw [e1, sw_send h h0, sw_down h h0 (by omega), sw_down h h0 (by omega), sw_down h h0 (by omega)]
      rfl
    · refine ⟨2, ?_⟩
      rw [e1, sw_down h h0 (by omega), show (2 : Int) - 1 = 1 from rfl, sw_send h h0, sw_down h h0 (by omega), sw_down h h0 (by omega)]
      rfl
    · refine ⟨3, ?_⟩
      rw [e1, sw_down h h0 (by omega), sw_down h h0 (by omega), show (3 : Int) - 1 - 1 = 1 from rfl, sw_send h h0, sw_down h h0 (by omega)]
      rfl
    · refine ⟨4, ?_⟩
      rw [e1, sw_down h h0 (by omega), sw_down h h0 (by omega), sw_down h h0 (by omega), show (4 : Int) - 1 - 1 - 1 = 1 from rfl, sw_send h h0]
/-- A link that is drained: what is on its way, in order, from a number on. -/
structure Dr (ep : Int) (n : Nat) (p : Wy) (no : Int) (l : List ByteArray) : Prop where
  inv : Inv ep n p
  way : p.way = packs ep no l
  nol : no ≤ p.r.want
  sum : no + l.length = p.put.length
theorem dr_start {ep : Int} {n : Nat} {p : Wy} (h : Inv ep n p) : ∃ q, tickW (tickW (tickW (tickW { p with way := [] }))) = q ∧ Dr ep (n + 4) q p.s.base p.s.bodies := by
  have hi := tick_inv (tick_inv (tick_inv (tick_inv (h.ways [] (by simp) (Nat.zero_le _)))))
  obtain ⟨t, ht⟩ := ticks4 h.right
  rw [ht] at hi
  refine ⟨_, ht, hi, ?_, h.bw, h.sum⟩
  show packs p.s.epoch p.s.base p.s.bodies = _
  rw [h.se]
theorem idx_zero {n : Nat} (h : 0 < n) : idx 0 n = 0 := by
  unfold idx
  rw [Int.zero_tmod, Int.zero_add, Int.tmod_self]
  rfl
def a1 : Ac := ⟨1, 0, ByteArray.empty⟩
def a5 : Ac := ⟨5, 0, ByteArray.empty⟩
theorem do_a5 (p : Wy) : doO p a5 = tickW p := rfl
theorem do_a1 {p : Wy} {x : Pk} {l : List Pk} (h : p.way = x :: l) : doO p a1 = { tellO p x with way := l } := by
  unfold doO
  have hi : idx a1.which p.way.length = 0 := idx_zero (by rw [h]; simp)
  rw [if_neg (by decide), if_neg (by decide), if_neg (by decide), if_pos (by decide), hi, h]
  rfl
theorem dr_step {ep : Int} {n : Nat} {p : Wy} {no : Int} {b : ByteArray} {l : List ByteArray} (h : Dr ep n p no (b :: l)) (hn : n ≤ 1000) : Dr ep (n + 1) (doO p a1) (no + 1) l := by
  have hw : p.way = ⟨ep, no, b⟩ :: packs ep (no + 1) l := h.way
  have hi := do_inv h.inv hn a1
  have hx := h.inv.way ⟨ep, no, b⟩ (by rw [hw]; simp)
  obtain ⟨t1, t2, t3, t4, t5⟩ := tell_inv h.inv hn hx
  have e := do_a1 hw
  refine ⟨hi, by rw [e], ?_, ?_⟩
  · rw [e]
    show no + 1 ≤ (tellO p ⟨ep, no, b⟩).r.want
    rw [t5]
    have := h.nol
    simp only
    split <;> omega
  · rw [e]
    show no + 1 + (l.length : Int) = ((tellO p ⟨ep, no, b⟩).put.length : Int)
    rw [t3]
    have := h.sum
    rw [List.length_cons] at this
    omega
/-- At the end nothing is left. -/
theorem dr_end {ep : Int} {n : Nat} {p : Wy} {no : Int} (h : Dr ep n p no []) : (ackO p.s p.s.epoch p.r.want).2 = 0 ∧ (ackO p.s p.s.epoch p.r.want).1.bodies = [] ∧ p.got.length = p.put.length ∧ p.ok = true := by
  have h1 := h.nol; have h2 := h.sum; have h3 := h.inv.want; have h4 := h.inv.gl; have h5 := h.inv.sum; have h6 := h.inv.bw
  simp only [List.length_nil] at h2
  have hw : p.r.want = p.put.length := by omega
  rw [ack_ok h.inv.right h6 (by omega)]
  refine ⟨rfl, ?_, by omega, h.inv.ok⟩
  by_cases e : p.r.want = p.s.base
  · rw [if_pos e]
    exact List.eq_nil_of_length_eq_zero (by show p.s.bodies.length = 0; omega)
  · rw [if_neg e]
    exact List.drop_eq_nil_of_le (by omega)
/-- A sender of bodies that are alike. -/
def bB : ByteArray := ⟨#[98]⟩
def rs (ep base : Int) (m : Nat) : Sn := ⟨ep, base, List.replicate m bB, if m = 0 then 0 else 4⟩
theorem rs_right {ep base : Int} {m : Nat} (h : 0 ≤ ep ∧ ep ≤ 1073741824) (hb : 0 ≤ base ∧ base ≤ 1000000) (hm : m ≤ 8) : rightS (rs ep base m) = true := by
  rw [right_iff]
  unfold rs
  simp only [List.length_replicate]
  refine ⟨fun b hb2 => ?_, hm, h, by omega, fun e => if_pos e, fun e => by rw [if_neg (by omega)]; omega⟩
  rw [List.eq_of_mem_replicate hb2]
  show (1 : Nat) ≤ 4096
  omega
theorem rs_push {ep base : Int} {m : Nat} (h : 0 ≤ ep ∧ ep ≤ 1073741824) (hb : 0 ≤ base ∧ base ≤ 1000000) (hm : m ≤ 8) : pushO (rs ep base m) bB = if m = 8 then (zS, zP, 3) else (rs ep base (m + 1), ⟨ep, base + m, bB⟩, 0) := by
  unfold pushO
  have hl : (rs ep base m).bodies.length = m := by unfold rs; simp
  have hs : ¬ 4096 < bB.size := by show ¬ 4096 < 1; omega
  rw [if_neg (by rw [rs_right h hb hm]; simp), if_neg hs, hl]
  by_cases e : m = 8
  · rw [if_pos (.inl e), if_pos e]
  · have hne : ¬ (m = 8 ∨ (rs ep base m).base + (m : Int) = 1073741824) := by
      rintro (h1 | h1)
      · exact e h1
      · have : base + (m : Int) = 1073741824 := h1
        omega
    rw [if_neg hne, if_neg e]
    unfold rs
    simp only [Nat.add_eq_zero_iff, Nat.one_ne_zero, and_false, if_false, List.replicate_succ']
    by_cases e0 : m = 0
    · rw [if_pos e0]
    · rw [if_neg e0, if_neg e0]
theorem rs_ack {ep base : Int} (h : 0 ≤ ep ∧ ep ≤ 1073741824) (hb : 0 ≤ base ∧ base ≤ 1000000) {k : Nat} (hk : k ≤ 8) : ackO (rs ep base 8) ep (base + k) = (rs ep (base + k) (8 - k), 0) := by
  have hl : (rs ep base 8).bodies.length = 8 := by unfold rs; simp
  have h1 := ack_ok (rs_right h hb (Nat.le_refl 8)) (want := base + k) (by show base ≤ base + (k : Int); omega) (by rw [hl]; show base + (k : Int) ≤ base + 8; omega)
  rw [hl] at h1
  refine h1.trans ?_
  by_cases e : k = 0
  · subst e
    rw [if_pos (by show base + ((0 : Nat) : Int) = base; omega)]
    simp
  · rw [if_neg (by show ¬ base + (k : Int) = base; omega)]
    unfold rs
    simp only [List.drop_replicate]
    have e1 : (base + (k : Int) - base).toNat = k := by omega
    rw [e1]
    congr 2
    by_cases e2 : k = 8
    · rw [if_pos (by omega), if_pos (by omega)]
    · rw [if_neg (by omega), if_neg (by omega)]
end Lk
end Go.Proofs.Ytbdlmokgmgpbfaa
