/- Due, Clone, All; a nil Heap. -/
import Derived.Test.YtklgehfbfokdlaaTimPopped
import Derived.Lib.SliceRun
namespace Go.Proofs.Ytklgehfbfokdlaa
open Go.RowKit
set_option linter.unusedVariables false
namespace Tim
def Hold (p : Prop) : Prop := p
theorem hold_mk {p : Prop} (h : Hold p) : p := h
theorem hold_out {p : Prop} (h : p) : Hold p := h
theorem cut_due {m : Int} {pre r : List Tm} (hs : Srt (pre ++ r)) (h1 : ∀ y ∈ pre, decide (y.at_ ≤ m) = true) (h2 : ∀ y, r.head? = some y → decide (y.at_ ≤ m) = false) : pre = due m (pre ++ r) ∧ r = rest m (pre ++ r) := by
  induction pre with
  | nil =>
    cases r with
    | nil => exact ⟨rfl, rfl⟩
    | cons x r =>
      have := due_stop hs (of_decide_eq_false (h2 x rfl))
      exact ⟨this.1.symm, this.2.symm⟩
  | cons x p ih =>
    have h := due_go (l := p ++ r) (of_decide_eq_true (h1 x (by simp)))
    have hi := ih (List.pairwise_cons.1 hs).2 (fun y hy => h1 y (by simp [hy]))
    rw [List.cons_append, h.1, h.2, ← hi.1, ← hi.2]
    exact ⟨rfl, rfl⟩
theorem Holds.srt {M : Nat → Prop} {w : World} {h : Nat} {l : List Tm} (H : Holds M w h l) : Srt l := by
  obtain ⟨d, _, h2⟩ := H
  exact h2.srt
/-- Hands back a row of its own; a Heap keeps what is left. -/
def GivesH (out left : List Tm) (M : Nat → Prop) (h : Nat) (w : World) (e : Ending) (w' : World) : Prop :=
  ∃ v, e = .returned v ∧ w'.ownsRow w.heap.size 27 2 v out.length (tc out) ∧ Holds M w' h left ∧ Mine M w w'
/-- Hands back a row of its own; what was stays. -/
def GivesL (out : List Tm) (w : World) (e : Ending) (w' : World) : Prop :=
  ∃ v, e = .returned v ∧ w'.ownsRow w.heap.size 27 2 v out.length (tc out) ∧ Below w.heap.size w w'
theorem tDue (M : Nat → Prop) (h : Nat) (l : List Tm) (m : Int) (w : World) (H : Holds M w h l) (hl : l.length ≤ 100000) :
    Calls Try.prog 15 #[.pointer (some ⟨h, 0, none⟩), .int .i64 m] w (GivesH (due m l) (rest m l) M h w) := by
  have HH := Lib.hid H
  have HL := Lib.hid hl
  clear H hl
  have hmf : ∀ (fn : Fn) (first cap : Array Value) (w : World), (Instr.makeFunc fn first cap).run Try.prog w = .ok (.func fn first cap) w := fun _ _ _ _ => rfl
  go_enter Try.func15, Try.ntmps15
  go_wp2_with (go_at_call 23; refine (poppedRipe M h l m _ HH.out HL.out).mono ?_; rintro e w1 ⟨v, pre, r, rfl, q1, q2, q3, q4, q5, q6⟩; have Q1 := Lib.hid q1; have Q2 := Lib.hid q2; have Q3 := Lib.hid q3; have Q4 := Lib.hid q4; have Q5 := Lib.hid q5; have Q6 := Lib.hid q6; clear q1 q2 q3 q4 q5 q6)
  go_ret
  have hc := cut_due (Q1.out ▸ HH.out.srt) Q2.out Q3.out
  rw [← Q1.out] at hc
  exact ⟨_, rfl, by rw [← hc.1]; exact Q6.out, by rw [← hc.2]; exact Q4.out, Q5.out⟩
theorem tClone (A : Option Addr) (c : Nat) (d : List Tm) (w : World) (hA : Row w A (tc d)) (hl : d.length ≤ 100000) : Calls Try.prog 28 #[.slice A d.length c] w (GivesL d w) := by
  rcases A with _ | ⟨b, off, sp⟩
  · have e : d = [] := by
      rcases hA with h | ⟨_, _, h, _⟩
      · have := tc_len d; rw [h] at this; exact List.eq_nil_of_length_eq_zero (by simp at this; omega)
      · cases h
    subst e
    clear hA
    have q : ∀ (w : World) (n c n' c' : Nat), (binOp .eql 48 (.slice none n c) (.slice none n' c')).run Try.prog w = .ok (.bool true) w := fun w n c n' c' => Lib.run_eql_slice_nil w _ _ none n c n' c' Try.underlying48
    go_enter Try.func28, Try.ntmps28
    go_wp2_with fail
    go_ret
    exact ⟨_, rfl, own_none, Below.refl _ _⟩
  · obtain ⟨i0, hi0, hz0, hz1, hz2⟩ := info_parts tmInfo
    have HI0 := Lib.hid hi0; have HZ0 := Lib.hid hz0; have HZ1 := Lib.hid hz1; have HZ2 := Lib.hid hz2
    have HA := Lib.hid hA
    have q : ∀ (w : World) (n c n' c' : Nat), (binOp .eql 48 (.slice (some ⟨b, off, sp⟩) n c) (.slice none n' c')).run Try.prog w = .ok (.bool false) w := fun w n c n' c' => Lib.run_eql_slice_nil w _ _ (some _) n c n' c' Try.underlying48
    clear hA hi0 hz0 hz1 hz2
    go_enter Try.func28, Try.ntmps28
    go_wp2_with (at_builtin; refine hold_mk ?_)
    refine hold_out ?_
    refine wpApp rfl _ _ 48 rfl w.heap.size 27 i0 _ 2 24 Try.underlying48 HI0.out HZ0.out HZ1.out HZ2.out rfl (by omega) _ 0 [] rfl
      (own_new (Nat.le_refl _)) _ d.length c (tc d) rfl (HA.out.below (below_al (Below.refl _ _))) (tc_len d) (tc_ones d) (by unfold maxLen; omega) (by omega) (by simp) ?_
    intro v2 w2 hown hb
    have HOW := Lib.hid hown
    have HB := Lib.hid ((below_al (o := .cells #[] 27) (Below.refl w.heap.size w)).trans hb)
    clear hown hb
    go_wp2_with fail
    go_ret
    refine ⟨_, rfl, ?_, HB.out⟩
    have := HOW.out
    rw [Nat.zero_add, List.nil_append] at this
    exact this
theorem own_base {w : World} {B B' size n : Nat} {e : TypeId} {v : Value} {xs : List Value} (h : w.ownsRow B e size v n xs) (hb : B' ≤ B) : w.ownsRow B' e size v n xs := by
  obtain ⟨hl, h | ⟨g, cap, cur, rfl, hg, r⟩⟩ := h
  · exact ⟨hl, .inl h⟩
  · exact ⟨hl, .inr ⟨g, cap, cur, rfl, Nat.le_trans hb hg, r⟩⟩
/-- The copy that All takes. -/
theorem holds_copy {w w1 : World} {d l : List Tm} {v : Value} (hr : Rep d l) (ho : w1.ownsRow w.heap.size 27 2 v d.length (tc d)) :
    Holds (fun k => k = w1.heap.size ∨ v.ownBlock = some k) (w1.alloc (.cells #[v] 50)) w1.heap.size l :=
  ⟨d, ⟨.inl rfl, fun k hk => hk.elim (fun e => by subst e; simp) fun e => by have := (own_lt ho k e).2; simp; omega, v, Lies.new _ _ _, own_base (ownsRow_block ho fun k _ hk => Below.heap_alloc _ _ k hk) (Nat.zero_le _),
    fun k hk => ⟨.inr hk, by have := (own_lt ho k hk).2; omega⟩⟩, hr⟩
set_option maxHeartbeats 1000000 in
theorem tAll (M : Nat → Prop) (h : Nat) (l : List Tm) (w : World) (H : Holds M w h l) (hl : l.length ≤ 100000) :
    Calls Try.prog 18 #[.pointer (some ⟨h, 0, none⟩)] w (GivesL l w) := by
  obtain ⟨d, h1, h2⟩ := H
  obtain ⟨A, c, hlie, hrow, _⟩ := h1.row
  have hc := hlie.cell (j := 0) rfl
  have HROW := Lib.hid hrow
  have HR := Lib.hid h2
  have HL := Lib.hid hl
  clear h1 h2 hrow hlie hl
  have hmf : ∀ (fn : Fn) (first cap : Array Value) (w : World), (Instr.makeFunc fn first cap).run Try.prog w = .ok (.func fn first cap) w := fun _ _ _ _ => rfl
  go_enter Try.func18, Try.ntmps18
  go_wp2_with first
    | (go_at_call 28
       refine (tClone A c d _ HROW.out (by have := HR.out.len; have := HL.out; omega)).mono ?_
       rintro e w1 ⟨v, rfl, q1, q2⟩
       obtain ⟨A1, c1, rfl, _⟩ := own_form q1 (by omega)
       have HC := Lib.hid (holds_copy HR.out q1)
       have HO := Lib.hid q1
       have HB := Lib.hid q2
       clear q1 q2)
    | (go_at_call 23
       refine (poppedAll _ w1.heap.size l _ HC.out HL.out).mono ?_
       rintro e w2 ⟨v2, pre, r, rfl, q1, q2, q3, q4, q5, q6⟩
       have Q1 := Lib.hid q1; have Q3 := Lib.hid q3; have Q5 := Lib.hid q5; have Q6 := Lib.hid q6
       clear q1 q2 q3 q4 q5 q6)
  go_ret
  have hr : r = [] := by
    cases hrr : r with
    | nil => rfl
    | cons y s =>
      have := Q3.out y (by rw [hrr]; rfl)
      cases this
  have hp : pre = l := by rw [Q1.out, hr, List.append_nil]
  subst hp
  have hs := HB.out.size
  refine ⟨_, rfl, own_base Q6.out (by simp; omega), Mine.below (below_al HB.out) Q5.out (fun k hk => ?_) (by simp; omega)⟩
  rcases hk with rfl | hk
  · exact hs
  · exact (own_lt HO.out k hk).1
end Tim
end Go.Proofs.Ytklgehfbfokdlaa
