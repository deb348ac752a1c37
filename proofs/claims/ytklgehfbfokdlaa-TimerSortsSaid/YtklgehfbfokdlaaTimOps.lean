/- A Heap's New, Len, Push, Pop; what is ripe. -/
import Derived.Test.YtklgehfbfokdlaaTimHp
namespace Go.Proofs.Ytklgehfbfokdlaa
open Go.RowKit
set_option linter.unusedVariables false
namespace Tim
/-- h is a Heap's block; it holds what the row in order holds. -/
def Holds (M : Nat → Prop) (w : World) (h : Nat) (l : List Tm) : Prop := ∃ d, HeapAt M w h d ∧ Rep d l
theorem Holds.mine {M M2 : Nat → Prop} {w w' : World} {h : Nat} {l : List Tm} (H : Holds M w h l) (hm : Mine M2 w w') (hd : ∀ k, M k → ¬ M2 k) : Holds M w' h l := by
  obtain ⟨d, h1, h2⟩ := H
  exact ⟨d, h1.mine hm hd, h2⟩
theorem Holds.below {M : Nat → Prop} {w w' : World} {h : Nat} {l : List Tm} (H : Holds M w h l) (hb : Below w.heap.size w w') : Holds M w' h l := by
  obtain ⟨d, h1, h2⟩ := H
  exact ⟨d, h1.below hb, h2⟩
theorem Holds.lt {M : Nat → Prop} {w : World} {h : Nat} {l : List Tm} (H : Holds M w h l) : ∀ k, M k → k < w.heap.size := by
  obtain ⟨d, h1, h2⟩ := H
  exact h1.lt
theorem Holds.own {M : Nat → Prop} {w : World} {h : Nat} {l : List Tm} (H : Holds M w h l) : M h := by
  obtain ⟨d, h1, h2⟩ := H
  exact h1.own
theorem Mine.up {M : Nat → Prop} {w w' : World} (hb : Below w.heap.size w w') : Mine M w w' := Mine.of_below hb (Nat.le_refl _)
/-- Blocks from B on may be turned too. -/
theorem Mine.set_new {M : Nat → Prop} {w w' : World} (h : Mine M w w') {a : Addr} (ha : w.heap.size ≤ a.block) (v : Value) : Mine M w (w'.setCell a v) :=
  h.next (M' := (· = a.block)) (fun k hk => .inr (by subst hk; exact ha)) (Mine.set _ _ rfl)
theorem tNew (w : World) : Calls Try.prog 9 #[] w fun e w' => e = .returned (.pointer (some ⟨w.heap.size, 0, none⟩)) ∧ w' = w.alloc (.cells #[.slice none 0 0] 50) := by
  go_enter Try.func9, Try.ntmps9
  go_wp2_with fail
  go_ret
  exact ⟨rfl, rfl⟩
theorem holds_new (w : World) : Holds (· = w.heap.size) (w.alloc (.cells #[.slice none 0 0] 50)) w.heap.size [] :=
  ⟨[], ⟨rfl, fun k hk => by subst hk; simp, _, Lies.new w _ _, own_none, fun k hk => by cases hk⟩, Rep.nil⟩
theorem tLen (M : Nat → Prop) (h : Nat) (l : List Tm) (w : World) (H : Holds M w h l) : Calls Try.prog 19 #[.pointer (some ⟨h, 0, none⟩)] w (SaysI l.length w) := by
  obtain ⟨d, h1, h2⟩ := H
  obtain ⟨A, c, hc⟩ := h1.cell0
  rw [h2.len] at hc
  clear h1 h2
  go_enter Try.func19, Try.ntmps19
  go_wp2_with fail
  go_ret
  exact ⟨rfl, rfl⟩
set_option maxHeartbeats 1000000 in
theorem tPush (M : Nat → Prop) (h : Nat) (l : List Tm) (x : Tm) (w : World) (H : Holds M w h l) (hl : l.length < 100000) :
    Calls Try.prog 10 #[.pointer (some ⟨h, 0, none⟩), tmV x] w fun e w' => e = .returned (.tuple #[]) ∧ ∃ M', Holds M' w' h (ins x l) ∧ Mine M w w' ∧ (∀ k, M k → M' k) ∧ ∀ k, M' k → M k ∨ w.heap.size ≤ k := by
  have HH := Lib.hid H
  clear H
  go_enter Try.func10, Try.ntmps10
  go_wp2_with fail
  refine still_tail 6 (by kernel_rfl) (by kernel_rfl) ?_
  intro w1 hw1
  simp only [List.take_succ_cons, List.take_zero, List.drop_succ_cons, List.drop_zero]
  have B1 := Lib.hid (below_drewOf (below_al (o := .cells (tmC x) 27) (Below.refl w.heap.size w)))
  have L1 := Lib.hid ((Lies.new w (tmC x) 27).drew)
  rw [hw1] at B1 L1
  clear hw1
  have c0 := L1.out.cell (j := 0) rfl; have c1 := L1.out.cell (j := 1) rfl
  repeat still_step
  refine wpStill_nil ?_
  obtain ⟨d, h1, h2⟩ := HH.out.below B1.out
  have H1 := Lib.hid h1
  have H2 := Lib.hid h2
  clear h1 h2
  go_wp2_with (go_at_call 21; refine (hpPush M h d l x _ H1.out H2.out (by rw [H2.out.len]; exact hl)).mono ?_; rintro e w2 ⟨rfl, M', d', q1, q2, q3, q4, q5⟩; have Q1 := Lib.hid q1; have Q2 := Lib.hid q2; have Q3 := Lib.hid q3; have Q4 := Lib.hid q4; have Q5 := Lib.hid q5; clear q1 q2 q3 q4 q5)
  go_end0
  exact ⟨rfl, M', ⟨d', Q1.out, Q5.out⟩, (Mine.up B1.out).trans Q2.out, Q3.out, fun k hk => (Q4.out k hk).imp id fun h => by have := B1.out.size; omega⟩
/-- What a pop hands back: the first one, where it may go; else none. -/
def PopPost (go : Tm → Bool) (M : Nat → Prop) (h : Nat) (l : List Tm) (w : World) (e : Ending) (w' : World) : Prop :=
  ∃ x b r, e = .returned (.tuple #[tmV x, .bool b]) ∧ Holds M w' h r ∧ Mine M w w' ∧ (b = true ∧ l = x :: r ∧ go x = true ∨ b = false ∧ l = r ∧ x = ⟨0, []⟩ ∧ ∀ y, r.head? = some y → go y = false)
/-- The way out of Pop. -/
theorem tim_ret12 {Post : Ending → World → Prop} {x : Tm} {b : Bool} {rb : Nat} {w : World} {t0 t1 t4 t5 t6 t7 t8 t9 t10 t11 t12 t13 : Value} (hl : Lies rb (tmC x) 27 w) (h : Post (.returned (.tuple #[tmV x, .bool b])) w) :
    bodyPost Try.prog Try.f12 Post Exit.ret { tmps := #[t0, t1, .pointer (some ⟨rb, 0, none⟩), .bool b, t4, t5, t6, t7, t8, t9, t10, t11, t12, t13], defers := [] } w := by
  have c0 := hl.cell (j := 0) rfl
  have c1 := hl.cell (j := 1) rfl
  exact bodyPost_ret (v := .tuple #[tmV x, .bool b]) (by simp [results, Try.results12, go_sem, c0, c1]) rfl h
set_option maxHeartbeats 1000000 in
theorem tPop (M : Nat → Prop) (h : Nat) (l : List Tm) (w : World) (H : Holds M w h l) (hl : l.length ≤ 100000) :
    Calls Try.prog 12 #[.pointer (some ⟨h, 0, none⟩)] w (PopPost (fun _ => true) M h l w) := by
  have HH := Lib.hid H
  clear H
  match l, HH, hl with
  | [], HH, hl =>
    go_enter Try.func12, Try.ntmps12
    go_wp2_with (go_at_call 19; refine (tLen M h [] _ (HH.out.below (below_al (Below.refl _ _)))).mono ?_; rintro e w1 ⟨rfl, rfl⟩)
    exact tim_ret12 (x := ⟨0, []⟩) (Lies.new w _ _) ⟨_, false, [], rfl, HH.out.below (below_al (Below.refl _ _)), Mine.alloc _ _ _, .inr ⟨rfl, rfl, rfl, fun y hy => by cases hy⟩⟩
  | x :: r, HH, hl =>
    have ea := fun w => asTimer (tmV x) w
    obtain ⟨n, hn⟩ : ∃ n, n = (x :: r).length := ⟨_, rfl⟩
    have hne : ((n : Int) == 0) = false := ne_b (by rw [hn, List.length_cons]; omega)
    have HN := Lib.hid hn
    have hnm : ¬ M w.heap.size := fun hm => by have := HH.out.lt _ hm; omega
    have HNM := Lib.hid hnm
    clear hn hnm
    go_enter Try.func12, Try.ntmps12
    go_wp2_with first
      | (go_at_call 19; refine (tLen M h (x :: r) _ (HH.out.below (below_al (Below.refl _ _)))).mono ?_; rintro e w1 ⟨rfl, rfl⟩; rw [← HN.out])
      | (go_at_call 22
         obtain ⟨d, h1, h2⟩ := HH.out.below (below_al (o := .cells #[.int .i64 0, .string ⟨#[]⟩] 27) (Below.refl _ _))
         refine (hpPop M h d r x _ h1 h2 (by rw [h2.len]; exact hl)).mono ?_
         clear h1 h2
         rintro e w2 ⟨rfl, d2, q1, q2, q3⟩
         have L2 := q2.lies (Lies.new w _ _) HNM.out
         have c0 := L2.cell (j := 0) rfl
         have c1 := L2.cell (j := 1) rfl
         have f0 := L2.free 0
         have f1 := L2.free 1
         have L2' := Lib.hid L2
         have Q1 := Lib.hid q1
         have Q2 := Lib.hid q2
         have Q3 := Lib.hid q3
         clear q1 q2 q3 L2)
    have m3 : Mine M w ((w2.setCell ⟨w.heap.size, 0, none⟩ (.int .i64 x.at_)).setCell ⟨w.heap.size, 1, none⟩ (.string (kS x.name))) :=
      (((Mine.alloc M w _).trans Q2.out).set_new (a := ⟨w.heap.size, 0, none⟩) (Nat.le_refl _) _).set_new (a := ⟨w.heap.size, 1, none⟩) (Nat.le_refl _) _
    have g3 : Holds M ((w2.setCell ⟨w.heap.size, 0, none⟩ (.int .i64 x.at_)).setCell ⟨w.heap.size, 1, none⟩ (.string (kS x.name))) h r :=
      Holds.mine ⟨d2, Q1.out, Q3.out⟩ (M2 := (· = w.heap.size)) ((Mine.set (M := (· = w.heap.size)) w2 (a := ⟨w.heap.size, 0, none⟩) _ rfl).trans (Mine.set (M := (· = w.heap.size)) _ (a := ⟨w.heap.size, 1, none⟩) _ rfl)) (fun k hk e => HNM.out (e ▸ hk))
    exact tim_ret12 (x := x) ((L2'.out.set 0 _).set 1 _) ⟨_, true, r, rfl, g3, m3, .inl ⟨rfl, rfl, rfl⟩⟩
end Tim
end Go.Proofs.Ytklgehfbfokdlaa
