/- What is ripe. -/
import Derived.Test.YtklgehfbfokdlaaTimOps
namespace Go.Proofs.Ytklgehfbfokdlaa
open Go.RowKit
set_option linter.unusedVariables false
namespace Tim
theorem _root_.Go.Proofs.Ytklgehfbfokdlaa.Lies.drewN {b : Nat} {C : Array Value} {T : TypeId} {w : World} (h : Lies b C T w) (n : Nat) : Lies b C T (w.drewN n) := h
theorem Rep.first {d r : List Tm} {x : Tm} (h : Rep d (x :: r)) : d[0]? = some x := by
  have hl : d.length = r.length + 1 := by rw [h.len]; rfl
  obtain ⟨y, hy⟩ : ∃ y, d[0]? = some y := ⟨_, List.getElem?_eq_getElem (by omega)⟩
  rw [hy, h.head hy]
theorem Holds.set2 {M : Nat → Prop} {w : World} {h rb : Nat} {l : List Tm} (H : Holds M w h l) (hb : ¬ M rb) (u v : Value) : Holds M ((w.setCell ⟨rb, 0, none⟩ u).setCell ⟨rb, 1, none⟩ v) h l :=
  H.mine (M2 := (· = rb)) ((Mine.set (M := (· = rb)) w (a := ⟨rb, 0, none⟩) _ rfl).trans (Mine.set (M := (· = rb)) _ (a := ⟨rb, 1, none⟩) _ rfl)) (fun k hk e => hb (e ▸ hk))
theorem Mine.set2 {M : Nat → Prop} {w w' : World} {rb : Nat} (m : Mine M w w') (hb : w.heap.size ≤ rb) (u v : Value) : Mine M w ((w'.setCell ⟨rb, 0, none⟩ u).setCell ⟨rb, 1, none⟩ v) :=
  (m.set_new (a := ⟨rb, 0, none⟩) hb _).set_new (a := ⟨rb, 1, none⟩) hb _
theorem _root_.Go.Proofs.Ytklgehfbfokdlaa.Lies.set2 {w : World} {rb : Nat} {T : TypeId} {u0 v0 : Value} (h : Lies rb #[u0, v0] T w) (u v : Value) : Lies rb #[u, v] T ((w.setCell ⟨rb, 0, none⟩ u).setCell ⟨rb, 1, none⟩ v) := by
  have := (h.set 0 u).set 1 v
  simpa using this
/-- The way out of pop. -/
theorem tim_ret24 {Post : Ending → World → Prop} {x : Tm} {b : Bool} {rb : Nat} {w : World} {t0 t1 t4 t5 t6 t7 t8 t9 t10 t11 t12 t13 t14 t15 t16 t17 t18 t19 t20 t21 t22 t23 t24 t25 t26 : Value} (hl : Lies rb (tmC x) 27 w) (h : Post (.returned (.tuple #[tmV x, .bool b])) w) :
    bodyPost Try.prog Try.f24 Post Exit.ret { tmps := #[t0, t1, .pointer (some ⟨rb, 0, none⟩), .bool b, t4, t5, t6, t7, t8, t9, t10, t11, t12, t13, t14, t15, t16, t17, t18, t19, t20, t21, t22, t23, t24, t25, t26], defers := [] } w := by
  have c0 := hl.cell (j := 0) rfl
  have c1 := hl.cell (j := 1) rfl
  exact bodyPost_ret (v := .tuple #[tmV x, .bool b]) (by simp [results, Try.results24, go_sem, c0, c1]) rfl h
set_option maxHeartbeats 2000000 in
theorem ripePop (M : Nat → Prop) (h : Nat) (l : List Tm) (mark : Int) (w : World) (H : Holds M w h l) (hl : l.length ≤ 100000) :
    Calls Try.prog 24 #[.agg #[.pointer (some ⟨h, 0, none⟩), .int .i64 mark]] w (PopPost (fun x => decide (x.at_ ≤ mark)) M h l w) := by
  have HH := Lib.hid H
  have HNM : Hid (¬ M (w.heap.size + 1)) := Lib.hid fun hm => by have := H.lt _ hm; omega
  have HHL := Lib.hid (show h < w.heap.size from H.lt h H.own)
  clear H
  have B2 := Lib.hid (below_al (o := .cells #[.int .i64 0, .string ⟨#[]⟩] 27) (below_al (o := .cells #[.pointer (some ⟨h, 0, none⟩), .int .i64 mark] 56) (Below.refl w.heap.size w)))
  have L2 := Lib.hid ((Lies.new w #[.pointer (some ⟨h, 0, none⟩), .int .i64 mark] 56).al (o := .cells #[.int .i64 0, .string ⟨#[]⟩] 27))
  have L3 := Lib.hid (Lies.new (w.alloc (.cells #[.pointer (some ⟨h, 0, none⟩), .int .i64 mark] 56)) #[.int .i64 0, .string ⟨#[]⟩] 27)
  rw [World.size_alloc] at L3
  by_cases hlc : l = []
  · subst hlc
    have HN := Lib.hid (fun (w' : World) (hb : Below w.heap.size w w') => tLen M h [] w' (HH.out.below hb))
    go_enter Try.func24, Try.ntmps24
    go_wp2_with fail
    go_quiet (first | (go_at_call 19; refine Calls.quiet_of_same (still_of (HN.out _ (below_drewN B2.out)))))
    go_wp2_with fail
    exact tim_ret24 (x := ⟨0, []⟩) (Lies.set2 (L3.out.drewN _) _ _) ⟨_, false, [], rfl, (HH.out.below (below_drewN B2.out)).set2 HNM.out _ _, (Mine.up (below_drewN B2.out)).set2 (Nat.le_succ _) _ _, .inr ⟨rfl, rfl, rfl, fun y hy => by cases hy⟩⟩
  · obtain ⟨x, r, rfl⟩ := List.exists_cons_of_ne_nil hlc
    clear hlc
    obtain ⟨n, hn⟩ : ∃ n, n = (x :: r).length := ⟨_, rfl⟩
    have hne : ((n : Int) == 0) = false := ne_b (by rw [hn, List.length_cons]; omega)
    have hn0 : (0 : Int) < (n : Int) := by rw [hn, List.length_cons]; omega
    have HN := Lib.hid (fun (w' : World) (hb : Below w.heap.size w w') => tLen M h (x :: r) w' (HH.out.below hb))
    rw [← hn] at HN
    have HX : Hid (∃ g cap, w.cell? ⟨h, 0, none⟩ = some (.slice (some ⟨g, 0, none⟩) n cap) ∧ w.cell? ⟨g, 0, none⟩ = some (.int .i64 x.at_)) := by
      obtain ⟨d, h1, h2⟩ := HH.out
      obtain ⟨g, cap, q1, q2, _⟩ := h1.open_ (by rw [h2.len]; exact Nat.succ_pos _)
      have q3 := (own_cellsT q2 h2.first).1
      rw [Nat.zero_mul] at q3
      rw [h2.len, ← hn] at q1
      exact Lib.hid ⟨g, cap, q1.cell (j := 0) rfl, q3⟩
    obtain ⟨g, cap, k1, k2⟩ := HX.out
    have k1 := cell_below k1 B2.out
    have k2 := cell_below k2 B2.out
    have HL := Lib.hid hl
    clear HX hn hl
    by_cases hm : x.at_ ≤ mark
    · have hm' : ¬ mark < x.at_ := by omega
      have HM := Lib.hid hm
      clear hm
      go_enter Try.func24, Try.ntmps24
      go_wp2_with fail
      go_quiet (first | (go_at_call 19; refine Calls.quiet_of_same (still_of (HN.out _ (below_drewN B2.out)))))
      have h3 := L3.out.drewN nq
      go_wp2_with (go_at_call 12; refine (tPop M h (x :: r) _ (HH.out.below (below_drewN B2.out)) HL.out).mono ?_; rintro e w4 ⟨x4, b4, r4, rfl, q1, q2, q3⟩; have L4 := q2.lies h3 HNM.out; have c0 := L4.cell (j := 0) rfl; have c1 := L4.cell (j := 1) rfl; have f0 := L4.free 0; have f1 := L4.free 1; have L4' := Lib.hid L4; have Q1 := Lib.hid q1; have Q2 := Lib.hid q2; have Q3 := Lib.hid q3; clear q1 q2 q3 L4 h3)
      refine tim_ret24 (x := x4) (Lies.set2 L4'.out _ _) ⟨x4, b4, r4, rfl, Q1.out.set2 HNM.out _ _, ((Mine.up (below_drewN B2.out)).trans Q2.out).set2 (Nat.le_succ _) _ _, ?_⟩
      rcases Q3.out with ⟨e1, e2, _⟩ | ⟨_, e2, _, e3⟩
      · cases e2
        exact .inl ⟨e1, rfl, decide_eq_true HM.out⟩
      · subst e2
        have := e3 x rfl
        cases this
    · have hm' : mark < x.at_ := by omega
      have HM := Lib.hid hm
      clear hm
      go_enter Try.func24, Try.ntmps24
      go_wp2_with fail
      go_quiet (first | (go_at_call 19; refine Calls.quiet_of_same (still_of (HN.out _ (below_drewN B2.out)))))
      go_wp2_with fail
      exact tim_ret24 (x := ⟨0, []⟩) (Lies.set2 (L3.out.drewN _) _ _) ⟨_, false, x :: r, rfl, (HH.out.below (below_drewN B2.out)).set2 HNM.out _ _, (Mine.up (below_drewN B2.out)).set2 (Nat.le_succ _) _ _, .inr ⟨rfl, rfl, rfl, fun y hy => by cases hy; exact decide_eq_false (by have := HM.out; omega)⟩⟩
end Tim
end Go.Proofs.Ytklgehfbfokdlaa
