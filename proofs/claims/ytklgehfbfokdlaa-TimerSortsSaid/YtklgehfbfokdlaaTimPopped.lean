/- popped: all that a pop hands back, till it has no more; over a Heap's Pop, over what is ripe. -/
import Derived.Test.YtklgehfbfokdlaaTimRipe
namespace Go.Proofs.Ytklgehfbfokdlaa
open Go.RowKit
set_option linter.unusedVariables false
namespace Tim
/-- Where the loop stands: what was told, what is in hand, what is left. -/
structure PopTo (go : Tm → Bool) (M : Nat → Prop) (h : Nat) (l : List Tm) (w : World) (pre : List Tm) (x : Tm) (b : Bool) (r : List Tm) (tb : Nat) (v : Value) (wr : World) : Prop where
  heap : Holds M wr h r
  mine : Mine M w wr
  own : wr.ownsRow w.heap.size 27 2 v pre.length (tc pre)
  lies : Lies tb (tmC x) 27 wr
  new_ : w.heap.size ≤ tb
  apart : v.ownBlock ≠ some tb
  all : ∀ y ∈ pre, go y = true
  case : (b = true ∧ l = pre ++ x :: r ∧ go x = true) ∨ (b = false ∧ l = pre ++ r ∧ ∀ y, r.head? = some y → go y = false)
/-- What it hands back: those that may go, as a row of its own; the others are left. -/
def Popped (go : Tm → Bool) (M : Nat → Prop) (h : Nat) (l : List Tm) (w : World) (e : Ending) (w' : World) : Prop :=
  ∃ v pre r, e = .returned v ∧ l = pre ++ r ∧ (∀ y ∈ pre, go y = true) ∧ (∀ y, r.head? = some y → go y = false) ∧ Holds M w' h r ∧ Mine M w w' ∧ w'.ownsRow w.heap.size 27 2 v pre.length (tc pre)
theorem own_lt {w : World} {B size n : Nat} {e : TypeId} {v : Value} {xs : List Value} (h : w.ownsRow B e size v n xs) : ∀ k, v.ownBlock = some k → B ≤ k ∧ k < w.heap.size := by
  intro k hk
  obtain ⟨_, ⟨rfl, _⟩ | ⟨g, cap, cur, rfl, hg, hh, _⟩⟩ := h
  · cases hk
  · cases hk; exact ⟨hg, lt_of_block hh⟩
/-- The first pop. -/
theorem PopTo.start {go : Tm → Bool} {M : Nat → Prop} {h : Nat} {l r : List Tm} {w w1 : World} {x : Tm} {b : Bool} (hl : Holds M w1 h r) (hm : Mine M w w1)
    (hc : b = true ∧ l = x :: r ∧ go x = true ∨ b = false ∧ l = r ∧ x = ⟨0, []⟩ ∧ ∀ y, r.head? = some y → go y = false) :
    PopTo go M h l w [] x b r w1.heap.size (.slice none 0 0) (w1.alloc (.cells (tmC x) 27)) :=
  ⟨hl.below (below_al (Below.refl _ _)), hm.trans (Mine.alloc _ _ _), own_none, Lies.new _ _ _, hm.size, (by intro e; cases e), (by simp), hc.imp (fun h => h) fun ⟨h1, h2, _, h4⟩ => ⟨h1, h2, h4⟩⟩
/-- Behind an append, and the new round's own copy: where the next pop is called. -/
theorem PopTo.mid {go : Tm → Bool} {M : Nat → Prop} {h tb : Nat} {l pre r : List Tm} {w wr w2 : World} {x : Tm} {v v2 : Value} {o o2 : Obj} (H : PopTo go M h l w pre x true r tb v wr)
    (ho : w2.ownsRow w.heap.size 27 2 v2 (pre.length + 1) (tc pre ++ tL x)) (hg : (wr.alloc o).grownBy w2 v.ownBlock) (hM : ∀ k, M k → k < w.heap.size) :
    Holds M (w2.alloc o2) h r ∧ Mine M w (w2.alloc o2) ∧ (w2.alloc o2).ownsRow w.heap.size 27 2 v2 (pre ++ [x]).length (tc (pre ++ [x])) ∧ Lies tb (tmC x) 27 w2 := by
  have hfar := own_lt H.own
  have m0 : Mine (fun k => v.ownBlock = some k) wr w2 := (Mine.alloc _ wr o).trans (Mine.grown hg fun k hk => hk)
  have m1 : Mine M w w2 := H.mine.next (fun k hk => .inr (hfar k hk).1) m0
  refine ⟨(H.heap.mine m0 fun k hk e => by have := hM k hk; have := (hfar k e).1; omega).below (below_al (Below.refl _ _)), m1.trans (Mine.alloc _ _ _), ?_, m0.lies H.lies H.apart⟩
  rw [List.length_append, List.length_singleton, tc_app, tc_one]
  exact ownsRow_block ho fun k _ hk => Below.heap_alloc _ _ k hk
/-- The next pop, and its answer laid down. -/
theorem PopTo.next {go : Tm → Bool} {M : Nat → Prop} {h tb : Nat} {l pre r r4 : List Tm} {w wr w3 w4 : World} {x x4 : Tm} {b4 : Bool} {v v2 : Value} {T0 : Tm} (H : PopTo go M h l w pre x true r tb v wr)
    (m3 : Mine M w w3) (o3 : w3.ownsRow w.heap.size 27 2 v2 (pre ++ [x]).length (tc (pre ++ [x]))) (nb : Nat) (l3 : Lies nb (tmC T0) 27 w3) (hnb : w.heap.size ≤ nb) (hap : v2.ownBlock ≠ some nb)
    (h4 : Holds M w4 h r4) (m4 : Mine M w3 w4) (hM : ∀ k, M k → k < w.heap.size)
    (hc : b4 = true ∧ r = x4 :: r4 ∧ go x4 = true ∨ b4 = false ∧ r = r4 ∧ x4 = ⟨0, []⟩ ∧ ∀ y, r4.head? = some y → go y = false) :
    PopTo go M h l w (pre ++ [x]) x4 b4 r4 nb v2 ((w4.setCell ⟨nb, 0, none⟩ (.int .i64 x4.at_)).setCell ⟨nb, 1, none⟩ (.string (kS x4.name))) := by
  have hn : ¬ M nb := fun hm => by have := hM _ hm; omega
  obtain ⟨_, hl, hgo⟩ : true = true ∧ l = pre ++ x :: r ∧ go x = true := H.case.elim (fun h => h) fun h => by cases h.1
  refine ⟨h4.set2 hn _ _, (m3.trans m4).set2 hnb _ _, ?_, Lies.set2 (m4.lies l3 hn) _ _, hnb, hap, ?_, ?_⟩
  · have o4 := ownsRow_block (w' := w4) o3 fun k hk hlt => m4.block k hlt fun hm => by have := hM _ hm; have := (own_lt o3 k hk).1; omega
    refine ownsRow_block o4 fun k hk hlt => ?_
    have hne : k ≠ nb := fun e => hap (e ▸ hk)
    exact (Below.heap_setCell _ ⟨nb, 1, none⟩ _ _ hne).trans (Below.heap_setCell _ ⟨nb, 0, none⟩ _ _ hne)
  · intro y hy
    rcases List.mem_append.1 hy with hy | hy
    · exact H.all y hy
    · rw [List.mem_singleton.1 hy]; exact hgo
  · rcases hc with ⟨h1, h2, h3⟩ | ⟨h1, h2, _, h3⟩
    · exact .inl ⟨h1, by rw [hl, h2]; simp, h3⟩
    · exact .inr ⟨h1, by rw [hl, h2]; simp, h3⟩
def lenOf : Value → Nat
  | .slice _ n _ => n
  | _ => 0
theorem own_len {w : World} {B size n : Nat} {e : TypeId} {v : Value} {xs : List Value} (h : w.ownsRow B e size v n xs) : lenOf v = n := by
  obtain ⟨_, ⟨rfl, e⟩ | ⟨g, cap, cur, rfl, _⟩⟩ := h
  · exact e.symm
  · rfl
set_option maxHeartbeats 2000000 in
theorem poppedAll (M : Nat → Prop) (h : Nat) (l : List Tm) (w : World) (H : Holds M w h l) (hl : l.length ≤ 100000) :
    Calls Try.prog 23 #[.func (.func 12) #[.pointer (some ⟨h, 0, none⟩)] #[]] w (Popped (fun _ => true) M h l w) := by
  have HM := Lib.hid H.lt
  have HH := Lib.hid H
  have HL := Lib.hid hl
  obtain ⟨i0, hi0, hz0, hz1, hz2⟩ := info_parts tmInfo
  have HI0 := Lib.hid hi0; have HZ0 := Lib.hid hz0; have HZ1 := Lib.hid hz1; have HZ2 := Lib.hid hz2
  clear H hl hi0 hz0 hz1 hz2
  go_enter Try.func23, Try.ntmps23
  go_wp2_with (go_at_call 12; refine (tPop M h _ _ HH.out HL.out).mono ?_; rintro e w1 ⟨x1, b1, r1, rfl, q1, q2, q3⟩; have Q0 := Lib.hid (PopTo.start (go := fun _ => true) q1 q2 q3); clear q1 q2 q3)
  go_loopw [3, 4, 5] (fun s3 s4 s5 wr => ∃ (pre : List Tm) (x : Tm) (b : Bool) (r : List Tm) (tb : Nat), s4 = .pointer (some ⟨tb, 0, none⟩) ∧ s5 = .bool b ∧ PopTo (fun _ => true) M h l w pre x b r tb s3 wr)
    (fun s3 _ _ _ => l.length - lenOf s3)
  case atStart => exact ⟨[], x1, b1, r1, _, rfl, rfl, Q0.out⟩
  case round =>
    clear Q0
    obtain ⟨pre, x, b, r, tb, rfl, rfl, hp⟩ := hrel

    have HP := Lib.hid hp
    clear hp
    cases b with
    | false =>
      go_wp2_with fail
      go_ret
      obtain ⟨_, h2, h3⟩ := HP.out.case.elim (fun h => by cases h.1) (fun h => h)
      exact ⟨_, pre, r, rfl, h2, HP.out.all, h3, HP.out.heap, HP.out.mine, HP.out.own⟩
    | true =>
      have c0 := HP.out.lies.cell (j := 0) rfl
      have c1 := HP.out.lies.cell (j := 1) rfl
      have htl := lt_of_block HP.out.lies
      obtain ⟨n, hn⟩ : ∃ n, n = pre.length := ⟨_, rfl⟩
      have hnl : n + 1 ≤ l.length := by
        obtain ⟨_, h2, _⟩ := HP.out.case.elim (fun h => h) (fun h => by cases h.1)
        rw [h2, hn]; simp
      have HN := Lib.hid hn
      have HNL := Lib.hid hnl
      clear hn hnl
      go_wp2_with first
        | (at_builtin
           refine wpList_append_own_at _ rfl _ _ 25 rfl w.heap.size 27 i0 _ 2 24 Try.underlying25 HI0.out HZ0.out HZ1.out HZ2.out rfl (by omega) u3 pre.length (tc pre) rfl (ownsRow_block HP.out.own fun k _ hk => Below.heap_alloc _ _ k hk) ⟨wr.heap.size, 0, none⟩ 1 1 (tL x) rfl rfl (cell_new wr x _) (tL_ones x) (by have := HN.out; have := HNL.out; have := HL.out; unfold maxLen; omega) (by have := HN.out; have := HNL.out; have := HL.out; omega) (by have := HP.out.mine.size; simp; omega) ?_
           intro v2 w2 ho2 hg2 _ hloc2
           have HMID := Lib.hid (HP.out.mid (o2 := .cells (tmC x) 27) ho2 hg2 HM.out)
           have HAP : Hid (v2.ownBlock ≠ some w2.heap.size) := Lib.hid fun e => Nat.lt_irrefl _ (own_lt ho2 _ e).2
           have HSZ := Lib.hid (show w.heap.size ≤ w2.heap.size by have := HMID.out.2.1.size; have := HP.out.mine.size; have := hg2.size; simp at this; omega)
           have L2 := HMID.out.2.2.2
           have e0 := L2.cell (j := 0) rfl
           have e1 := L2.cell (j := 1) rfl
           have e2 := lt_of_block L2
           have HO2 := Lib.hid ho2
           clear ho2 hg2 hloc2 L2)
        | (go_at_call 12
           refine (tPop M h r _ HMID.out.1 (by have := HN.out; have := HNL.out; have := HL.out; have h1 := HP.out.case; simp only [true_and, Bool.true_eq_false, false_and, or_false] at h1; have h2 := congrArg List.length h1.1; simp only [List.length_append, List.length_cons] at h2; omega)).mono ?_
           rintro e w4 ⟨x4, b4, r4, rfl, q1, q2, q3⟩
           have L4 := q2.lies (Lies.new w2 (tmC x) 27) (fun hm => by have := HM.out _ hm; have := HSZ.out; omega)
           have f0 := L4.cell (j := 0) rfl
           have f1 := L4.cell (j := 1) rfl
           have f2 := L4.free 0
           have f3 := L4.free 1
           have HNX := Lib.hid (HP.out.next HMID.out.2.1 HMID.out.2.2.1 w2.heap.size (Lies.new w2 (tmC x) 27) HSZ.out HAP.out q1 q2 HM.out q3)
           clear q1 q2 q3 L4)
      go_roundw
      case rel => exact ⟨pre ++ [x], x4, b4, r4, w2.heap.size, rfl, rfl, HNX.out⟩
      case measure =>
        have h1 := own_len HP.out.own
        have h2 := own_len HO2.out
        have h3 := HN.out
        have h4 := HNL.out
        simp [h1, h2]
        omega
set_option maxHeartbeats 2000000 in
theorem poppedRipe (M : Nat → Prop) (h : Nat) (l : List Tm) (mark : Int) (w : World) (H : Holds M w h l) (hl : l.length ≤ 100000) :
    Calls Try.prog 23 #[.func (.func 24) #[.agg #[.pointer (some ⟨h, 0, none⟩), .int .i64 mark]] #[]] w (Popped (fun x => decide (x.at_ ≤ mark)) M h l w) := by
  have HM := Lib.hid H.lt
  have HH := Lib.hid H
  have HL := Lib.hid hl
  obtain ⟨i0, hi0, hz0, hz1, hz2⟩ := info_parts tmInfo
  have HI0 := Lib.hid hi0; have HZ0 := Lib.hid hz0; have HZ1 := Lib.hid hz1; have HZ2 := Lib.hid hz2
  clear H hl hi0 hz0 hz1 hz2
  go_enter Try.func23, Try.ntmps23
  go_wp2_with (go_at_call 24; refine (ripePop M h _ mark _ HH.out HL.out).mono ?_; rintro e w1 ⟨x1, b1, r1, rfl, q1, q2, q3⟩; have Q0 := Lib.hid (PopTo.start (go := fun x => decide (x.at_ ≤ mark)) q1 q2 q3); clear q1 q2 q3)
  go_loopw [3, 4, 5] (fun s3 s4 s5 wr => ∃ (pre : List Tm) (x : Tm) (b : Bool) (r : List Tm) (tb : Nat), s4 = .pointer (some ⟨tb, 0, none⟩) ∧ s5 = .bool b ∧ PopTo (fun x => decide (x.at_ ≤ mark)) M h l w pre x b r tb s3 wr)
    (fun s3 _ _ _ => l.length - lenOf s3)
  case atStart => exact ⟨[], x1, b1, r1, _, rfl, rfl, Q0.out⟩
  case round =>
    clear Q0
    obtain ⟨pre, x, b, r, tb, rfl, rfl, hp⟩ := hrel

    have HP := Lib.hid hp
    clear hp
    cases b with
    | false =>
      go_wp2_with fail
      go_ret
      obtain ⟨_, h2, h3⟩ := HP.out.case.elim (fun h => by cases h.1) (fun h => h)
      exact ⟨_, pre, r, rfl, h2, HP.out.all, h3, HP.out.heap, HP.out.mine, HP.out.own⟩
    | true =>
      have c0 := HP.out.lies.cell (j := 0) rfl
      have c1 := HP.out.lies.cell (j := 1) rfl
      have htl := lt_of_block HP.out.lies
      obtain ⟨n, hn⟩ : ∃ n, n = pre.length := ⟨_, rfl⟩
      have hnl : n + 1 ≤ l.length := by
        obtain ⟨_, h2, _⟩ := HP.out.case.elim (fun h => h) (fun h => by cases h.1)
        rw [h2, hn]; simp
      have HN := Lib.hid hn
      have HNL := Lib.hid hnl
      clear hn hnl
      go_wp2_with first
        | (at_builtin
           refine wpList_append_own_at _ rfl _ _ 25 rfl w.heap.size 27 i0 _ 2 24 Try.underlying25 HI0.out HZ0.out HZ1.out HZ2.out rfl (by omega) u3 pre.length (tc pre) rfl (ownsRow_block HP.out.own fun k _ hk => Below.heap_alloc _ _ k hk) ⟨wr.heap.size, 0, none⟩ 1 1 (tL x) rfl rfl (cell_new wr x _) (tL_ones x) (by have := HN.out; have := HNL.out; have := HL.out; unfold maxLen; omega) (by have := HN.out; have := HNL.out; have := HL.out; omega) (by have := HP.out.mine.size; simp; omega) ?_
           intro v2 w2 ho2 hg2 _ hloc2
           have HMID := Lib.hid (HP.out.mid (o2 := .cells (tmC x) 27) ho2 hg2 HM.out)
           have HAP : Hid (v2.ownBlock ≠ some w2.heap.size) := Lib.hid fun e => Nat.lt_irrefl _ (own_lt ho2 _ e).2
           have HSZ := Lib.hid (show w.heap.size ≤ w2.heap.size by have := HMID.out.2.1.size; have := HP.out.mine.size; have := hg2.size; simp at this; omega)
           have L2 := HMID.out.2.2.2
           have e0 := L2.cell (j := 0) rfl
           have e1 := L2.cell (j := 1) rfl
           have e2 := lt_of_block L2
           have HO2 := Lib.hid ho2
           clear ho2 hg2 hloc2 L2)
        | (go_at_call 24
           refine (ripePop M h r mark _ HMID.out.1 (by have := HN.out; have := HNL.out; have := HL.out; have h1 := HP.out.case; simp only [true_and, Bool.true_eq_false, false_and, or_false] at h1; have h2 := congrArg List.length h1.1; simp only [List.length_append, List.length_cons] at h2; omega)).mono ?_
           rintro e w4 ⟨x4, b4, r4, rfl, q1, q2, q3⟩
           have L4 := q2.lies (Lies.new w2 (tmC x) 27) (fun hm => by have := HM.out _ hm; have := HSZ.out; omega)
           have f0 := L4.cell (j := 0) rfl
           have f1 := L4.cell (j := 1) rfl
           have f2 := L4.free 0
           have f3 := L4.free 1
           have HNX := Lib.hid (HP.out.next HMID.out.2.1 HMID.out.2.2.1 w2.heap.size (Lies.new w2 (tmC x) 27) HSZ.out HAP.out q1 q2 HM.out q3)
           clear q1 q2 q3 L4)
      go_roundw
      case rel => exact ⟨pre ++ [x], x4, b4, r4, w2.heap.size, rfl, rfl, HNX.out⟩
      case measure =>
        have h1 := own_len HP.out.own
        have h2 := own_len HO2.out
        have h3 := HN.out
        have h4 := HNL.out
        simp [h1, h2]
        omega
end Tim
end Go.Proofs.Ytklgehfbfokdlaa
