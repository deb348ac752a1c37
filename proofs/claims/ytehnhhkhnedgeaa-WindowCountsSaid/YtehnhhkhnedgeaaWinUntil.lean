/- The iterator that ends at the first window that is closed: it ranges over one itself. -/
import Derived.Test.YtehnhhkhnedgeaaWinBack
namespace Go.Proofs.Ytehnhhkhnedgeaa
open Go.RowKit Go.Shelf Tick
set_option linter.unusedVariables false
attribute [local go_sem] Oper.semAt_some
/-- A window's own block. -/
def WBox (W : World) (b : Nat) (p : Int × Int) : Prop := W.heap[b]? = some (.cells #[.int .i64 p.1, .int .i64 p.2] 29 (0, 0))
namespace WBox
variable {W W' : World} {b : Nat} {p : Int × Int} {M : Nat → Prop}
theorem lt (h : WBox W b p) : b < W.heap.size := (Array.getElem?_eq_some_iff.1 h).1
theorem c0 (h : WBox W b p) : W.cell? ⟨b, 0, none⟩ = some (.int .i64 p.1) := by simp [World.cell?, show W.heap[b]? = _ from h]
theorem c1 (h : WBox W b p) : W.cell? ⟨b, 1, none⟩ = some (.int .i64 p.2) := by simp [World.cell?, show W.heap[b]? = _ from h]
theorem mine (h : WBox W b p) (hm : Over.Mine M W W') (hb : ¬ M b) : WBox W' b p := (hm.block b h.lt hb).trans h
theorem new (W : World) (p : Int × Int) : WBox (W.alloc (.cells #[.int .i64 p.1, .int .i64 p.2] 29)) W.heap.size p := World.alloc_heap_new W _
end WBox
namespace Until
/-- Which blocks are the closure's, in a loop whose iterator has M'. -/
def set (M : Nat → Prop) (Y : Nat) (M' : Nat → Prop) : Nat → Prop := fun k => (M k ∨ k = Y) ∨ M' k
variable (J Jx : (Nat → Prop) → List (Int × Int) → World → Prop) (M : Nat → Prop) (Y b l m : Nat) (mark : Int) (fv : Value) (xs : List (Int × Int))
def Inv (M' : Nat → Prop) (pre : List (Int × Int)) (W : World) : Prop :=
  J (set M Y M') pre W ∧ Boxed W Y 42 (.func (.yield l) #[] #[]) ∧ Boxed W b 37 fv ∧ Boxed W (b + 1) 2 (.int .i64 mark) ∧ (∀ x ∈ pre, mark < x.2) ∧ (∀ k, M' k → Y < k ∧ k < W.heap.size)
def Inv2 (M' : Nat → Prop) (s : List (Int × Int) × (Int × Int) × Act) (W : World) : Prop :=
  Inv J M Y b l mark fv M' s.1 W ∧ ∃ bx, WBox W bx s.2.1 ∧ ¬ M' bx ∧
    s.2.2 = { tmps := #[.func (.yield l) #[] #[], .pointer (some ⟨b, 0, none⟩), .pointer (some ⟨b + 1, 0, none⟩), .pointer (some ⟨Y, 0, none⟩), .pointer (some ⟨bx, 0, none⟩), fv, winV s.2.1, undef, undef, undef, undef, undef, undef, undef, undef, undef], defers := [] }
def Out (c : Code) (M' : Nat → Prop) (_ : List (Int × Int)) (W : World) : Prop :=
  c = .ret ∧ (J (set M Y M') xs W ∨ ∃ p, p <+: xs ∧ Jx (set M Y M') p W)
variable {J Jx M Y b l mark fv xs}
theorem set_grow {M' M'' : Nat → Prop} {W W' : World} (h : ∀ k, M'' k → M' k ∨ (W.heap.size ≤ k ∧ k < W'.heap.size)) : ∀ k, set M Y M'' k → set M Y M' k ∨ (W.heap.size ≤ k ∧ k < W'.heap.size) :=
  fun k hk => hk.elim (fun h1 => .inl (.inl h1)) fun h1 => (h k h1).elim (fun h2 => .inl (.inr h2)) .inr
theorem inv_abide (hJ : Over.Abide J) (hb : b + 1 < Y) : Over.Abide (Inv J M Y b l mark fv) := fun M' M'' s W W' h hm hs => by
  obtain ⟨h1, h2, h3, h4, h5, h6⟩ := h
  have hY := h2.lt
  have hsz := hm.size
  exact ⟨hJ _ _ _ _ _ h1 (hm.sub fun k => .inr) (set_grow hs), hm.box h2 (fun h => by have := (h6 _ h).1; omega), hm.box h3 (fun h => by have := (h6 _ h).1; omega), hm.box h4 (fun h => by have := (h6 _ h).1; omega), h5,
    fun k hk => (hs k hk).elim (fun h => ⟨(h6 k h).1, by have := (h6 k h).2; omega⟩) fun h => ⟨by omega, h.2⟩⟩
theorem inv2_abide (hJ : Over.Abide J) (hb : b + 1 < Y) : Over.Abide (Inv2 J M Y b l mark fv) := fun M' M'' s W W' h hm hs => by
  obtain ⟨h1, bx, h2, h3, h4⟩ := h
  have hlt := h2.lt
  exact ⟨inv_abide hJ hb _ _ _ _ _ h1 hm hs, bx, h2.mine hm h3, fun h => (hs bx h).elim h3 fun h => by omega, h4⟩
theorem out_abide (hJ : Over.Abide J) (hJx : Over.Abide Jx) (c : Code) : Over.Abide (Out J Jx M Y xs c) := fun M' M'' s W W' h hm hs => by
  obtain ⟨h1, h2⟩ := h
  refine ⟨h1, h2.imp (fun h => hJ _ _ _ _ _ h (hm.sub fun k => .inr) (set_grow hs)) fun ⟨p, hp, h⟩ => ⟨p, hp, hJx _ _ _ _ _ h (hm.sub fun k => .inr) (set_grow hs)⟩⟩
end Until
namespace Win
theorem take_open {m : Int} {pre rest : List (Int × Int)} {x : Int × Int} (h : ∀ y ∈ pre, m < y.2) (hx : x.2 ≤ m) : (pre ++ x :: rest).takeWhile (fun p => decide (m < p.2)) = pre := by
  rw [List.takeWhile_append_of_pos (by simpa using h)]
  simp [show ¬ m < x.2 by omega]
theorem take_more {m : Int} {pre rest : List (Int × Int)} {x : Int × Int} (h : ∀ y ∈ pre, m < y.2) (hx : m < x.2) :
    (pre ++ x :: rest).takeWhile (fun p => decide (m < p.2)) = pre ++ x :: rest.takeWhile (fun p => decide (m < p.2)) := by
  rw [List.takeWhile_append_of_pos (by simpa using h)]
  simp [hx]
theorem take_all {m : Int} {pre : List (Int × Int)} (h : ∀ y ∈ pre, m < y.2) : pre.takeWhile (fun p => decide (m < p.2)) = pre := by
  have := List.takeWhile_append_of_pos (p := fun p : Int × Int => decide (m < p.2)) (l₁ := pre) (l₂ := []) (by simpa using h)
  simpa using this
end Win
set_option maxRecDepth 100000 in
set_option maxHeartbeats 2000000 in
theorem until_feeds (F : Fence) (hF : Over.Wide F) (n : Nat) (hn : 4 ≤ n) (mark : Int) (b g : Nat) (lb : Array Value) (eg : ∀ args w, (callFunc g args).run Try.prog w = .ok (.enter g args) w) (xs : List (Int × Int)) (w0 w : World)
    (hseq : Over.Feeds F (n - 1) Try.prog g lb (fun x => #[winV x]) xs w0) (hw : Below w0.heap.size w0 w) (hbw : b + 1 < w.heap.size) (hs : Boxed w b 37 (.func (.func g) #[] lb)) (hm : Boxed w (b + 1) 2 (.int .i64 mark)) :
    Over.Feeds F n Try.prog 29 #[.pointer (some ⟨b, 0, none⟩), .pointer (some ⟨b + 1, 0, none⟩)] (fun x => #[winV x]) (xs.takeWhile fun p => decide (mark < p.2)) w := by
  intro l J Jx M W hW hJ hJx hM hY h0
  have hfn := hF.fn 29
  have hcl := hF.fn 15
  have hro : F.round = none := hF.ro
  have hsz := hW.size
  have h1n : 1 ≤ n := by omega
  have h2n : 1 ≤ n - 1 := by omega
  have h3n : 1 ≤ n - 1 - 1 := by omega
  have b1 : Boxed W b 37 (.func (.func g) #[] lb) := (hW.block b (by omega)).trans hs
  have b2 : Boxed W (b + 1) 2 (.int .i64 mark) := (hW.block (b + 1) (by omega)).trans hm
  have HY := Lib.hid hY
  have HJ := Lib.hid hJ
  have HJx := Lib.hid hJx
  have HM := Lib.hid hM
  have HW := Lib.hid hW
  have HS := Lib.hid hseq
  have HW0 := Lib.hid (hw.trans (hW.mono hw.size))
  have H0 := Lib.hid h0
  have EG := Lib.hid eg
  have HWS := Lib.hid hw.size
  clear hY hJ hJx hM hW hseq hs hm hw h0 eg
  refine callsIn_of_wp_marks Try.func29 rfl hfn ?_ hro
  simp only [Try.ntmps29, List.size_toArray, List.length_cons, List.length_nil, Nat.reduceAdd, Nat.reduceSub, Array.replicate_succ, Array.replicate_zero, List.push_toArray, List.append_toArray, List.nil_append, List.cons_append]
  have c1 := b1.cell; have c2 := b2.cell
  have hb : b + 1 < W.heap.size := by omega
  have hb0 : b < W.heap.size := by omega
  gi_wp2
  refine Over.range (α := Int × Int) hro h1n (gf := g) (lb := lb) rfl (hF.fn g) EG.out HS.out (HW0.out.trans (((Below.refl _ W).alloc (Nat.le_refl _) _).mono HW0.out.size)) (fun _ => rfl)
    (Until.Inv J M W.heap.size b l mark (.func (.func g) #[] lb)) (Until.Inv2 J M W.heap.size b l mark (.func (.func g) #[] lb)) (Until.Out J Jx M W.heap.size (xs.takeWhile fun p => decide (mark < p.2)))
    (Until.inv_abide HJ.out hb) (Until.inv2_abide HJ.out hb) (Until.out_abide HJ.out HJx.out) ?start ?assign ?body ?done ?stop
  case start =>
    refine ⟨HJ.out _ _ _ _ _ H0.out (Over.Mine.alloc _ _ _) ?_, Boxed.new _ _ _, b1.alloc _, b2.alloc _, by simp, fun _ h => h.elim⟩
    intro k hk
    rcases hk with (hk | hk) | hk
    · exact .inl hk
    · subst hk; exact .inr ⟨Nat.le_refl _, by simp⟩
    · exact hk.elim
  case assign =>
    intro l' M' pre x rest W' hx hi
    have hi1 := Lib.hid hi
    have hsz' := hi.2.1.lt
    have hw0 : w0.heap.size ≤ W.heap.size := HW0.out.size
    obtain ⟨x0, x1⟩ := x
    clear hi b1 b2 c1 c2
    unfold winV
    gi_wp2
    refine ⟨⟨Until.inv_abide HJ.out hb _ _ _ _ _ hi1.out (Over.Mine.alloc _ _ _) fun k hk => .inl hk, W'.heap.size, WBox.new W' (x0, x1), fun h => by have := (hi1.out.2.2.2.2.2 _ h).2; omega, rfl⟩, Over.Kept.alloc _ _ _ _⟩
  case body =>
    rintro l' M' pre ⟨x0, x1⟩ rest a' W' hx ⟨⟨hj, y1, y2, y3, hp, hM'⟩, bx, hbx, hnb, ha⟩
    dsimp only [winV] at ha
    subst ha
    have hsz' := y1.lt
    have hw0 : w0.heap.size ≤ W.heap.size := HW0.out.size
    have d0 := hbx.c0; have d1 := hbx.c1; have d2 := y1.cell; have d3 := y3.cell
    have hbl := hbx.lt
    have hbz : b + 1 < W'.heap.size := by omega
    have HX := Lib.hid hx
    have HP := Lib.hid hp
    have HM' := Lib.hid hM'
    have HI := Lib.hid (show Until.Inv J M W.heap.size b l mark (.func (.func g) #[] lb) M' pre W' from ⟨hj, y1, y2, y3, hp, hM'⟩)
    have HJ1 := Lib.hid hj
    clear hx hj hp hM' b1 b2 c1 c2 hnb
    by_cases hc : x1 ≤ mark
    · gi_wp2_with (gi_at_call 15; refine (hF.callsR l' (winClosed _ _ _ _)).mono ?_; rintro e w' ⟨rfl, rfl⟩)
      refine ⟨fun _ h => (by cases h), ?_⟩
      gi_wp2
      refine ⟨⟨rfl, .inl ?_⟩, Over.Kept.alloc _ _ _ _⟩
      rw [HX.out, Win.take_open HP.out hc]
      exact HJ.out _ _ _ _ _ HJ1.out (Over.Mine.alloc _ _ _) fun k hk => .inl hk
    · have hc' : mark < x1 := by omega
      have hcd : decide (x1 ≤ mark) = false := by simpa using hc
      have HT := Lib.hid (Win.take_more (rest := rest) (x := (x0, x1)) HP.out hc')
      obtain ⟨fn, tmps, assign, body, hy, hR⟩ := HY.out (Until.set M W.heap.size M') pre (x0, x1) _ (W'.alloc (.cells #[.int .i64 x0, .int .i64 x1] 29)) (by rw [HX.out]; exact HT.out) (HJ.out _ _ _ _ _ HJ1.out (Over.Mine.alloc _ _ _) fun k hk => .inl hk)
      have HR := Lib.hid hR
      have HC := Lib.hid hc'
      clear hR hc hc'
      simp only [winV] at hy
      gi_wp2_with (gi_at_call 15; refine (hF.callsR l' (winClosed _ _ _ _)).mono ?_; rw [hcd]; rintro e w' ⟨rfl, rfl⟩)
      refine (show RoundIn (F.inRound l') _ _ _ _ _ _ _ _ _ from hF.round HR.out).mono ?_
      rintro e W3 ⟨h3, hk3⟩
      have hk4 := Lib.hid ((Over.Kept.alloc w.heap.size (Until.set M W.heap.size M') W' (.cells #[.int .i64 x0, .int .i64 x1] 29)).trans hk3)
      rcases h3 with ⟨rfl, h3⟩ | ⟨rfl, h3⟩
      · have H3 := Lib.hid h3
        clear h3 hk3 d0 d1 d2 d3 hy
        gi_wp2
        refine ⟨⟨H3.out, hk4.out.box HI.out.2.1 (.inr (.inl (.inr rfl))), hk4.out.box HI.out.2.2.1 (.inl (by omega)), hk4.out.box HI.out.2.2.2.1 (.inl (by omega)), ?_, fun k hk => ⟨(HM'.out k hk).1, Nat.lt_of_lt_of_le (HM'.out k hk).2 hk4.out.size⟩⟩, hk4.out.sub HWS.out fun k hk => .inr (.inr hk)⟩
        intro y hy
        rcases List.mem_append.1 hy with h | h
        · exact HP.out y h
        · rw [List.mem_singleton.1 h]; exact HC.out
      · have H3 := Lib.hid h3
        clear h3 hk3 d0 d1 d2 d3 hy
        gi_wp2
        refine ⟨⟨rfl, .inr ⟨_, ?_, H3.out⟩⟩, hk4.out.sub HWS.out fun k hk => .inr (.inr hk)⟩
        rw [HX.out, HT.out]
        exact ⟨_, by rw [List.append_assoc]; rfl⟩
  case done =>
    rintro D M' W' hD hDw hi hK
    have HI := Lib.hid hi
    clear hi
    gi_wp2
    refine ⟨by simp, .inl ⟨_, _, rfl, run_takeDeferred hK, ?_⟩⟩
    refine ⟨_, results_none rfl _ _ _, ⟨_, rfl⟩, .inl ?_⟩
    rw [Win.take_all HI.out.2.2.2.2.1]
    exact HJ.out _ _ _ _ _ HI.out.1 (Over.Mine.put _ _ (.inr hD)) fun k hk => .inl (.inl (.inl hk))
  case stop =>
    rintro D c M' pre W' hD hDw hpre ⟨rfl, hi⟩ hK
    have HI := Lib.hid hi
    clear hi
    gi_wp2
    refine ⟨by simp, .inl ⟨_, _, rfl, run_takeDeferred hK, ?_⟩⟩
    refine ⟨_, results_none rfl _ _ _, ⟨_, rfl⟩, ?_⟩
    rcases HI.out with h | ⟨p, hp, h⟩
    · exact .inl (HJ.out _ _ _ _ _ h (Over.Mine.put _ _ (.inr hD)) fun k hk => .inl (.inl (.inl hk)))
    · exact .inr ⟨p, hp, HJx.out _ _ _ _ _ h (Over.Mine.put _ _ (.inr hD)) fun k hk => .inl (.inl (.inl hk))⟩
end Go.Proofs.Ytehnhhkhnedgeaa
