/- WinUntil, WinCollect, put together. -/
import Derived.Test.YthfbcfddfbipfaaZ15
import Derived.Test.YthfbcfddfbipfaaZ13
import Derived.Maps.OwnIn
/- The iterator that ends at the first window that is closed: it ranges over one itself. -/
namespace Go.Proofs.Ythfbcfddfbipfaa
open Go.RowKit Go.Shelf Tick
set_option linter.unusedVariables false
attribute [local go_sem] Oper.semAt_some
/-- A window's own block. -/
def WBox (W : World) (b : Nat) (p : Int × Int) : Prop := W.heap[b]? = some (.cells #[.int .i64 p.1, .int .i64 p.2] 55 (0, 0))
namespace WBox
variable {W W' : World} {b : Nat} {p : Int × Int} {M : Nat → Prop}
theorem lt (h : WBox W b p) : b < W.heap.size := (Array.getElem?_eq_some_iff.1 h).1
theorem c0 (h : WBox W b p) : W.cell? ⟨b, 0, none⟩ = some (.int .i64 p.1) := by simp [World.cell?, show W.heap[b]? = _ from h]
theorem c1 (h : WBox W b p) : W.cell? ⟨b, 1, none⟩ = some (.int .i64 p.2) := by simp [World.cell?, show W.heap[b]? = _ from h]
theorem mine (h : WBox W b p) (hm : Over.Mine M W W') (hb : ¬ M b) : WBox W' b p := (hm.block b h.lt hb).trans h
theorem new (W : World) (p : Int × Int) : WBox (W.alloc (.cells #[.int .i64 p.1, .int .i64 p.2] 55)) W.heap.size p := World.alloc_heap_new W _
end WBox
namespace Until
/-- Which blocks are the closure's, in a loop whose iterator has M'. -/
def set (M : Nat → Prop) (Y : Nat) (M' : Nat → Prop) : Nat → Prop := fun k => (M k ∨ k = Y) ∨ M' k
variable (J Jx : (Nat → Prop) → List (Int × Int) → World → Prop) (M : Nat → Prop) (Y b l m : Nat) (mark : Int) (fv : Value) (xs : List (Int × Int))
def Inv (M' : Nat → Prop) (pre : List (Int × Int)) (W : World) : Prop :=
  J (set M Y M') pre W ∧ Boxed W Y 140 (.func (.yield l) #[] #[]) ∧ Boxed W b 99 fv ∧ Boxed W (b + 1) 2 (.int .i64 mark) ∧ (∀ x ∈ pre, mark < x.2) ∧ (∀ k, M' k → Y < k ∧ k < W.heap.size)
def Inv2 (M' : Nat → Prop) (s : List (Int × Int) × (Int × Int) × Act) (W : World) : Prop :=
  Inv J M Y b l mark fv M' s.1 W ∧ ∃ bx, WBox W bx s.2.1 ∧ ¬ M' bx ∧
    s.2.2 = { tmps := #[.func (.yield l) #[] #[], .pointer (some ⟨b, 0, none⟩), .pointer (some ⟨b + 1, 0, none⟩), .pointer (some ⟨Y, 0, none⟩), .pointer (some ⟨bx, 0, none⟩), fv, winV s.2.1, undef, undef, undef, undef, undef, undef, undef, undef, undef], defers := [] }
def Out (c : Code) (M' : Nat → Prop) (_ : List (Int × Int)) (W : World) : Prop :=
  c = .ret ∧ (J (set M Y M') xs W ∨ ∃ p, p <+: xs ∧ Jx (set M Y M') p W)
variable {J Jx M Y b l mark fv xs}
theorem set_grow {M' M'' : Nat → Prop} {W W' : World} (h : ∀ k, M'' k → M' k ∨ (W.heap.size ≤ k ∧ k < W'.heap.size)) : ∀ k, set M Y M'' k → set M Y M' k ∨ (W.heap.size ≤ k ∧ k < W'.heap.size) :=
  fun k hk => hk.elim (fun h1 => .inl (.inl h1)) fun h1 => (h k h1).elim (fun h2 => .inl (.inr h2)) .inr
theorem inv_abide (hJ : Over.Abide J) (hb : b + 1 < Y) : Over.Abide (Inv J M Y b l mark fv) := fun M' M'' s W W' h hm hs => by
  obtain ⟨h1, h2, h3, h4, h5, h6⟩ := h
  have hY := h2.lt
  have hsz := hm.size
  exact ⟨hJ _ _ _ _ _ h1 (hm.sub fun k => .inr) (set_grow hs), hm.box h2 (fun h => by have := (h6 _ h).1; omega), hm.box h3 (fun h => by have := (h6 _ h).1; omega), hm.box h4 (fun h => by have := (h6 _ h).1; omega), h5,
    fun k hk => (hs k hk).elim (fun h => ⟨(h6 k h).1, by have := (h6 k h).2; omega⟩) fun h => ⟨by omega, h.2⟩⟩
theorem inv2_abide (hJ : Over.Abide J) (hb : b + 1 < Y) : Over.Abide (Inv2 J M Y b l mark fv) := fun M' M'' s W W' h hm hs => by
  obtain ⟨h1, bx, h2, h3, h4⟩ := h
  have hlt := h2.lt
  exact ⟨inv_abide hJ hb _ _ _ _ _ h1 hm hs, bx, h2.mine hm h3, fun h => (hs bx h).elim h3 fun h => by omega, h4⟩
theorem out_abide (hJ : Over.Abide J) (hJx : Over.Abide Jx) (c : Code) : Over.Abide (Out J Jx M Y xs c) := fun M' M'' s W W' h hm hs => by
  obtain ⟨h1, h2⟩ := h
  refine ⟨h1, h2.imp (fun h => hJ _ _ _ _ _ h (hm.sub fun k => .inr) (set_grow hs)) fun ⟨p, hp, h⟩ => ⟨p, hp, hJx _ _ _ _ _ h (hm.sub fun k => .inr) (set_grow hs)⟩⟩
end Until
namespace Win
theorem take_open {m : Int} {pre rest : List (Int × Int)} {x : Int × Int} (h : ∀ y ∈ pre, m < y.2) (hx : x.2 ≤ m) : (pre ++ x :: rest).takeWhile (fun p => decide (m < p.2)) = pre := by
  rw [List.takeWhile_append_of_pos (by simpa using h)]
  simp [show ¬ m < x.2 by omega]
theorem take_more {m : Int} {pre rest : List (Int × Int)} {x : Int × Int} (h : ∀ y ∈ pre, m < y.2) (hx : m < x.2) :
    (pre ++ x :: rest).takeWhile (fun p => decide (m < p.2)) = pre ++ x :: rest.takeWhile (fun p => decide (m < p.2)) := by
  rw [List.takeWhile_append_of_pos (by simpa using h)]
  simp [hx]
theorem take_all {m : Int} {pre : List (Int × Int)} (h : ∀ y ∈ pre, m < y.2) : pre.takeWhile (fun p => decide (m < p.2)) = pre := by
  have := List.takeWhile_append_of_pos (p := fun p : Int × Int => decide (m < p.2)) (l₁ := pre) (l₂ := []) (by simpa using h)
  simpa using this
end Win
set_option maxRecDepth 100000 in
set_option maxHeartbeats 2000000 in
theorem until_feeds (F : Fence) (hF : Over.Wide F) (n : Nat) (hn : 4 ≤ n) (mark : Int) (b g : Nat) (lb : Array Value) (eg : ∀ args w, (callFunc g args).run Try.prog w = .ok (.enter g args) w) (xs : List (Int × Int)) (w0 w : World)
    (hseq : Over.Feeds F (n - 1) Try.prog g lb (fun x => #[winV x]) xs w0) (hw : Below w0.heap.size w0 w) (hbw : b + 1 < w.heap.size) (hs : Boxed w b 99 (.func (.func g) #[] lb)) (hm : Boxed w (b + 1) 2 (.int .i64 mark)) :
    Over.Feeds F n Try.prog 102 #[.pointer (some ⟨b, 0, none⟩), .pointer (some ⟨b + 1, 0, none⟩)] (fun x => #[winV x]) (xs.takeWhile fun p => decide (mark < p.2)) w := by
  intro l J Jx M W hW hJ hJx hM hY h0
  have hfn := hF.fn 102
  have hcl := hF.fn 27
  have hro : F.round = none := hF.ro
  have hsz := hW.size
  have h1n : 1 ≤ n := by omega
  have h2n : 1 ≤ n - 1 := by omega
  have h3n : 1 ≤ n - 1 - 1 := by omega
  have b1 : Boxed W b 99 (.func (.func g) #[] lb) := (hW.block b (by omega)).trans hs
  have b2 : Boxed W (b + 1) 2 (.int .i64 mark) := (hW.block (b + 1) (by omega)).trans hm
  have HY := Lib.hid hY
  have HJ := Lib.hid hJ
  have HJx := Lib.hid hJx
  have HM := Lib.hid hM
  have HW := Lib.hid hW
  have HS := Lib.hid hseq
  have HW0 := Lib.hid (hw.trans (hW.mono hw.size))
  have H0 := Lib.hid h0
  have EG := Lib.hid eg
  have HWS := Lib.hid hw.size
  clear hY hJ hJx hM hW hseq hs hm hw h0 eg
  refine callsIn_of_wp_marks Try.func102 rfl hfn ?_ hro
  simp only [Try.ntmps102, List.size_toArray, List.length_cons, List.length_nil, Nat.reduceAdd, Nat.reduceSub, Array.replicate_succ, Array.replicate_zero, List.push_toArray, List.append_toArray, List.nil_append, List.cons_append]
  have c1 := b1.cell; have c2 := b2.cell
  have hb : b + 1 < W.heap.size := by omega
  have hb0 : b < W.heap.size := by omega
  gi_wp2
  refine Over.range (α := Int × Int) hro h1n (gf := g) (lb := lb) rfl (hF.fn g) EG.out HS.out (HW0.out.trans (((Below.refl _ W).alloc (Nat.le_refl _) _).mono HW0.out.size)) (fun _ => rfl)
    (Until.Inv J M W.heap.size b l mark (.func (.func g) #[] lb)) (Until.Inv2 J M W.heap.size b l mark (.func (.func g) #[] lb)) (Until.Out J Jx M W.heap.size (xs.takeWhile fun p => decide (mark < p.2)))
    (Until.inv_abide HJ.out hb) (Until.inv2_abide HJ.out hb) (Until.out_abide HJ.out HJx.out) ?start ?assign ?body ?done ?stop
  case start =>
    refine ⟨HJ.out _ _ _ _ _ H0.out (Over.Mine.alloc _ _ _) ?_, Boxed.new _ _ _, b1.alloc _, b2.alloc _, by simp, fun _ h => h.elim⟩
    intro k hk
    rcases hk with (hk | hk) | hk
    · exact .inl hk
    · subst hk; exact .inr ⟨Nat.le_refl _, by simp⟩
    · exact hk.elim
  case assign =>
    intro l' M' pre x rest W' hx hi
    have hi1 := Lib.hid hi
    have hsz' := hi.2.1.lt
    have hw0 : w0.heap.size ≤ W.heap.size := HW0.out.size
    obtain ⟨x0, x1⟩ := x
    clear hi b1 b2 c1 c2
    unfold winV
    gi_wp2
    refine ⟨⟨Until.inv_abide HJ.out hb _ _ _ _ _ hi1.out (Over.Mine.alloc _ _ _) fun k hk => .inl hk, W'.heap.size, WBox.new W' (x0, x1), fun h => by have := (hi1.out.2.2.2.2.2 _ h).2; omega, rfl⟩, Over.Kept.alloc _ _ _ _⟩
  case body =>
    rintro l' M' pre ⟨x0, x1⟩ rest a' W' hx ⟨⟨hj, y1, y2, y3, hp, hM'⟩, bx, hbx, hnb, ha⟩
    dsimp only [winV] at ha
    subst ha
    have hsz' := y1.lt
    have hw0 : w0.heap.size ≤ W.heap.size := HW0.out.size
    have d0 := hbx.c0; have d1 := hbx.c1; have d2 := y1.cell; have d3 := y3.cell
    have hbl := hbx.lt
    have hbz : b + 1 < W'.heap.size := by omega
    have HX := Lib.hid hx
    have HP := Lib.hid hp
    have HM' := Lib.hid hM'
    have HI := Lib.hid (show Until.Inv J M W.heap.size b l mark (.func (.func g) #[] lb) M' pre W' from ⟨hj, y1, y2, y3, hp, hM'⟩)
    have HJ1 := Lib.hid hj
    clear hx hj hp hM' b1 b2 c1 c2 hnb
    by_cases hc : x1 ≤ mark
    · gi_wp2_with (gi_at_call 27; refine (hF.callsR l' (winClosed _ _ _ _)).mono ?_; rintro e w' ⟨rfl, rfl⟩)
      refine ⟨fun _ h => (by cases h), ?_⟩
      gi_wp2
      refine ⟨⟨rfl, .inl ?_⟩, Over.Kept.alloc _ _ _ _⟩
      rw [HX.out, Win.take_open HP.out hc]
      exact HJ.out _ _ _ _ _ HJ1.out (Over.Mine.alloc _ _ _) fun k hk => .inl hk
    · have hc' : mark < x1 := by omega
      have hcd : decide (x1 ≤ mark) = false := by simpa using hc
      have HT := Lib.hid (Win.take_more (rest := rest) (x := (x0, x1)) HP.out hc')
      obtain ⟨fn, tmps, assign, body, hy, hR⟩ := HY.out (Until.set M W.heap.size M') pre (x0, x1) _ (W'.alloc (.cells #[.int .i64 x0, .int .i64 x1] 55)) (by rw [HX.out]; exact HT.out) (HJ.out _ _ _ _ _ HJ1.out (Over.Mine.alloc _ _ _) fun k hk => .inl hk)
      have HR := Lib.hid hR
      have HC := Lib.hid hc'
      clear hR hc hc'
      simp only [winV] at hy
      gi_wp2_with (gi_at_call 27; refine (hF.callsR l' (winClosed _ _ _ _)).mono ?_; rw [hcd]; rintro e w' ⟨rfl, rfl⟩)
      refine (show RoundIn (F.inRound l') _ _ _ _ _ _ _ _ _ from hF.round HR.out).mono ?_
      rintro e W3 ⟨h3, hk3⟩
      have hk4 := Lib.hid ((Over.Kept.alloc w.heap.size (Until.set M W.heap.size M') W' (.cells #[.int .i64 x0, .int .i64 x1] 55)).trans hk3)
      rcases h3 with ⟨rfl, h3⟩ | ⟨rfl, h3⟩
      · have H3 := Lib.hid h3
        clear h3 hk3 d0 d1 d2 d3 hy
        gi_wp2
        refine ⟨⟨H3.out, hk4.out.box HI.out.2.1 (.inr (.inl (.inr rfl))), hk4.out.box HI.out.2.2.1 (.inl (by omega)), hk4.out.box HI.out.2.2.2.1 (.inl (by omega)), ?_, fun k hk => ⟨(HM'.out k hk).1, Nat.lt_of_lt_of_le (HM'.out k hk).2 hk4.out.size⟩⟩, hk4.out.sub HWS.out fun k hk => .inr (.inr hk)⟩
        intro y hy
        rcases List.mem_append.1 hy with h | h
        · exact HP.out y h
        · rw [List.mem_singleton.1 h]; exact HC.out
      · have H3 := Lib.hid h3
        clear h3 hk3 d0 d1 d2 d3 hy
        gi_wp2
        refine ⟨⟨rfl, .inr ⟨_, ?_, H3.out⟩⟩, hk4.out.sub HWS.out fun k hk => .inr (.inr hk)⟩
        rw [HX.out, HT.out]
        exact ⟨_, by rw [List.append_assoc]; rfl⟩
  case done =>
    rintro D M' W' hD hDw hi hK
    have HI := Lib.hid hi
    clear hi
    gi_wp2
    refine ⟨by simp, .inl ⟨_, _, rfl, run_takeDeferred hK, ?_⟩⟩
    refine ⟨_, results_none rfl _ _ _, ⟨_, rfl⟩, .inl ?_⟩
    rw [Win.take_all HI.out.2.2.2.2.1]
    exact HJ.out _ _ _ _ _ HI.out.1 (Over.Mine.put _ _ (.inr hD)) fun k hk => .inl (.inl (.inl hk))
  case stop =>
    rintro D c M' pre W' hD hDw hpre ⟨rfl, hi⟩ hK
    have HI := Lib.hid hi
    clear hi
    gi_wp2
    refine ⟨by simp, .inl ⟨_, _, rfl, run_takeDeferred hK, ?_⟩⟩
    refine ⟨_, results_none rfl _ _ _, ⟨_, rfl⟩, ?_⟩
    rcases HI.out with h | ⟨p, hp, h⟩
    · exact .inl (HJ.out _ _ _ _ _ h (Over.Mine.put _ _ (.inr hD)) fun k hk => .inl (.inl (.inl hk)))
    · exact .inr ⟨p, hp, HJx.out _ _ _ _ _ h (Over.Mine.put _ _ (.inr hD)) fun k hk => .inl (.inl (.inl hk))⟩
end Go.Proofs.Ythfbcfddfbipfaa
/- slices.AppendSeq, slices.Collect over whatever iterator of windows. -/
namespace Go.Proofs.Ythfbcfddfbipfaa
open Go.RowKit Go.Shelf Tick
set_option linter.unusedVariables false
attribute [local go_sem] Oper.semAt_some
/-- Windows as they lie in a slice. -/
def wc (xs : List (Int × Int)) : List Value := xs.flatMap fun p => [.int .i64 p.1, .int .i64 p.2]
theorem wc_len (xs : List (Int × Int)) : (wc xs).length = xs.length * 2 := by
  induction xs with
  | nil => rfl
  | cons x r ih => simp only [wc, List.flatMap_cons, List.length_append, List.length_cons, List.length_nil] at ih ⊢; omega
theorem wc_app (xs ys : List (Int × Int)) : wc (xs ++ ys) = wc xs ++ wc ys := by simp [wc]
theorem wc_one (x : Int × Int) : wc [x] = [.int .i64 x.1, .int .i64 x.2] := by simp [wc]
theorem wc_ones (xs : List (Int × Int)) : ∀ u ∈ wc xs, u.oneCell' = true := by
  intro u hu
  obtain ⟨p, _, hp⟩ := List.mem_flatMap.1 hu
  simp only [List.mem_cons, List.not_mem_nil, or_false] at hp
  rcases hp with rfl | rfl <;> rfl
theorem wc_0 {xs : List (Int × Int)} {i : Nat} {x : Int × Int} (h : xs[i]? = some x) : (wc xs)[i * 2]? = some (.int .i64 x.1) := by
  obtain ⟨hl, rfl⟩ := List.getElem?_eq_some_iff.1 h
  have e : wc xs = wc (xs.take i) ++ wc (xs[i] :: xs.drop (i + 1)) := by rw [← wc_app, ← List.drop_eq_getElem_cons hl, List.take_append_drop]
  rw [e, List.getElem?_append_right (by rw [wc_len, List.length_take]; omega), wc_len, List.length_take, Nat.min_eq_left (by omega), Nat.sub_self]
  rw [wc]; rfl
theorem wc_1 {xs : List (Int × Int)} {i : Nat} {x : Int × Int} (h : xs[i]? = some x) : (wc xs)[i * 2 + 1]? = some (.int .i64 x.2) := by
  obtain ⟨hl, rfl⟩ := List.getElem?_eq_some_iff.1 h
  have e : wc xs = wc (xs.take i) ++ wc (xs[i] :: xs.drop (i + 1)) := by rw [← wc_app, ← List.drop_eq_getElem_cons hl, List.take_append_drop]
  rw [e, List.getElem?_append_right (by rw [wc_len, List.length_take]; omega), wc_len, List.length_take, Nat.min_eq_left (by omega), show i * 2 + 1 - i * 2 = 1 by omega]
  rw [wc]; rfl
/-- The cells of a block just laid. -/
theorem cells_new (W : World) (cs : List Value) (t : TypeId) : ∀ j u, cs[j]? = some u → (W.alloc (.cells cs.toArray t)).cell? ((⟨W.heap.size, 0, none⟩ : Addr).add j) = some u := by
  intro j u hu
  rw [Go.WideShapes.add_plain]
  unfold World.cell?
  rw [show (W.alloc (.cells cs.toArray t)).heap[(⟨W.heap.size, 0 + j, none⟩ : Addr).block]? = _ from World.alloc_heap_new W _]
  simpa using hu
/-- An owned row stands while others turn their own blocks. -/
theorem own_mine {M : Nat → Prop} {W W' : World} {B size n : Nat} {e : TypeId} {v : Value} {xs : List Value} (h : W.ownsRow B e size v n xs) (hm : Over.Mine M W W') (hv : ∀ k, v.ownBlock = some k → ¬ M k) : W'.ownsRow B e size v n xs := by
  obtain ⟨hl, h0 | ⟨g, cap, cur, rfl, hg, hh, rest⟩⟩ := h
  · exact ⟨hl, .inl h0⟩
  · exact ⟨hl, .inr ⟨g, cap, cur, rfl, hg, (hm.block g (Array.getElem?_eq_some_iff.1 hh).1 (hv g rfl)).trans hh, rest⟩⟩
theorem own_blockLt {W : World} {B size n : Nat} {e : TypeId} {v : Value} {xs : List Value} (h : W.ownsRow B e size v n xs) : ∀ k, v.ownBlock = some k → B ≤ k ∧ k < W.heap.size := h.lt
namespace Coll
variable (w : World) (sv : Value)
def Inv (M' : Nat → Prop) (pre : List (Int × Int)) (W : World) : Prop :=
  ∃ v, Boxed W w.heap.size 62 v ∧ W.ownsRow w.heap.size 55 2 v pre.length (wc pre) ∧ (∀ k, v.ownBlock = some k → ¬ M' k) ∧ Below w.heap.size w W ∧ (∀ k, M' k → w.heap.size < k ∧ k < W.heap.size)
def Inv2 (M' : Nat → Prop) (s : List (Int × Int) × (Int × Int) × Act) (W : World) : Prop :=
  Inv w M' s.1 W ∧ ∃ bx, WBox W bx s.2.1 ∧ ¬ M' bx ∧
    s.2.2 = { tmps := #[.slice none 0 0, sv, .pointer (some ⟨w.heap.size, 0, none⟩), undef, .slice none 0 0, .pointer (some ⟨bx, 0, none⟩), sv, winV s.2.1, undef, undef, undef, undef, undef], defers := [] }
variable {w sv}
theorem inv_abide : Over.Abide (Inv w) := fun M' M'' s W W' h hm hs => by
  obtain ⟨v, h1, h2, h3, h4, h5⟩ := h
  have hl := h1.lt
  have hsz := hm.size
  exact ⟨v, hm.box h1 fun h => by (have := (h5 _ h).1; omega), own_mine h2 hm h3, fun k hk h => (hs k h).elim (h3 k hk) fun h => by (have := (own_blockLt h2 k hk).2; omega),
    ⟨hm.os.trans h4.os, hm.tape.trans h4.tape, hm.output.trans h4.output, Nat.le_trans h4.size hsz, fun k hk => (hm.block k (by omega) fun h => by (have := (h5 _ h).1; omega)).trans (h4.block k hk)⟩,
    fun k hk => (hs k hk).elim (fun h => ⟨(h5 k h).1, by have := (h5 k h).2; omega⟩) fun h => ⟨by omega, h.2⟩⟩
theorem inv2_abide : Over.Abide (Inv2 w sv) := fun M' M'' s W W' h hm hs => by
  obtain ⟨h1, bx, h2, h3, h4⟩ := h
  have hlt := h2.lt
  exact ⟨inv_abide _ _ _ _ _ h1 hm hs, bx, h2.mine hm h3, fun h => (hs bx h).elim h3 fun h => by omega, h4⟩
end Coll
theorem winInfo : (Try.prog.info? 55).map (fun i => (i.zero, i.size, i.bytes)) = some (some (.agg #[.int .i64 0, .int .i64 0]), 2, 16) := by kernel_rfl
set_option maxRecDepth 100000 in
set_option maxHeartbeats 2000000 in
theorem appendSeq (F : Fence) (hF : Over.Wide F) (n : Nat) (hn : 4 ≤ n) (g : Nat) (lb : Array Value) (eg : ∀ args w, (callFunc g args).run Try.prog w = .ok (.enter g args) w) (xs : List (Int × Int)) (hlen : xs.length ≤ 100000) (w0 w : World)
    (hseq : Over.Feeds F (n - 1) Try.prog g lb (fun x => #[winV x]) xs w0) (hw : Below w0.heap.size w0 w) :
    CallsIn F n Try.prog 121 #[.slice none 0 0, .func (.func g) #[] lb] w fun e w' => ∃ v, e = .returned v ∧ w'.ownsRow w.heap.size 55 2 v xs.length (wc xs) ∧ Below w.heap.size w w' := by
  obtain ⟨i0, hi0, hz0, hz1, hz2⟩ := info_parts winInfo
  have hfn := hF.fn 121
  have hro : F.round = none := hF.ro
  have h1n : 1 ≤ n := by omega
  have h2n : 1 ≤ n - 1 := by omega
  have h3n : 1 ≤ n - 1 - 1 := by omega
  have HS := Lib.hid hseq
  have HW := Lib.hid hw
  have EG := Lib.hid eg
  have H0 := Lib.hid hz0; have H1 := Lib.hid hz1; have H2 := Lib.hid hz2; have HI := Lib.hid hi0
  have HLEN := Lib.hid hlen
  clear hseq hw eg hz0 hz1 hz2 hi0 hlen
  refine callsIn_of_wp_marks Try.func121 rfl hfn ?_ hro
  simp only [Try.ntmps121, List.size_toArray, List.length_cons, List.length_nil, Nat.reduceAdd, Nat.reduceSub, Array.replicate_succ, Array.replicate_zero, List.push_toArray, List.append_toArray, List.nil_append, List.cons_append]
  gi_wp2
  refine Over.range (α := Int × Int) hro h1n (gf := g) (lb := lb) rfl (hF.fn g) EG.out HS.out (HW.out.trans (((Below.refl _ w).alloc (Nat.le_refl _) _).mono HW.out.size)) (fun _ => rfl)
    (Coll.Inv w) (Coll.Inv2 w (.func (.func g) #[] lb)) (fun _ _ _ _ => False) Coll.inv_abide Coll.inv2_abide (fun _ _ _ _ _ _ h _ _ => h) ?start ?assign ?body ?done ?stop
  case start =>
    exact ⟨.slice none 0 0, Boxed.new _ _ _, own_none, fun k hk => by simp [Value.ownBlock] at hk, (Below.refl _ _).alloc (Nat.le_refl _) _, fun _ h => h.elim⟩
  case assign =>
    intro l' M' pre x rest W' hx hi
    have hi1 := Lib.hid hi
    have hw0 : w0.heap.size ≤ w.heap.size := HW.out.size
    obtain ⟨x0, x1⟩ := x
    clear hi
    unfold winV
    gi_wp2
    obtain ⟨v, j1, j2, j3, j4, j5⟩ := hi1.out
    refine ⟨⟨Coll.inv_abide _ _ _ _ _ hi1.out (Over.Mine.alloc _ _ _) fun k hk => .inl hk, W'.heap.size, WBox.new W' (x0, x1), fun h => by have := (j5 _ h).2; omega, rfl⟩, Over.Kept.alloc _ _ _ _⟩
  case body =>
    rintro l' M' pre ⟨x0, x1⟩ rest a' W' hx ⟨⟨v, j1, j2, j3, j4, j5⟩, bx, hbx, hnb, ha⟩
    dsimp only [winV] at ha
    subst ha
    have hw0 : w0.heap.size ≤ w.heap.size := HW.out.size
    have d0 := hbx.c0; have d1 := hbx.c1; have d2 := j1.cell
    have hbl := hbx.lt
    have hvl := j1.lt
    have hB : w.heap.size ≤ W'.heap.size := by omega
    have hpl : pre.length + 1 ≤ 100000 := by have := HLEN.out; rw [hx] at this; simp at this; omega
    have HX := Lib.hid hx
    have H3 := Lib.hid j3
    have H4 := Lib.hid j4
    have H5 := Lib.hid j5
    have HO := Lib.hid j2
    have HN := Lib.hid hnb
    have HB := Lib.hid j1
    have HC := Lib.hid (cells_new W' [.int .i64 x0, .int .i64 x1] 55)
    clear hx j1 j2 j3 j4 j5 hnb
    gi_wp2_with (gi_at_builtin; refine hold_mk ?_)
    refine hold_out ?_
    refine wpListIn_append_own_at _ rfl _ _ 62 rfl w.heap.size 55 i0 (.agg #[.int .i64 0, .int .i64 0]) 2 16 Try.underlying62 HI.out H0.out H1.out H2.out rfl (by decide) _ _ _ rfl (HO.out.alloc _) ⟨W'.heap.size, 0, none⟩ 1 1 [.int .i64 x0, .int .i64 x1] rfl rfl HC.out (by simp [Value.oneCell']) (by unfold maxLen; omega) (by omega) (by simp; omega) ?_
    intro v' w1 hown' hgrow _ hat
    obtain ⟨g', cap', rfl⟩ := ownsRow_succ hown'
    have hne : some w.heap.size ≠ v.ownBlock := HB.out.not_row (by decide) HO.out
    have hbx1 : Boxed w1 w.heap.size 62 v := (HB.out.alloc _).kept hgrow hne
    have hz1 := hgrow.size
    have c1 := hbx1.cell; have f1 := hbx1.frozen
    have HG := Lib.hid hgrow
    have HAT := Lib.hid hat
    have HO1 := Lib.hid hown'
    have HB1 := Lib.hid hbx1
    have HNE := Lib.hid hne
    clear hgrow hat hown' hbx1 hne d0 d1 d2
    gi_wp2
    have hg : g' ≠ w.heap.size ∧ ¬ M' g' := by
      rcases HAT.out with h | h
      · have h' : some g' = v.ownBlock := h
        exact ⟨fun e => HNE.out (by rw [← h', e]), H3.out g' h'.symm⟩
      · have h' : g' = W'.heap.size + 1 := by simpa [Value.ownBlock] using h
        exact ⟨by omega, fun hm => by have := (H5.out _ hm).2; omega⟩
    have hrow : ∀ k, v.ownBlock = some k → w.heap.size ≤ k ∧ ¬ M' k := fun k hk => ⟨(own_blockLt HO.out k hk).1, H3.out k hk⟩
    have hb1 : Below w.heap.size w w1 := (H4.out.alloc (by omega) _).grown HG.out (by simp; omega) fun k hk => (hrow k hk).1
    refine ⟨⟨_, HB1.out.set _, ?_, fun k hk => by cases hk; exact hg.2, hb1.setCell (p := ⟨w.heap.size, 0, none⟩) (Nat.le_refl _) _, fun k hk => ⟨(H5.out k hk).1, ?_⟩⟩, ?_⟩
    · have h := HO1.out.kept (grownBy_setCell' w1 w.heap.size (.slice (some ⟨g', 0, none⟩) (pre.length + 1) cap')) (.inr fun e => hg.1 (by cases e; rfl))
      rw [wc_app, wc_one, List.length_append, List.length_singleton]
      exact h
    · have h1 := (H5.out k hk).2
      have h2 : w1.heap.size ≤ (w1.setCell ⟨w.heap.size, 0, none⟩ (.slice (some ⟨g', 0, none⟩) (pre.length + 1) cap')).heap.size := (grownBy_setCell' w1 w.heap.size _).size
      simp only [World.size_alloc] at hz1
      omega
    · refine ((Over.Kept.alloc _ _ _ _).trans (Over.Kept.grown HG.out fun k hk => ⟨Nat.le_trans hw0 (hrow k hk).1, (hrow k hk).2⟩)).trans (Over.Kept.set _ _ hw0 fun hm => ?_)
      have := (H5.out _ hm).1
      exact Nat.lt_irrefl _ this
  case done =>
    rintro D M' W' hD hDw ⟨v, j1, j2, j3, j4, j5⟩ hK
    have d2 := j1.cell
    gi_wp2
    refine ⟨by simp, .inl ⟨_, _, rfl, run_takeDeferred hK, ?_⟩⟩
    refine ⟨_, results_tmp rfl _ _ _, v, rfl, own_mine j2 (Over.Mine.put _ _ hD) j3, ?_⟩
    have hm := Over.Mine.put (M := M') W' (.deferred none) hD
    exact ⟨hm.os.trans j4.os, hm.tape.trans j4.tape, hm.output.trans j4.output, Nat.le_trans j4.size hm.size, fun k hk => (hm.block k (by have := j4.size; omega) fun h => by (have := (j5 _ h).1; omega)).trans (j4.block k hk)⟩
  case stop =>
    rintro D c M' pre W' hD hDw hpre hi hK
    exact hi.elim
theorem collect (F : Fence) (hF : Over.Wide F) (n : Nat) (hn : 5 ≤ n) (g : Nat) (lb : Array Value) (eg : ∀ args w, (callFunc g args).run Try.prog w = .ok (.enter g args) w) (xs : List (Int × Int)) (hlen : xs.length ≤ 100000) (w0 w : World)
    (hseq : Over.Feeds F (n - 1) Try.prog g lb (fun x => #[winV x]) xs w0) (hw : Below w0.heap.size w0 w) :
    Calls Try.prog 96 #[.func (.func g) #[] lb] w fun e w' => ∃ v, e = .returned v ∧ w'.ownsRow w.heap.size 55 2 v xs.length (wc xs) ∧ Below w.heap.size w w' := by
  have HA : Hid (Calls Try.prog 121 #[.slice none 0 0, .func (.func g) #[] lb] w fun e w' => ∃ v, e = .returned v ∧ w'.ownsRow w.heap.size 55 2 v xs.length (wc xs) ∧ Below w.heap.size w w') :=
    Lib.hid (by have h := appendSeq F hF n (by omega) g lb eg xs hlen w0 w hseq hw; rw [hF.all] at h; exact callsIn_wide.1 h)
  clear hseq hw eg hlen
  go_enter Try.func96, Try.ntmps96
  go_wp2_with (go_at_call 121; refine HA.out.mono ?_; rintro e w' ⟨v, rfl, h1, h2⟩)
  go_ret
  exact ⟨v, rfl, h1, h2⟩
end Go.Proofs.Ythfbcfddfbipfaa
