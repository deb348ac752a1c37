/- AlignCuts: what its closure keeps. -/
import Derived.Test.YtgbklmncfajcgaaAlignJ
import Derived.Test.YtgbklmncfajcgaaWide
namespace Go.Proofs.Ytgbklmncfajcgaa
open Go.ChangeShapes Go.WideShapes Go.ChangeAt Go.RowKit
set_option linter.unusedVariables false
set_option maxRecDepth 8000
namespace Aln
open Gen (TellsB TellsI row_one flat_len flat_get Mine)
open Itm
theorem OffR.more {M M' : Nat → Prop} {w : World} {A : Option Addr} {cs : List Value} (h : OffR M A cs) (hr : Row w A cs) (hM : ∀ k, M' k → M k ∨ w.heap.size ≤ k) : OffR M' A cs := by
  rcases h with h | h
  · exact .inl h
  · rcases hr with hr | ⟨b, off, rfl, hr⟩
    · exact .inl hr
    · cases cs with
      | nil => exact .inl rfl
      | cons v r =>
        right
        intro x hx hm
        rcases hM _ hm with h1 | h1
        · exact h x hx h1
        · cases hx
          have h2 := lt_of_cell (hr 0 v rfl)
          simp only at h1 h2
          omega
theorem AlM.more {M M' : Nat → Prop} {w : World} {a : Al} {ng nh : Nat} {G : Option Addr} {cG : Nat} {H : Option Addr} {cH : Nat} (h : AlM M w a ng nh G cG H cH) (hM : ∀ k, M' k → M k ∨ w.heap.size ≤ k) : AlM M' w a ng nh G cG H cH := by
  obtain ⟨hs, h1, h2, h3⟩ := h
  exact ⟨hs, h1, h2, ⟨h3.g.more h1.hg hM, h3.h.more h1.hh.row hM, fun x hx => (h3.e x hx).more (h1.hh.each x hx) hM⟩⟩
theorem LtM.more {M M' : Nat → Prop} {w : World} {l : List Lt} {n : Nat} {L : Option Addr} {c : Nat} (h : LtM M w l n L c) (hM : ∀ k, M' k → M k ∨ w.heap.size ≤ k) : LtM M' w l n L c := ⟨h.1, h.2.more h.1.row hM⟩
/-- What the law wants, input by input. -/
abbrev Wd := Option Addr × Nat × List Hd
abbrev wsL (y : Wd) : List Value := [.slice y.1 y.2.2.length y.2.1]
abbrev wsc (l : List Wd) : List Value := l.flatMap wsL
theorem wsL_len (y : Wd) : (wsL y).length = 1 := rfl
theorem wd_row {w : World} {A : Option Addr} {l : List Wd} (h : Row w A (wsc l)) {k : Nat} {x : Wd} (hk : l[k]? = some x) : ∃ q off, A = some ⟨q, off, none⟩ ∧ w.cell? ⟨q, off + k, none⟩ = some (.slice x.1 x.2.2.length x.2.1) := by
  obtain ⟨q, off, rfl, g⟩ := row_one wsL_len (by omega) h hk
  exact ⟨q, off, rfl, by simpa using g 0 _ rfl⟩
structure WaAt (M : Nat → Prop) (w : World) (W : Option Addr) (ws : List Wd) : Prop where
  row : Row w W (wsc ws)
  off : OffR M W (wsc ws)
  each : ∀ y ∈ ws, HAt w y.1 y.2.2 ∧ OffR M y.1 (hsc y.2.2) ∧ ∀ x ∈ y.2.2, OffR M x.1 (itc x.2.2)
theorem WaAt.mine {M : Nat → Prop} {w w' : World} {W : Option Addr} {ws : List Wd} (h : WaAt M w W ws) (hm : Mine M w w') : WaAt M w' W ws :=
  ⟨h.off.row hm h.row, h.off, fun y hy => by
    obtain ⟨h1, h2, h3⟩ := h.each y hy
    exact ⟨⟨h2.row hm h1.row, fun x hx => (h3 x hx).row hm (h1.each x hx)⟩, h2, h3⟩⟩
theorem WaAt.more {M M' : Nat → Prop} {w : World} {W : Option Addr} {ws : List Wd} (h : WaAt M w W ws) (hM : ∀ k, M' k → M k ∨ w.heap.size ≤ k) : WaAt M' w W ws :=
  ⟨h.row, h.off.more h.row hM, fun y hy => by
    obtain ⟨h1, h2, h3⟩ := h.each y hy
    exact ⟨h1, h2.more h1.row hM, fun x hx => (h3 x hx).more (h1.each x hx) hM⟩⟩
theorem Nest.keep {M : Nat → Prop} {w w' : World} {B n : Nat} {v : Value} {hs : List Hd} (h : Nest w B v n hs) (hm : Mine M w w') (h1 : ∀ k, v.ownBlock = some k → ¬ M k) (h2 : ∀ x ∈ hs, ∀ k, (hv x).ownBlock = some k → ¬ M k) : Nest w' B v n hs :=
  ⟨hm.own h.outer h1, fun x hx => hm.own (h.each x hx) (h2 x hx), h.apart⟩
/-- The blocks of the closure: aligner, ok, passed, cut, wants, the closure itself. -/
structure Bl where
  a : Nat
  o : Nat
  p : Nat
  c : Nat
  w : Nat
  f : Nat
abbrev ptr (b : Nat) : Value := .pointer (some ⟨b, 0, none⟩)
abbrev offV (b : Bl) : Value := .func (.func 22) #[] #[ptr b.a, ptr b.o, ptr b.p, ptr b.c, ptr b.w, ptr b.f]
/-- What nobody turns. -/
structure Fx (M N : Nat → Prop) (b : Bl) (n g cP : Nat) (W : Option Addr) (cW : Nat) (ws : List Wd) (w : World) : Prop where
  lp : Lies b.p #[.slice (some ⟨g, 0, none⟩) n cP] 23 w
  lw : Lies b.w #[.slice W n cW] 52 w
  lf : Lies b.f #[offV b] 55 w
  wt : WaAt N w W ws
  sub : ∀ k, M k → N k
  np : ¬ M b.p
  nw : ¬ M b.w
  nf : ¬ M b.f
  na : M b.a
  no : M b.o
  nc : M b.c
  mg : M g
  ao : b.a ≠ b.o
  ac : b.a ≠ b.c
  oc : b.o ≠ b.c
  lt : ∀ k, N k → k < w.heap.size
theorem Fx.mine {M N : Nat → Prop} {b : Bl} {n g cP : Nat} {W : Option Addr} {cW : Nat} {ws : List Wd} {w w' : World} (h : Fx M N b n g cP W cW ws w) (hm : Mine M w w') : Fx M N b n g cP W cW ws w' :=
  ⟨hm.lies h.lp h.np, hm.lies h.lw h.nw, hm.lies h.lf h.nf, h.wt.mine (hm.sub h.sub), h.sub, h.np, h.nw, h.nf, h.na, h.no, h.nc, h.mg, h.ao, h.ac, h.oc, fun k hk => Nat.lt_of_lt_of_le (h.lt k hk) hm.size⟩
/-- The state. -/
structure CuAt (M N : Nat → Prop) (b : Bl) (K n g cP : Nat) (W : Option Addr) (cW : Nat) (ws : List Wd) (a : Al) (G : Option Addr) (cG : Nat) (H : Option Addr) (cH : Nat) (cut : Nat) (hs : List Hd) (w : World) : Prop where
  fx : Fx M N b n g cP W cW ws w
  la : Lies b.a (alC a.n G n cG H n cH) 25 w
  lo : Lies b.o #[.bool true] 4 w
  lc : Lies b.c #[.int .i64 cut] 3 w
  am : AlM N w a n n G cG H cH
  ne : Nest w K (.slice (some ⟨g, 0, none⟩) n cP) n hs
  me : ∀ x ∈ hs, ∀ k, (hv x).ownBlock = some k → M k
section
variable {M N : Nat → Prop} {b : Bl} {K n g cP : Nat} {W : Option Addr} {cW : Nat} {ws : List Wd} {a : Al} {G : Option Addr} {cG : Nat} {H : Option Addr} {cH : Nat} {cut : Nat} {hs : List Hd} {w : World}
theorem CuAt.next (h : CuAt M N b K n g cP W cW ws a G cG H cH cut hs w) {w' : World} (hb : Below w.heap.size w w') : CuAt M N b K n g cP W cW ws a G cG H cH cut hs w' :=
  ⟨h.fx.mine (Mine.up hb), h.la.below hb, h.lo.below hb, h.lc.below hb, h.am.below hb, h.ne.next hb, h.me⟩
theorem CuAt.setA (h : CuAt M N b K n g cP W cW ws a G cG H cH cut hs w) {a' : Al} {G' : Option Addr} {cG' : Nat} {H' : Option Addr} {cH' : Nat} (k : AlM N w a' n n G' cG' H' cH') :
    CuAt M N b K n g cP W cW ws a' G' cG' H' cH' cut hs (set3A w b.a (.int .i64 a'.n) (.slice G' n cG') (.slice H' n cH')) ∧ Mine M w (set3A w b.a (.int .i64 a'.n) (.slice G' n cG') (.slice H' n cH')) := by
  have m := mine_set3A w b.a (.int .i64 a'.n) (.slice G' n cG') (.slice H' n cH')
  have mM : Mine M w _ := m.sub (M' := M) fun k hk => by rw [hk]; exact h.fx.na
  exact ⟨⟨h.fx.mine mM, lies_set3A h.la _ _ _, m.lies h.lo (fun e => h.fx.ao e.symm), m.lies h.lc (fun e => h.fx.ac e.symm), k.mine (mM.sub h.fx.sub), h.ne.keep m (fun k hk e => Gen.own_apart h.ne.outer h.la (by decide) (by rw [← e]; exact hk)) (fun x hx k hk e => Gen.own_apart (h.ne.each x hx) h.la (by decide) (by rw [← e]; exact hk)), h.me⟩, mM⟩
theorem CuAt.setC (h : CuAt M N b K n g cP W cW ws a G cG H cH cut hs w) (c : Nat) :
    CuAt M N b K n g cP W cW ws a G cG H cH c hs (w.setCell ⟨b.c, 0, none⟩ (.int .i64 c)) ∧ Mine M w (w.setCell ⟨b.c, 0, none⟩ (.int .i64 c)) := by
  have m : Mine (· = b.c) w (w.setCell ⟨b.c, 0, none⟩ (.int .i64 c)) := Mine.set w _ rfl
  have mM : Mine M w _ := m.sub (M' := M) fun k hk => by rw [hk]; exact h.fx.nc
  exact ⟨⟨h.fx.mine mM, m.lies h.la h.fx.ac, m.lies h.lo h.fx.oc, h.lc.set 0 _, h.am.mine (mM.sub h.fx.sub), h.ne.keep m (fun k hk e => Gen.own_apart h.ne.outer h.lc (by decide) (by rw [← e]; exact hk)) (fun x hx k hk e => Gen.own_apart (h.ne.each x hx) h.lc (by decide) (by rw [← e]; exact hk)), h.me⟩, mM⟩
theorem CuAt.setO (h : CuAt M N b K n g cP W cW ws a G cG H cH cut hs w) :
    CuAt M N b K n g cP W cW ws a G cG H cH cut hs (w.setCell ⟨b.o, 0, none⟩ (.bool true)) ∧ Mine M w (w.setCell ⟨b.o, 0, none⟩ (.bool true)) := by
  have m : Mine (· = b.o) w (w.setCell ⟨b.o, 0, none⟩ (.bool true)) := Mine.set w _ rfl
  have mM : Mine M w _ := m.sub (M' := M) fun k hk => by rw [hk]; exact h.fx.no
  exact ⟨⟨h.fx.mine mM, m.lies h.la h.fx.ao, h.lo.set 0 _, m.lies h.lc (fun e => h.fx.oc e.symm), h.am.mine (mM.sub h.fx.sub), h.ne.keep m (fun k hk e => Gen.own_apart h.ne.outer h.lo (by decide) (by rw [← e]; exact hk)) (fun x hx k hk e => Gen.own_apart (h.ne.each x hx) h.lo (by decide) (by rw [← e]; exact hk)), h.me⟩, mM⟩
/-- A row grows by an item (or is made nothing); it lies in the row again. -/
theorem CuAt.grow (h : CuAt M N b K n g cP W cW ws a G cG H cH cut hs w) {w1 : World} {i : Nat} {x y : Hd} (hx : hs[i]? = some x) (hg : w.grownBy w1 (hv x).ownBlock) (hy : OwnI w1 K y) (hl : (hv y).ownBlock = (hv x).ownBlock ∨ (hv y).ownBlock = some w.heap.size ∨ (hv y).ownBlock = none) :
    ∃ M' N' : Nat → Prop, CuAt M' N' b K n g cP W cW ws a G cG H cH cut (hs.set i y) (w1.setCell ⟨g, i, none⟩ (hv y)) ∧ Mine M w (w1.setCell ⟨g, i, none⟩ (hv y)) ∧ (∀ k, M' k → M k ∨ w.heap.size ≤ k) ∧ (∀ k, N' k → N k ∨ w.heap.size ≤ k) ∧ (∀ k, N k → N' k) := by
  have hxm := h.me x (List.mem_of_getElem? hx)
  have hxo := h.ne.each x (List.mem_of_getElem? hx)
  have m1 : Mine (fun k => (hv x).ownBlock = some k) w w1 := Mine.grown hg fun k hk => hk
  have m1M : Mine M w w1 := m1.sub hxm
  have ho1 := own_grownA h.ne.outer hg (own_kindA h.ne.outer hxo (Ne.symm it_rows))
  have nb : ∀ {q : Nat} {C : Array Value} {T : TypeId}, Lies q C T w → (42 : TypeId) ≠ T → Lies q C T w1 := fun hl hT => m1.lies hl fun e => Gen.own_apart hxo hl hT e
  have la1 := nb h.la (by decide)
  have lo1 := nb h.lo (by decide)
  have lc1 := nb h.lc (by decide)
  have lp1 := nb h.fx.lp (by decide)
  have lw1 := nb h.fx.lw (by decide)
  have lf1 := nb h.fx.lf (by decide)
  have gne : ∀ {q : Nat} {C : Array Value} {T : TypeId}, Lies q C T w1 → (30 : TypeId) ≠ T → q ≠ g := fun hl hT e => Gen.own_apart ho1 hl hT (by rw [e]; rfl)
  have m2 : Mine (· = g) w1 (w1.setCell ⟨g, i, none⟩ (hv y)) := Mine.set w1 _ rfl
  have m2M : Mine M w1 (w1.setCell ⟨g, i, none⟩ (hv y)) := m2.sub fun k hk => by rw [hk]; exact h.fx.mg
  have mM := m1M.trans m2M
  have ne2 := h.ne.grow hx hg hy hl
  have hM : ∀ k, (M k ∨ (hv y).ownBlock = some k) → M k ∨ w.heap.size ≤ k := fun k hk => by
    rcases hk with hk | hk
    · exact .inl hk
    · rcases hl with e | e | e
      · rw [e] at hk; exact .inl (hxm k hk)
      · rw [e] at hk; cases hk; exact .inr (Nat.le_refl _)
      · rw [e] at hk; cases hk
  have hN : ∀ k, (N k ∨ (hv y).ownBlock = some k) → N k ∨ w.heap.size ≤ k := fun k hk => by
    rcases hk with hk | hk
    · exact .inl hk
    · exact (hM k (.inr hk)).imp (h.fx.sub k) id
  have mN : Mine N w (w1.setCell ⟨g, i, none⟩ (hv y)) := mM.sub h.fx.sub
  have ylt : ∀ k, (hv y).ownBlock = some k → k < w1.heap.size := fun k hk => (hy.lt k hk).2
  refine ⟨fun k => M k ∨ (hv y).ownBlock = some k, fun k => N k ∨ (hv y).ownBlock = some k, ⟨⟨m2.lies lp1 (gne lp1 (by decide)), m2.lies lw1 (gne lw1 (by decide)), m2.lies lf1 (gne lf1 (by decide)), ?_, fun k hk => hk.imp (h.fx.sub k) id, ?_, ?_, ?_, .inl h.fx.na, .inl h.fx.no, .inl h.fx.nc, .inl h.fx.mg, h.fx.ao, h.fx.ac, h.fx.oc, ?_⟩, m2.lies la1 (gne la1 (by decide)), m2.lies lo1 (gne lo1 (by decide)), m2.lies lc1 (gne lc1 (by decide)), ?_, ne2, ?_⟩, mM, hM, hN, fun k hk => .inl hk⟩
  · exact ⟨h.fx.wt.off.row mN h.fx.wt.row, h.fx.wt.off.more h.fx.wt.row hN, fun z hz => by
      obtain ⟨h1, h2, h3⟩ := h.fx.wt.each z hz
      exact ⟨⟨h2.row mN h1.row, fun x hx => (h3 x hx).row mN (h1.each x hx)⟩, h2.more h1.row hN, fun x hx => (h3 x hx).more (h1.each x hx) hN⟩⟩
  · rintro (e | e)
    · exact h.fx.np e
    · exact Gen.own_apart hy lp1 (by decide) e
  · rintro (e | e)
    · exact h.fx.nw e
    · exact Gen.own_apart hy lw1 (by decide) e
  · rintro (e | e)
    · exact h.fx.nf e
    · exact Gen.own_apart hy lf1 (by decide) e
  · rintro k (e | e)
    · exact Nat.lt_of_lt_of_le (h.fx.lt k e) mM.size
    · exact Nat.lt_of_lt_of_le (ylt k e) m2.size
  · obtain ⟨hs0, h1, h2, h3⟩ := h.am
    exact ⟨hs0, h1.mine h3 mN, h2, ⟨h3.g.more h1.hg hN, h3.h.more h1.hh.row hN, fun x hx => (h3.e x hx).more (h1.hh.each x hx) hN⟩⟩
  · intro z hz k hk
    obtain ⟨j, hj⟩ := List.getElem?_of_mem hz
    rcases set_at hj with ⟨_, e⟩ | ⟨_, e⟩
    · subst e; exact .inr hk
    · exact .inl (h.me z (List.mem_of_getElem? e) k hk)
end
end Aln
end Go.Proofs.Ytgbklmncfajcgaa
