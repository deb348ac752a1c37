/- The code's Take and Open. -/
import Derived.Test.YtbdlmokgmgpbfaaLinkCk
import Derived.Test.YtbdlmokgmgpbfaaLinkTakeR
import Derived.Test.YtbdlmokgmgpbfaaLinkAckR
namespace Go.Proofs.Ytbdlmokgmgpbfaa
open Go.ChangeShapes Go.WideShapes Go.ChangeAt Go.RowKit
set_option linter.unusedVariables false
set_option maxRecDepth 8000
namespace Lk
open Gen (TellsB TellsI lies_new1 lies_new2)
theorem take_retK {w wF : World} {R : Nat} {o : Rc × Bool × Int} {act : Act} (ht : act.tmps.getD 4 undef = .pointer (some ⟨R, 0, none⟩)) (hs : act.tmps.getD 5 undef = .bool o.2.1) (hc : act.tmps.getD 6 undef = .int .i64 o.2.2) (hd : act.defers = [])
    (hL : Lies R (rvC o.1) 41 wF) (hB : Below w.heap.size w wF) : bodyPost Try.prog Try.f20 (GivesT o w) .ret act wF := by
  have c0 := hL.cell (j := 0) rfl
  have c1 := hL.cell (j := 1) rfl
  refine bodyPost_ret (v := .tuple #[rvV o.1, .bool o.2.1, .int .i64 o.2.2]) ?_ hd ⟨rfl, hB⟩
  have ht2 : act.tmps[4]?.getD undef = .pointer (some ⟨R, 0, none⟩) := by simpa using ht
  have hs2 : act.tmps[5]?.getD undef = .bool o.2.1 := by simpa using hs
  have hc2 : act.tmps[6]?.getD undef = .int .i64 o.2.2 := by simpa using hc
  simp [results, Try.results20, go_sem, ht2, hs2, hc2, c0, c1]
/-- Take's blocks. -/
structure TkAt (w0 : World) (a0 a1 : Value) (pe no : Int) (body : ByteArray) (r0 r1 : Value) (w : World) : Prop where
  arg : Lies w0.heap.size #[a0, a1] 41 w
  pk : Lies (w0.heap.size + 1) #[.int .i64 pe, .int .i64 no, .string body] 26 w
  res : Lies (w0.heap.size + 1 + 1) #[r0, r1] 41 w
  below : Below w0.heap.size w0 w
section
variable {w0 w w' : World} {a0 a1 r0 r1 : Value} {pe no : Int} {body : ByteArray}
theorem TkAt.next (h : TkAt w0 a0 a1 pe no body r0 r1 w) (hb : Below w.heap.size w w') : TkAt w0 a0 a1 pe no body r0 r1 w' := ⟨h.arg.below hb, h.pk.below hb, h.res.below hb, below_next h.below hb⟩
theorem TkAt.start (w0 : World) (a0 a1 : Value) (pe no : Int) (body : ByteArray) (r0 r1 : Value) : TkAt w0 a0 a1 pe no body r0 r1 (((w0.alloc (.cells #[a0, a1] 41)).alloc (.cells #[.int .i64 pe, .int .i64 no, .string body] 26)).alloc (.cells #[r0, r1] 41)) :=
  ⟨(Lies.new w0 _ _).al.al, (lies_new1 w0 _ _ _).al, lies_new2 w0 _ _ _ _, below_al (below_al (below_al (Below.refl _ _)))⟩
theorem TkAt.putR (h : TkAt w0 a0 a1 pe no body r0 r1 w) (v0 v1 : Value) : TkAt w0 a0 a1 pe no body v0 v1 ((w.setCell ⟨w0.heap.size + 1 + 1, 0, none⟩ v0).setCell ⟨w0.heap.size + 1 + 1, 1, none⟩ v1) :=
  ⟨(h.arg.other (by omega) _ _).other (by omega) _ _, (h.pk.other (by omega) _ _).other (by omega) _ _, by have := (h.res.set 0 v0).set 1 v1; simpa using this, (h.below.setCell (p := ⟨w0.heap.size + 1 + 1, 0, none⟩) (by simp; omega) _).setCell (p := ⟨w0.heap.size + 1 + 1, 1, none⟩) (by simp; omega) _⟩
theorem TkAt.putA (h : TkAt w0 a0 a1 pe no body r0 r1 w) (v1 : Value) : TkAt w0 a0 v1 pe no body r0 r1 (w.setCell ⟨w0.heap.size, 1, none⟩ v1) :=
  ⟨by have := h.arg.set 1 v1; simpa using this, h.pk.other (by omega) _ _, h.res.other (by omega) _ _, h.below.setCell (p := ⟨w0.heap.size, 1, none⟩) (Nat.le_refl _) _⟩
end
theorem no_and {a b : Bool} {P Q : Prop} (ha : a = true ↔ P) (hb : b = true ↔ Q) : ((a && b) = true ↔ P ∧ Q) := by rw [Bool.and_eq_true, ha, hb]
theorem take_ways (ep want pe no : Int) (body : ByteArray) (o : Rc × Bool × Int) (ho : o = takeO ⟨ep, want⟩ ⟨pe, no, body⟩) :
    ((isNo ep && isNo want) = false ∧ o = (⟨0, 0⟩, false, 1)) ∨ ((isNo ep && isNo want) = true ∧ (isNo no && decide (body.size ≤ 4096)) = false ∧ o = (⟨0, 0⟩, false, 1)) ∨
      ((isNo ep && isNo want) = true ∧ (isNo no && decide (body.size ≤ 4096)) = true ∧ (pe != ep) = true ∧ o = (⟨0, 0⟩, false, 150)) ∨
      ((isNo ep && isNo want) = true ∧ (isNo no && decide (body.size ≤ 4096)) = true ∧ (pe != ep) = false ∧ (no != want) = true ∧ o = (⟨ep, want⟩, false, 0)) ∨
      ((isNo ep && isNo want) = true ∧ (isNo no && decide (body.size ≤ 4096)) = true ∧ (pe != ep) = false ∧ (no != want) = false ∧ (want == 1073741824) = true ∧ o = (⟨ep, want⟩, false, 0)) ∨
      ((isNo ep && isNo want) = true ∧ (isNo no && decide (body.size ≤ 4096)) = true ∧ (pe != ep) = false ∧ (no != want) = false ∧ (want == 1073741824) = false ∧ (0 ≤ want ∧ want ≤ 1073741824) ∧ o = (⟨ep, want + 1⟩, true, 0)) := by
  have i1 := no_and (isNo_iff ep) (isNo_iff want)
  have i2 := no_and (isNo_iff no) (decide_eq_true_iff (p := body.size ≤ 4096))
  unfold takeO at ho
  simp only at ho
  cases h1 : (isNo ep && isNo want)
  · left
    rw [h1] at i1
    exact ⟨rfl, ho.trans (by rw [if_pos (fun h => by have := i1.2 ⟨h.1, h.2.1⟩; cases this)]; rfl)⟩
  · have g1 := i1.1 h1
    cases h2 : (isNo no && decide (body.size ≤ 4096))
    · right; left
      rw [h2] at i2
      exact ⟨rfl, rfl, ho.trans (by rw [if_pos (fun h => by have := i2.2 ⟨h.2.2.1, h.2.2.2⟩; cases this)]; rfl)⟩
    · have g2 := i2.1 h2
      rw [if_neg (fun h => h ⟨g1.1, g1.2, g2.1, g2.2⟩)] at ho
      right; right
      by_cases h3 : pe = ep
      · rw [if_neg (fun h => h h3)] at ho
        right
        by_cases h4 : no = want
        · right
          by_cases h5 : want < 1073741824
          · right
            rw [if_pos ⟨h4, h5⟩] at ho
            exact ⟨rfl, rfl, nb0 h3, nb0 h4, ne_b (by omega), g1.2, ho⟩
          · left
            rw [if_neg (fun h => h5 h.2)] at ho
            exact ⟨rfl, rfl, nb0 h3, nb0 h4, eq_b (by omega), ho⟩
        · left
          rw [if_neg (fun h => h4 h.1)] at ho
          exact ⟨rfl, rfl, nb0 h3, nb h4, ho⟩
      · left
        rw [if_pos h3] at ho
        exact ⟨rfl, rfl, nb h3, ho⟩
set_option maxRecDepth 100000 in
set_option maxHeartbeats 1000000 in
theorem ckTake (ep want pe no : Int) (body : ByteArray) (o : Rc × Bool × Int) (ho : o = takeO ⟨ep, want⟩ ⟨pe, no, body⟩) (w : World) :
    Calls Try.prog 20 #[.agg #[.int .i64 ep, .int .i64 want], .agg #[.int .i64 pe, .int .i64 no, .string body]] w (GivesT o w) := by
  have H1 := Lib.hid (fun w => ckReceiver ep want w)
  have H2 := Lib.hid (fun w => ckPacket pe no body w)
  have T0 := Lib.hid (TkAt.start w (.int .i64 ep) (.int .i64 want) pe no body (.int .i64 0) (.int .i64 0))
  have hway := take_ways ep want pe no body o ho
  clear ho
  rcases hway with ⟨h1, rfl⟩ | ⟨h1, h2, rfl⟩ | ⟨h1, h2, h3, rfl⟩ | ⟨h1, h2, h3, h4, rfl⟩ | ⟨h1, h2, h3, h4, h5, rfl⟩ | ⟨h1, h2, h3, h4, h5, h6, rfl⟩
  all_goals (
    rw [h1] at H1
    clear h1
    go_enter Try.func20, Try.ntmps20
    go_upto_region 1 with fail
    obtain ⟨W, hW⟩ : ∃ W, W = ((w.alloc (.cells #[.int .i64 ep, .int .i64 want] 41)).alloc (.cells #[.int .i64 pe, .int .i64 no, .string body] 26)).alloc (.cells #[.int .i64 0, .int .i64 0] 41) := ⟨_, rfl⟩
    rw [← hW] at T0 ⊢
    clear hW
    have x0 := T0.out.arg.cell (j := 0) rfl
    have x1 := T0.out.arg.cell (j := 1) rfl
    go_wp2_with fail
    refine (H1.out _).mono ?_
    rintro e1 w1 ⟨rfl, hb1⟩
    have T1 := Lib.hid (T0.out.next hb1)
    clear x0 x1 hb1 T0
    have y0 := T1.out.pk.cell (j := 0) rfl
    have y1 := T1.out.pk.cell (j := 1) rfl
    have y2 := T1.out.pk.cell (j := 2) rfl
    have r0 := T1.out.res.cell (j := 0) rfl
    have r1 := T1.out.res.cell (j := 1) rfl
    have z0 := T1.out.res.free 0
    have z1 := T1.out.res.free 1)
  · go_wp2_with fail
    exact take_retK rfl rfl rfl rfl (T1.out.putR _ _).res (T1.out.putR _ _).below
  all_goals (
    rw [h2] at H2
    clear h2
    go_wp2_with fail
    refine (H2.out _).mono ?_
    rintro e2 w2 ⟨rfl, hb2⟩
    have T2 := Lib.hid (T1.out.next hb2)
    clear y0 y1 y2 z0 z1 r0 r1 hb2 T1
    have x0 := T2.out.arg.cell (j := 0) rfl
    have x1 := T2.out.arg.cell (j := 1) rfl
    have f1 := T2.out.arg.free 1
    have y0 := T2.out.pk.cell (j := 0) rfl
    have y1 := T2.out.pk.cell (j := 1) rfl
    have r0 := T2.out.res.cell (j := 0) rfl
    have r1 := T2.out.res.cell (j := 1) rfl
    have z0 := T2.out.res.free 0
    have z1 := T2.out.res.free 1)
  · go_wp2_with fail
    exact take_retK rfl rfl rfl rfl (T2.out.putR _ _).res (T2.out.putR _ _).below
  · go_wp2_with fail
    exact take_retK rfl rfl rfl rfl (T2.out.putR _ _).res (T2.out.putR _ _).below
  · go_wp2_with fail
    exact take_retK rfl rfl rfl rfl (T2.out.putR _ _).res (T2.out.putR _ _).below
  · go_wp2_with fail
    exact take_retK rfl rfl rfl rfl (T2.out.putR _ _).res (T2.out.putR _ _).below
  · have hw : IntKind.i64.wrap (want + 1) = want + 1 := wrap64L (by omega) (by omega)
    clear h6
    go_wp2_with fail
    exact take_retK rfl rfl rfl rfl ((T2.out.putA _).putR _ _).res ((T2.out.putA _).putR _ _).below
theorem lies_off4 {b c : Nat} {C : Array Value} {T : TypeId} {w : World} (h : Lies b C T w) (hb : b ≠ c) (v0 v1 v2 v3 : Value) :
    Lies b C T ((((w.setCell ⟨c, 0, none⟩ v0).setCell ⟨c, 1, none⟩ v1).setCell ⟨c, 2, none⟩ v2).setCell ⟨c, 3, none⟩ v3) := (((h.other hb _ _).other hb _ _).other hb _ _).other hb _ _
theorem lies_put2 {b : Nat} {T : TypeId} {w : World} {u0 u1 : Value} (h : Lies b #[u0, u1] T w) (v0 v1 : Value) : Lies b #[v0, v1] T ((w.setCell ⟨b, 0, none⟩ v0).setCell ⟨b, 1, none⟩ v1) := by
  have := (h.set 0 v0).set 1 v1
  simpa using this
/-- The two ends of an epoch. -/
def GivesO (s : Sn) (r : Rc) (z : Int) (w : World) (e : Ending) (w' : World) : Prop := e = .returned (.tuple #[snV s none 0, rvV r, .int .i64 z]) ∧ Below w.heap.size w w'
theorem open_retK {w wF : World} {R S : Nat} {s : Sn} {r : Rc} {z : Int} {act : Act} (ht : act.tmps.getD 2 undef = .pointer (some ⟨R, 0, none⟩)) (hs : act.tmps.getD 3 undef = .pointer (some ⟨S, 0, none⟩)) (hc : act.tmps.getD 4 undef = .int .i64 z) (hd : act.defers = [])
    (hL : Lies R (snC s none 0) 24 wF) (hM : Lies S (rvC r) 41 wF) (hB : Below w.heap.size w wF) : bodyPost Try.prog Try.f22 (GivesO s r z w) .ret act wF := by
  have c0 := hL.cell (j := 0) rfl
  have c1 := hL.cell (j := 1) rfl
  have c2 := hL.cell (j := 2) rfl
  have c3 := hL.cell (j := 3) rfl
  have e0 := hM.cell (j := 0) rfl
  have e1 := hM.cell (j := 1) rfl
  refine bodyPost_ret (v := .tuple #[snV s none 0, rvV r, .int .i64 z]) ?_ hd ⟨rfl, hB⟩
  have ht2 : act.tmps[2]?.getD undef = .pointer (some ⟨R, 0, none⟩) := by simpa using ht
  have hs2 : act.tmps[3]?.getD undef = .pointer (some ⟨S, 0, none⟩) := by simpa using hs
  have hc2 : act.tmps[4]?.getD undef = .int .i64 z := by simpa using hc
  simp [results, Try.results22, go_sem, ht2, hs2, hc2, c0, c1, c2, c3, e0, e1]
set_option maxHeartbeats 1000000 in
theorem ckOpen (ep : Int) (b : Bool) (hb : isNo ep = b) (w : World) :
    Calls Try.prog 22 #[.int .i64 ep] w (GivesO (if b then ⟨ep, 0, [], 0⟩ else zS) (if b then ⟨ep, 0⟩ else zR) (if b then 0 else 1) w) := by
  have H1 := Lib.hid (fun w => show Calls Try.prog 29 #[.int .i64 ep] w (Lk.SaysB b w) from hb ▸ ckEpoch ep w)
  have LS := Lib.hid ((Lies.new w #[.int .i64 0, .int .i64 0, .slice none 0 0, .int .i64 0] 24).al (o := .cells #[.int .i64 0, .int .i64 0] 41))
  have LR := Lib.hid (lies_new1 w (.cells #[.int .i64 0, .int .i64 0, .slice none 0 0, .int .i64 0] 24) #[.int .i64 0, .int .i64 0] 41)
  have HB := Lib.hid (below_al (o := .cells #[.int .i64 0, .int .i64 0] 41) (below_al (o := .cells #[.int .i64 0, .int .i64 0, .slice none 0 0, .int .i64 0] 24) (Below.refl w.heap.size w)))
  clear hb
  cases b
  all_goals (
    simp only [if_true, if_false, Bool.false_eq_true]
    go_enter Try.func22, Try.ntmps22
    go_upto_region 1 with fail
    obtain ⟨W, hW⟩ : ∃ W, W = ((w.alloc (.cells #[.int .i64 0, .int .i64 0, .slice none 0 0, .int .i64 0] 24)).alloc (.cells #[.int .i64 0, .int .i64 0] 41)) := ⟨_, rfl⟩
    rw [← hW] at LS LR HB ⊢
    clear hW
    have x0 := LS.out.cell (j := 0) rfl
    have x1 := LS.out.cell (j := 1) rfl
    have x2 := LS.out.cell (j := 2) rfl
    have x3 := LS.out.cell (j := 3) rfl
    have y0 := LR.out.cell (j := 0) rfl
    have y1 := LR.out.cell (j := 1) rfl
    have f0 := LS.out.free 0
    have f1 := LS.out.free 1
    have f2 := LS.out.free 2
    have f3 := LS.out.free 3
    have g0 := LR.out.free 0
    have g1 := LR.out.free 1
    go_wp2_with fail
    refine (H1.out _).mono ?_
    rintro e1 w1 ⟨rfl, rfl⟩
    go_wp2_with fail
    refine open_retK rfl rfl rfl rfl ((((lies_set4L LS.out _ _ _ _).other (by omega) _ _).other (by omega) _ _)) ?_ ?_
    · exact lies_put2 (lies_off4 LR.out (by omega) _ _ _ _) _ _
    · exact ((below_set4L HB.out (Nat.le_refl _) _ _ _ _).setCell (p := ⟨w.heap.size + 1, 0, none⟩) (by simp) _).setCell (p := ⟨w.heap.size + 1, 1, none⟩) (by simp) _)
end Lk
end Go.Proofs.Ytbdlmokgmgpbfaa
