/- The code's Tick. -/
import Derived.Test.YtbdlmokgmgpbfaaLinkAckC
import Derived.Test.YtbdlmokgmgpbfaaLinkPacks
namespace Go.Proofs.Ytbdlmokgmgpbfaa
open Go.ChangeShapes Go.WideShapes Go.ChangeAt Go.RowKit
set_option linter.unusedVariables false
set_option maxRecDepth 8000
namespace Lk
open Gen (TellsB TellsI Mine)
/-- Hands back a sender whose bodies are a row of its own, and packets. -/
def OwnsSP (o : Sn × List Pk) (w : World) (e : Ending) (w' : World) : Prop :=
  ∃ A c A' c', e = .returned (.tuple #[.agg #[.int .i64 o.1.epoch, .int .i64 o.1.base, .slice A o.1.bodies.length c, .int .i64 o.1.timer], .slice A' o.2.length c']) ∧ w'.ownsRow w.heap.size 9 1 (.slice A o.1.bodies.length c) o.1.bodies.length (bcs o.1.bodies) ∧
    w'.ownsRow w.heap.size 26 3 (.slice A' o.2.length c') o.2.length (pcs o.2) ∧ Below w.heap.size w w'
theorem tick_retK {w wF : World} {R n m : Nat} {ep ba ti : Int} {bs : List ByteArray} {ps : List Pk} {o : Sn × List Pk} {A A' : Option Addr} {c c' : Nat} {act : Act} (ht : act.tmps.getD 2 undef = .pointer (some ⟨R, 0, none⟩)) (hc : act.tmps.getD 3 undef = .slice A' m c') (hd : act.defers = [])
    (hL : Lies R #[.int .i64 ep, .int .i64 ba, .slice A n c, .int .i64 ti] 24 wF) (ho : o = (⟨ep, ba, bs, ti⟩, ps)) (hn : n = bs.length) (hm : m = ps.length) (h3 : wF.ownsRow w.heap.size 9 1 (.slice A n c) n (bcs bs)) (h4 : wF.ownsRow w.heap.size 26 3 (.slice A' m c') m (pcs ps)) (hB : Below w.heap.size w wF) :
    bodyPost Try.prog Try.f17 (OwnsSP o w) .ret act wF := by
  subst ho
  subst hn
  subst hm
  have c0 := hL.cell (j := 0) rfl
  have c1 := hL.cell (j := 1) rfl
  have c2 := hL.cell (j := 2) rfl
  have c3 := hL.cell (j := 3) rfl
  refine bodyPost_ret (v := .tuple #[.agg #[.int .i64 ep, .int .i64 ba, .slice A bs.length c, .int .i64 ti], .slice A' ps.length c']) ?_ hd ⟨A, c, A', c', rfl, h3, h4, hB⟩
  have ht2 : act.tmps[2]?.getD undef = .pointer (some ⟨R, 0, none⟩) := by simpa using ht
  have hc2 : act.tmps[3]?.getD undef = .slice A' ps.length c' := by simpa using hc
  simp [results, Try.results17, go_sem, ht2, hc2, c0, c1, c2, c3]
theorem tick_ways (ep ba ti : Int) (bs : List ByteArray) (n : Nat) (hn : n = bs.length) (o : Sn × List Pk) (r : Bool) (hr : r = rightS ⟨ep, ba, bs, ti⟩) (ho : o = tickO ⟨ep, ba, bs, ti⟩) :
    (r = false ∧ o = (⟨ep, ba, bs, ti⟩, [])) ∨ (r = true ∧ (((n : Int) == 0) = true ∧ o = (⟨ep, ba, bs, ti⟩, []) ∨
      ((n : Int) == 0) = false ∧ (n ≤ 8 ∧ 0 ≤ ba ∧ ba + n ≤ 1073741824) ∧ (1 ≤ ti ∧ ti ≤ 4) ∧ n ≠ 0 ∧ (0 < ti - 1 ∧ o = (⟨ep, ba, bs, ti - 1⟩, []) ∨ ¬ 0 < ti - 1 ∧ o = (⟨ep, ba, bs, 4⟩, packs ep ba bs)))) := by
  unfold tickO at ho
  rw [← hr] at ho
  simp only at ho
  rw [← hn] at ho
  cases r
  · left; exact ⟨rfl, ho.trans (by rw [if_pos (.inl rfl)])⟩
  · right
    obtain ⟨q1, q2, q3, q4, q5, q6⟩ := (right_iff _).1 hr.symm
    simp only at q1 q2 q3 q4 q5 q6
    rw [← hn] at q2 q4 q6
    refine ⟨rfl, ?_⟩
    by_cases h0 : n = 0
    · left; exact ⟨eq_b (by omega), ho.trans (by rw [if_pos (.inr h0)])⟩
    · right
      rw [if_neg (by simp [h0])] at ho
      refine ⟨ne_b (by omega), ⟨q2, q4.1, q4.2⟩, q6 (by omega), h0, ?_⟩
      by_cases h1 : 1 < ti
      · left
        rw [if_pos h1] at ho
        exact ⟨by omega, ho⟩
      · right
        rw [if_neg h1] at ho
        exact ⟨by omega, ho⟩
set_option maxRecDepth 100000 in
set_option maxHeartbeats 4000000 in
theorem ckTick (ep ba ti : Int) (bs : List ByteArray) (n : Nat) (hn : n = bs.length) (hlen : n ≤ 100000) (A : Option Addr) (c : Nat) (o : Sn × List Pk) (ho : o = tickO ⟨ep, ba, bs, ti⟩) (w : World) (h : Row w A (bcs bs)) :
    Calls Try.prog 17 #[.agg #[.int .i64 ep, .int .i64 ba, .slice A n c, .int .i64 ti]] w (OwnsSP o w) := by
  obtain ⟨r, hr⟩ : ∃ r, r = rightS ⟨ep, ba, bs, ti⟩ := ⟨_, rfl⟩
  have HR := Lib.hid (fun w' (hb' : Below w.heap.size w w') => ckRight ep ba bs n ti A c r hn hr w' (h.below hb') (by omega))
  have C0 := Lib.hid (CdAt.start w (.int .i64 ep) (.int .i64 ba) (.slice A n c) (.int .i64 ti))
  have hway := tick_ways ep ba ti bs n hn o r hr ho
  have HC := Lib.hid (fun w' (hb' : Below w.heap.size w w') => ckCopied ep ba ti bs n hn A c w' (h.below hb') hlen)
  have HN := Lib.hid hn
  have hmf : ∀ (fn : Fn) (first cap : Array Value) (w : World), (Instr.makeFunc fn first cap).run Try.prog w = .ok (.func fn first cap) w := fun _ _ _ _ => rfl
  have HW := Lib.hid hway
  clear hr ho h hn hlen hway
  go_enter Try.func17, Try.ntmps17
  go_upto_region 1 with fail
  obtain ⟨W, hW⟩ : ∃ W, W = (w.alloc (.cells #[.int .i64 ep, .int .i64 ba, .slice A n c, .int .i64 ti] 24)).alloc (.cells #[.int .i64 0, .int .i64 0, .slice none 0 0, .int .i64 0] 24) := ⟨_, rfl⟩
  rw [← hW] at C0 ⊢
  clear hW
  have x0 := C0.out.arg.cell (j := 0) rfl; have x1 := C0.out.arg.cell (j := 1) rfl; have x2 := C0.out.arg.cell (j := 2) rfl; have x3 := C0.out.arg.cell (j := 3) rfl
  go_wp2_with fail
  refine (HR.out _ C0.out.below).mono ?_
  rintro e w1 ⟨rfl, hb1⟩
  have C2 := Lib.hid (C0.out.next hb1)
  clear x0 x1 x2 x3 hb1 C0
  have x0 := C2.out.arg.cell (j := 0) rfl; have x1 := C2.out.arg.cell (j := 1) rfl; have x2 := C2.out.arg.cell (j := 2) rfl; have x3 := C2.out.arg.cell (j := 3) rfl
  have HSZ := Lib.hid (Nat.lt_of_lt_of_le (lt_of_block C2.out.res) (Nat.le_refl _))
  go_wp2_with fail
  refine (HC.out _ C2.out.below).mono ?_
  rintro e w3 ⟨A3, c3, rfl, ho3, hb3⟩
  have O3 := Lib.hid (own_baseL (B' := w.heap.size + 1 + 1) ho3 (by have := HSZ.out; omega))
  have P3 := Lib.hid (C2.out.next hb3)
  have C3 := Lib.hid (P3.out.putA (.int .i64 ep) (.int .i64 ba) (.slice A3 n c3) (.int .i64 ti))
  clear x0 x1 x2 x3 hb3 ho3 C2 HC HR
  have x0 := P3.out.arg.cell (j := 0) rfl; have x1 := P3.out.arg.cell (j := 1) rfl; have x2 := P3.out.arg.cell (j := 2) rfl; have x3 := P3.out.arg.cell (j := 3) rfl
  have f0 := P3.out.arg.free 0; have f1 := P3.out.arg.free 1; have f2 := P3.out.arg.free 2; have f3 := P3.out.arg.free 3
  go_upto_region 3 with fail
  clear x0 x1 x2 x3 f0 f1 f2 f3
  have O4 := Lib.hid (own_set4C O3.out (own_far O3.out (b := w.heap.size) (by omega)) (.int .i64 ep) (.int .i64 ba) (.slice A3 n c3) (.int .i64 ti))
  obtain ⟨W4, hW⟩ : ∃ W4, W4 = (((w3.setCell ⟨w.heap.size, 0, none⟩ (.int .i64 ep)).setCell ⟨w.heap.size, 1, none⟩ (.int .i64 ba)).setCell ⟨w.heap.size, 2, none⟩ (.slice A3 n c3)).setCell ⟨w.heap.size, 3, none⟩ (.int .i64 ti) := ⟨_, rfl⟩
  rw [← hW] at C3 O4 ⊢
  clear hW O3 P3
  have x0 := C3.out.arg.cell (j := 0) rfl; have x1 := C3.out.arg.cell (j := 1) rfl; have x2 := C3.out.arg.cell (j := 2) rfl; have x3 := C3.out.arg.cell (j := 3) rfl
  have y0 := C3.out.res.cell (j := 0) rfl; have y1 := C3.out.res.cell (j := 1) rfl; have y2 := C3.out.res.cell (j := 2) rfl; have y3 := C3.out.res.cell (j := 3) rfl
  have z0 := C3.out.res.free 0; have z1 := C3.out.res.free 1; have z2 := C3.out.res.free 2; have z3 := C3.out.res.free 3
  rcases HW.out with ⟨rfl, ho⟩ | ⟨rfl, ⟨g0, ho⟩ | ⟨g0, ⟨h8, hb0, hbn⟩, ⟨t1, t2⟩, hn0, hway⟩⟩
  · have HO := Lib.hid ho
    clear ho HW
    go_wp2_with fail
    exact tick_retK rfl rfl rfl (C3.out.putR _ _ _ _).res HO.out HN.out rfl (own_baseL (own_set4C O4.out (own_far O4.out (b := w.heap.size + 1) (by omega)) _ _ _ _) (by omega)) own_none (C3.out.putR _ _ _ _).below
  · have HO := Lib.hid ho
    clear ho HW
    go_wp2_with fail
    exact tick_retK rfl rfl rfl (C3.out.putR _ _ _ _).res HO.out HN.out rfl (own_baseL (own_set4C O4.out (own_far O4.out (b := w.heap.size + 1) (by omega)) _ _ _ _) (by omega)) own_none (C3.out.putR _ _ _ _).below
  · obtain ⟨tj, htj⟩ : ∃ tj, tj = ti - 1 := ⟨_, rfl⟩
    have hws : IntKind.i64.wrap (ti - 1) = tj := by rw [htj]; exact wrap64L (by omega) (by omega)
    rw [← htj] at hway
    have HQ := Lib.hid (And.intro h8 (And.intro hb0 hbn))
    have HN0 := Lib.hid hn0
    have HW2 := Lib.hid hway
    have f3 := C3.out.arg.free 3
    clear h8 hb0 hbn t1 t2 hway htj hn0 HW
    go_upto_region 6 with fail
    have C5 := Lib.hid (C3.out.put3 (.int .i64 tj))
    have O5 := Lib.hid (own_setL O4.out ⟨w.heap.size, 3, none⟩ (own_far O4.out (b := w.heap.size) (by omega)) (.int .i64 tj))
    obtain ⟨W5, hW⟩ : ∃ W5, W5 = W4.setCell ⟨w.heap.size, 3, none⟩ (.int .i64 tj) := ⟨_, rfl⟩
    rw [← hW] at C5 O5 ⊢
    clear hW C3 O4 x0 x1 x2 x3 y0 y1 y2 y3 z0 z1 z2 z3 f3 hws
    have x0 := C5.out.arg.cell (j := 0) rfl; have x1 := C5.out.arg.cell (j := 1) rfl; have x2 := C5.out.arg.cell (j := 2) rfl; have x3 := C5.out.arg.cell (j := 3) rfl
    rcases HW2.out with ⟨g1, ho⟩ | ⟨g1, ho⟩
    · have HO := Lib.hid ho
      clear ho HW2
      have y0 := C5.out.res.cell (j := 0) rfl; have y1 := C5.out.res.cell (j := 1) rfl; have y2 := C5.out.res.cell (j := 2) rfl; have y3 := C5.out.res.cell (j := 3) rfl
      have z0 := C5.out.res.free 0; have z1 := C5.out.res.free 1; have z2 := C5.out.res.free 2; have z3 := C5.out.res.free 3
      go_wp2_with fail
      exact tick_retK rfl rfl rfl (C5.out.putR _ _ _ _).res HO.out HN.out rfl (own_baseL (own_set4C O5.out (own_far O5.out (b := w.heap.size + 1) (by omega)) _ _ _ _) (by omega)) own_none (C5.out.putR _ _ _ _).below
    · have HO := Lib.hid ho
      have HE := Lib.hid (fun w => ckEnd ep ba tj n A3 c3 (ba + n) (by have := HQ.out; exact wrap64L (by omega) (by omega)) w)
      have HS := Lib.hid (fun w => ckStarted ep ba tj A3 n c3 4 (by rw [if_neg HN0.out]) w)
      have HP := Lib.hid (fun w' (hb' : Below W5.heap.size W5 w') => ckPackets ep ba tj bs n A3 c3 w' ((row_of_ownL O5.out (by omega)).below hb') HN.out (by have := HQ.out.1; omega) (ba + n) rfl HQ.out.2.1 (by have := HQ.out; omega))
      obtain ⟨en, hen⟩ : ∃ en, en = ba + (n : Int) := ⟨_, rfl⟩
      rw [← hen] at HE HP
      clear ho HW2 hen
      go_upto_region 8 with fail
      clear x0 x1 x2 x3
      refine wide_tail 8 (fun w5 => CdAt w (.int .i64 ep) (.int .i64 ba) (.slice A3 n c3) (.int .i64 tj) (.int .i64 0) (.int .i64 0) (.slice none 0 0) (.int .i64 0) w5 ∧ Below W5.heap.size W5 w5) (by kernel_rfl) (by kernel_rfl) ⟨C5.out.next (below_drewOf (Below.refl _ _)), below_drewOf (Below.refl _ _)⟩ ?_
      simp only [List.take_succ_cons, List.take_zero, List.drop_succ_cons, List.drop_zero]
      repeat (first
      | go_big_quiet_skip
      | (go_big_quiet_want
         apply wide_op
         · (intro w5 h5; have x0 := h5.1.arg.cell (j := 0) rfl; have x1 := h5.1.arg.cell (j := 1) rfl; have x2 := h5.1.arg.cell (j := 2) rfl; have x3 := h5.1.arg.cell (j := 3) rfl; go_simp; first | done | with_reducible rfl | (refine (HS.out _).mono ?_; rintro e w6 ⟨rfl, hb6⟩; exact ⟨rfl, h5.1.next hb6, below_next h5.2 hb6⟩) | (refine (HE.out _).mono ?_; rintro e w6 ⟨rfl, hb6⟩; exact ⟨rfl, h5.1.next hb6, below_next h5.2 hb6⟩))
         (try simp only [Act.put, List.setIfInBounds_toArray, List.set_cons_zero, List.set_cons_succ])
         go_big_quiet_on))
      refine wpQuiet_nil ?_
      intro w12 h12
      have D := Lib.hid h12.1
      have HB12 := Lib.hid h12.2
      clear h12
      go_wp2_with fail
      refine (HP.out _ HB12.out).mono ?_
      rintro e w13 ⟨A6, c6, rfl, ho6, hb6⟩
      have D2 := Lib.hid (D.out.next hb6)
      have OD := Lib.hid (own_upL O5.out (below_next HB12.out hb6))
      have OP := Lib.hid (own_baseL (B' := w.heap.size + 1 + 1) ho6 (by have := lt_of_block D.out.res; omega))
      clear hb6 ho6 D
      have y0 := D2.out.res.cell (j := 0) rfl; have y1 := D2.out.res.cell (j := 1) rfl; have y2 := D2.out.res.cell (j := 2) rfl; have y3 := D2.out.res.cell (j := 3) rfl
      have z0 := D2.out.res.free 0; have z1 := D2.out.res.free 1; have z2 := D2.out.res.free 2; have z3 := D2.out.res.free 3
      go_wp2_with fail
      exact tick_retK rfl rfl rfl (D2.out.putR _ _ _ _).res HO.out HN.out (by rw [packs_len, HN.out]) (own_baseL (own_set4C OD.out (own_far OD.out (b := w.heap.size + 1) (by omega)) _ _ _ _) (by omega)) (own_baseL (own_set4C OP.out (own_far OP.out (b := w.heap.size + 1) (by omega)) _ _ _ _) (by omega)) (D2.out.putR _ _ _ _).below
end Lk
end Go.Proofs.Ytbdlmokgmgpbfaa
