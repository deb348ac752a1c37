/- The code's Ack. -/
import Derived.Test.YtbdlmokgmgpbfaaLinkCopy
import Derived.Test.YtbdlmokgmgpbfaaLinkCkR
import Derived.Test.YtbdlmokgmgpbfaaLinkAckR
namespace Go.Proofs.Ytbdlmokgmgpbfaa
open Go.ChangeShapes Go.WideShapes Go.ChangeAt Go.RowKit
set_option linter.unusedVariables false
set_option maxRecDepth 8000
namespace Lk
open Gen (TellsB TellsI Mine)
/-- Hands back a sender whose bodies are a row of its own, and why not. -/
def OwnsSE (o : Sn × Int) (w : World) (e : Ending) (w' : World) : Prop :=
  ∃ A c, e = .returned (.tuple #[.agg #[.int .i64 o.1.epoch, .int .i64 o.1.base, .slice A o.1.bodies.length c, .int .i64 o.1.timer], .int .i64 o.2]) ∧ w'.ownsRow w.heap.size 9 1 (.slice A o.1.bodies.length c) o.1.bodies.length (bcs o.1.bodies) ∧ Below w.heap.size w w'
theorem OwnsSE.gives {o : Sn × Int} {w w' : World} {e : Ending} (h : OwnsSE o w e w') : GivesSE o w e w' := by
  obtain ⟨A, c, rfl, ho, hb⟩ := h
  obtain ⟨A', c', hv, h1, h2, _, h3, _⟩ := own_form ho (by omega)
  cases hv
  exact ⟨A, c, rfl, h1, h2, h3, hb⟩
theorem ack_retK {w wF : World} {R n : Nat} {ep ba ti z : Int} {bs : List ByteArray} {o : Sn × Int} {A : Option Addr} {c : Nat} {act : Act} (ht : act.tmps.getD 6 undef = .pointer (some ⟨R, 0, none⟩)) (hc : act.tmps.getD 7 undef = .int .i64 z) (hd : act.defers = [])
    (hL : Lies R #[.int .i64 ep, .int .i64 ba, .slice A n c, .int .i64 ti] 24 wF) (ho : o = (⟨ep, ba, bs, ti⟩, z)) (hn : n = bs.length) (h3 : wF.ownsRow w.heap.size 9 1 (.slice A n c) n (bcs bs)) (hB : Below w.heap.size w wF) :
    bodyPost Try.prog Try.f15 (OwnsSE o w) .ret act wF := by
  subst ho
  subst hn
  have c0 := hL.cell (j := 0) rfl
  have c1 := hL.cell (j := 1) rfl
  have c2 := hL.cell (j := 2) rfl
  have c3 := hL.cell (j := 3) rfl
  refine bodyPost_ret (v := .tuple #[.agg #[.int .i64 ep, .int .i64 ba, .slice A bs.length c, .int .i64 ti], .int .i64 z]) ?_ hd ⟨A, c, rfl, h3, hB⟩
  have ht2 : act.tmps[6]?.getD undef = .pointer (some ⟨R, 0, none⟩) := by simpa using ht
  have hc2 : act.tmps[7]?.getD undef = .int .i64 z := by simpa using hc
  simp [results, Try.results15, go_sem, ht2, hc2, c0, c1, c2, c3]
theorem own_someL {w : World} {B n c : Nat} {e : TypeId} {A : Option Addr} {xs : List Value} (h : w.ownsRow B e 1 (.slice A n c) n xs) (h0 : 0 < n) : ∃ g, A = some ⟨g, 0, none⟩ ∧ B ≤ g ∧ g < w.heap.size := by
  obtain ⟨hl, ⟨e0, e1⟩ | ⟨g, cap, cur, hv, hg, hh, hn, hm, hs, hx⟩⟩ := h
  · omega
  · cases hv
    exact ⟨g, rfl, hg, lt_of_block hh⟩
theorem ack_ways (ep ba ti : Int) (bs : List ByteArray) (n : Nat) (hn : n = bs.length) (epoch want : Int) (o : Sn × Int) (r : Bool) (hr : r = rightS ⟨ep, ba, bs, ti⟩) (ho : o = ackO ⟨ep, ba, bs, ti⟩ epoch want) :
    (r = false ∧ o = (⟨0, 0, [], 0⟩, 1)) ∨
      (r = true ∧ (n ≤ 8 ∧ 0 ≤ ba ∧ ba + n ≤ 1073741824) ∧ ((epoch != ep) = true ∧ o = (⟨0, 0, [], 0⟩, 150) ∨
        (epoch != ep) = false ∧ (ba + n < want ∧ o = (⟨0, 0, [], 0⟩, 1) ∨
          ¬ ba + n < want ∧ (want ≤ ba ∧ o = (⟨ep, ba, bs, ti⟩, 0) ∨ ¬ want ≤ ba ∧ ∃ d : Nat, want = ba + d ∧ 0 < d ∧ d ≤ n ∧ o = (⟨ep, want, bs.drop d, if n - d = 0 then 0 else 4⟩, 0))))) := by
  unfold ackO at ho
  rw [← hr] at ho
  simp only at ho
  rw [← hn] at ho
  cases r
  · left; exact ⟨rfl, ho.trans (by rw [if_pos rfl]; rfl)⟩
  · right
    obtain ⟨q1, q2, q3, q4, q5, q6⟩ := (right_iff _).1 hr.symm
    simp only at q1 q2 q3 q4 q5 q6
    rw [← hn] at q2 q4
    rw [if_neg (by simp)] at ho
    refine ⟨rfl, ⟨q2, q4.1, q4.2⟩, ?_⟩
    by_cases h1 : epoch = ep
    · right
      rw [if_neg (by simp [h1])] at ho
      refine ⟨nb0 h1, ?_⟩
      by_cases h2 : ba + n < want
      · left
        rw [if_pos h2] at ho
        exact ⟨h2, ho⟩
      · right
        rw [if_neg h2] at ho
        refine ⟨h2, ?_⟩
        by_cases h3 : want ≤ ba
        · left
          rw [if_pos h3] at ho
          exact ⟨h3, ho⟩
        · right
          rw [if_neg h3] at ho
          refine ⟨h3, (want - ba).toNat, by omega, by omega, by omega, ho.trans ?_⟩
          congr 2
          by_cases e : ba + (n : Int) = want
          · rw [if_pos e, if_pos (by omega)]
          · rw [if_neg e, if_neg (by omega)]
    · left
      rw [if_pos h1] at ho
      exact ⟨nb h1, ho⟩
set_option maxRecDepth 100000 in
set_option maxHeartbeats 2000000 in
theorem ckAck (ep ba ti : Int) (bs : List ByteArray) (n : Nat) (hn : n = bs.length) (hlen : n ≤ 4611686018427387904) (A : Option Addr) (c : Nat) (epoch want : Int) (o : Sn × Int) (ho : o = ackO ⟨ep, ba, bs, ti⟩ epoch want) (w : World) (h : Row w A (bcs bs)) :
    Calls Try.prog 15 #[.agg #[.int .i64 ep, .int .i64 ba, .slice A n c, .int .i64 ti], .int .i64 epoch, .int .i64 want] w (OwnsSE o w) := by
  obtain ⟨r, hr⟩ : ∃ r, r = rightS ⟨ep, ba, bs, ti⟩ := ⟨_, rfl⟩
  have HR := Lib.hid (fun w' (hb' : Below w.heap.size w w') => ckRight ep ba bs n ti A c r hn hr w' (h.below hb') hlen)
  have C0 := Lib.hid (CdAt.start w (.int .i64 ep) (.int .i64 ba) (.slice A n c) (.int .i64 ti))
  have hway := ack_ways ep ba ti bs n hn epoch want o r hr ho
  have HC := Lib.hid (fun (h8 : n ≤ 8) w' (hb' : Below w.heap.size w w') => ckCopied ep ba ti bs n hn A c w' (h.below hb') (by omega))
  have HN := Lib.hid hn
  clear hr ho h hn hlen
  rcases hway with ⟨rfl, ho⟩ | ⟨rfl, ⟨h8, hb0, hbn⟩, hway⟩
  · have HO := Lib.hid ho
    clear ho HC
    go_enter Try.func15, Try.ntmps15
    go_upto_region 1 with fail
    obtain ⟨W, hW⟩ : ∃ W, W = (w.alloc (.cells #[.int .i64 ep, .int .i64 ba, .slice A n c, .int .i64 ti] 24)).alloc (.cells #[.int .i64 0, .int .i64 0, .slice none 0 0, .int .i64 0] 24) := ⟨_, rfl⟩
    rw [← hW] at C0 ⊢
    clear hW
    have x0 := C0.out.arg.cell (j := 0) rfl; have x1 := C0.out.arg.cell (j := 1) rfl; have x2 := C0.out.arg.cell (j := 2) rfl; have x3 := C0.out.arg.cell (j := 3) rfl
    go_wp2_with fail
    refine (HR.out _ C0.out.below).mono ?_
    rintro e w1 ⟨rfl, hb1⟩
    have C1 := Lib.hid (C0.out.next hb1)
    clear x0 x1 x2 x3 hb1
    have y0 := C1.out.res.cell (j := 0) rfl; have y1 := C1.out.res.cell (j := 1) rfl; have y2 := C1.out.res.cell (j := 2) rfl; have y3 := C1.out.res.cell (j := 3) rfl
    have z0 := C1.out.res.free 0; have z1 := C1.out.res.free 1; have z2 := C1.out.res.free 2; have z3 := C1.out.res.free 3
    go_wp2_with fail
    exact ack_retK rfl rfl rfl (C1.out.putR _ _ _ _).res HO.out rfl own_none (C1.out.putR _ _ _ _).below
  · have HE := Lib.hid (fun w => ckEnd ep ba ti n A c (ba + n) (wrap64L (by omega) (by omega)) w)
    have HQ := Lib.hid (And.intro h8 (And.intro hb0 hbn))
    clear h8 hb0 hbn
    go_enter Try.func15, Try.ntmps15
    go_upto_region 1 with fail
    obtain ⟨W, hW⟩ : ∃ W, W = (w.alloc (.cells #[.int .i64 ep, .int .i64 ba, .slice A n c, .int .i64 ti] 24)).alloc (.cells #[.int .i64 0, .int .i64 0, .slice none 0 0, .int .i64 0] 24) := ⟨_, rfl⟩
    rw [← hW] at C0 ⊢
    clear hW
    have x0 := C0.out.arg.cell (j := 0) rfl; have x1 := C0.out.arg.cell (j := 1) rfl; have x2 := C0.out.arg.cell (j := 2) rfl; have x3 := C0.out.arg.cell (j := 3) rfl
    go_wp2_with fail
    refine (HR.out _ C0.out.below).mono ?_
    rintro e w1 ⟨rfl, hb1⟩
    have C1 := Lib.hid (C0.out.next hb1)
    clear x0 x1 x2 x3 hb1 C0
    have x0 := C1.out.arg.cell (j := 0) rfl; have x1 := C1.out.arg.cell (j := 1) rfl; have x2 := C1.out.arg.cell (j := 2) rfl; have x3 := C1.out.arg.cell (j := 3) rfl
    have y0 := C1.out.res.cell (j := 0) rfl; have y1 := C1.out.res.cell (j := 1) rfl; have y2 := C1.out.res.cell (j := 2) rfl; have y3 := C1.out.res.cell (j := 3) rfl
    have z0 := C1.out.res.free 0; have z1 := C1.out.res.free 1; have z2 := C1.out.res.free 2; have z3 := C1.out.res.free 3
    obtain ⟨en, hen⟩ : ∃ en, en = ba + (n : Int) := ⟨_, rfl⟩
    rw [← hen] at HE hway
    have HEN := Lib.hid hen
    clear hen
    rcases hway with ⟨g1, ho⟩ | ⟨g1, hway⟩
    · have HO := Lib.hid ho
      clear ho
      go_wp2_with fail
      exact ack_retK rfl rfl rfl (C1.out.putR _ _ _ _).res HO.out rfl own_none (C1.out.putR _ _ _ _).below
    have HW := Lib.hid hway
    clear hway
    go_upto_region 5 with fail
    go_wp2_with fail
    refine (HE.out _).mono ?_
    rintro e w2 ⟨rfl, hb2⟩
    have C2 := Lib.hid (C1.out.next hb2)
    clear x0 x1 x2 x3 y0 y1 y2 y3 z0 z1 z2 z3 hb2 C1
    have x0 := C2.out.arg.cell (j := 0) rfl; have x1 := C2.out.arg.cell (j := 1) rfl; have x2 := C2.out.arg.cell (j := 2) rfl; have x3 := C2.out.arg.cell (j := 3) rfl
    have y0 := C2.out.res.cell (j := 0) rfl; have y1 := C2.out.res.cell (j := 1) rfl; have y2 := C2.out.res.cell (j := 2) rfl; have y3 := C2.out.res.cell (j := 3) rfl
    have z0 := C2.out.res.free 0; have z1 := C2.out.res.free 1; have z2 := C2.out.res.free 2; have z3 := C2.out.res.free 3
    rcases HW.out with ⟨g2, ho⟩ | ⟨g2, hway⟩
    · have HO := Lib.hid ho
      clear ho
      go_wp2_with fail
      exact ack_retK rfl rfl rfl (C2.out.putR _ _ _ _).res HO.out rfl own_none (C2.out.putR _ _ _ _).below
    have HW2 := Lib.hid hway
    clear hway HW
    have HSZ := Lib.hid (Nat.lt_of_lt_of_le (lt_of_block C2.out.res) (Nat.le_refl _))
    go_wp2_with fail
    refine (HC.out HQ.out.1 _ C2.out.below).mono ?_
    rintro e w3 ⟨A3, c3, rfl, ho3, hb3⟩
    have O3 := Lib.hid (own_baseL (B' := w.heap.size + 1 + 1) ho3 (by have := HSZ.out; omega))
    have C3 := Lib.hid ((C2.out.next hb3).putA (.int .i64 ep) (.int .i64 ba) (.slice A3 n c3) (.int .i64 ti))
    have P3 := Lib.hid (C2.out.next hb3)
    clear x0 x1 x2 x3 y0 y1 y2 y3 z0 z1 z2 z3 hb3 ho3 C2
    have x0 := P3.out.arg.cell (j := 0) rfl; have x1 := P3.out.arg.cell (j := 1) rfl; have x2 := P3.out.arg.cell (j := 2) rfl; have x3 := P3.out.arg.cell (j := 3) rfl
    have f0 := P3.out.arg.free 0; have f1 := P3.out.arg.free 1; have f2 := P3.out.arg.free 2; have f3 := P3.out.arg.free 3
    go_upto_region 8 with fail
    clear x0 x1 x2 x3 f0 f1 f2 f3
    have O4 := Lib.hid (own_set4C O3.out (own_far O3.out (b := w.heap.size) (by omega)) (.int .i64 ep) (.int .i64 ba) (.slice A3 n c3) (.int .i64 ti))
    obtain ⟨W4, hW⟩ : ∃ W4, W4 = (((w3.setCell ⟨w.heap.size, 0, none⟩ (.int .i64 ep)).setCell ⟨w.heap.size, 1, none⟩ (.int .i64 ba)).setCell ⟨w.heap.size, 2, none⟩ (.slice A3 n c3)).setCell ⟨w.heap.size, 3, none⟩ (.int .i64 ti) := ⟨_, rfl⟩
    rw [← hW] at C3 O4 ⊢
    clear hW O3 P3
    have x0 := C3.out.arg.cell (j := 0) rfl; have x1 := C3.out.arg.cell (j := 1) rfl; have x2 := C3.out.arg.cell (j := 2) rfl; have x3 := C3.out.arg.cell (j := 3) rfl
    rcases HW2.out with ⟨g3, ho⟩ | ⟨g3, d, hd, hd0, hdn, ho⟩
    · have HO := Lib.hid ho
      clear ho
      have y0 := C3.out.res.cell (j := 0) rfl; have y1 := C3.out.res.cell (j := 1) rfl; have y2 := C3.out.res.cell (j := 2) rfl; have y3 := C3.out.res.cell (j := 3) rfl
      have z0 := C3.out.res.free 0; have z1 := C3.out.res.free 1; have z2 := C3.out.res.free 2; have z3 := C3.out.res.free 3
      go_wp2_with fail
      exact ack_retK rfl rfl rfl (C3.out.putR _ _ _ _).res HO.out HN.out (own_baseL (own_set4C O4.out (own_far O4.out (b := w.heap.size + 1) (by omega)) _ _ _ _) (by omega)) (C3.out.putR _ _ _ _).below
    · have HO := Lib.hid ho
      have hw : IntKind.i64.wrap (want - ba) = (d : Int) := by rw [hd, show ba + (d : Int) - ba = d by omega]; have := HQ.out; exact wrap64L (by omega) (by omega)
      obtain ⟨g, rfl, hg1, hg2⟩ := own_someL O4.out (by omega)
      have HD := Lib.hid (ckDelete bs n d g c3 (w.heap.size + 1 + 1) W4 HN.out O4.out (by have := HQ.out; omega) hd0 hdn)
      have HG := Lib.hid (And.intro hg1 hg2)
      have HDN := Lib.hid (And.intro hd (And.intro hd0 hdn))
      clear ho hd hd0 hdn hg1 hg2 HW2
      go_wp2_with fail
      refine HD.out.mono ?_
      rintro e w5 ⟨rfl, ho5, hm5⟩
      obtain ⟨t, ht⟩ : ∃ t, t = n - d := ⟨_, rfl⟩
      have HT := Lib.hid ht
      rw [← ht] at ho5 ⊢
      have O5 := Lib.hid ho5
      have P5 : Hid (CdAt w (.int .i64 ep) (.int .i64 ba) (.slice (some ⟨g, 0, none⟩) n c3) (.int .i64 ti) (.int .i64 0) (.int .i64 0) (.slice none 0 0) (.int .i64 0) w5) := Lib.hid ⟨hm5.lies C3.out.arg (by have := HG.out; omega), hm5.lies C3.out.res (by have := HG.out; omega), Mine.below C3.out.below hm5 (fun k hk => by subst hk; have := HG.out; omega) (by have := lt_of_block C3.out.arg; omega)⟩
      clear x0 x1 x2 x3 hm5 ho5 ht HD
      have f1 := P5.out.arg.free 1; have f2 := P5.out.arg.free 2
      have x1 := P5.out.arg.cell (j := 1) rfl; have x2 := P5.out.arg.cell (j := 2) rfl
      go_upto_region 12 with fail
      have C6 := Lib.hid ((P5.out.put2 (.slice (some ⟨g, 0, none⟩) t c3)).put1 (.int .i64 want))
      have O6 := Lib.hid (own_setL (own_setL O5.out ⟨w.heap.size, 2, none⟩ (own_far O5.out (b := w.heap.size) (by omega)) (.slice (some ⟨g, 0, none⟩) t c3)) ⟨w.heap.size, 1, none⟩ (own_far O5.out (b := w.heap.size) (by omega)) (.int .i64 want))
      obtain ⟨W6, hW⟩ : ∃ W6, W6 = (w5.setCell ⟨w.heap.size, 2, none⟩ (.slice (some ⟨g, 0, none⟩) t c3)).setCell ⟨w.heap.size, 1, none⟩ (.int .i64 want) := ⟨_, rfl⟩
      rw [← hW] at C6 O6 ⊢
      clear hW x1 x2 f1 f2 P5 O5
      have x0 := C6.out.arg.cell (j := 0) rfl; have x1 := C6.out.arg.cell (j := 1) rfl; have x2 := C6.out.arg.cell (j := 2) rfl; have x3 := C6.out.arg.cell (j := 3) rfl
      have HS := Lib.hid (fun w => ckStarted ep want ti (some ⟨g, 0, none⟩) t c3 _ rfl w)
      obtain ⟨tm, htm⟩ : ∃ tm : Int, tm = if t = 0 then 0 else 4 := ⟨_, rfl⟩
      rw [← htm] at HS
      have HTM := Lib.hid htm
      clear htm
      go_wp2_with fail
      refine (HS.out _).mono ?_
      rintro e w7 ⟨rfl, hb7⟩
      have C7 := Lib.hid (C6.out.next hb7)
      have O7 := Lib.hid (own_upL O6.out hb7)
      clear x0 x1 x2 x3 hb7 C6 O6
      have y0 := C7.out.res.cell (j := 0) rfl; have y1 := C7.out.res.cell (j := 1) rfl; have y2 := C7.out.res.cell (j := 2) rfl; have y3 := C7.out.res.cell (j := 3) rfl
      have z0 := C7.out.res.free 0; have z1 := C7.out.res.free 1; have z2 := C7.out.res.free 2; have z3 := C7.out.res.free 3
      go_wp2_with fail
      exact ack_retK rfl rfl rfl (C7.out.putR _ _ _ _).res (HO.out.trans (by rw [HTM.out, HT.out])) (by rw [HT.out, List.length_drop, HN.out]) (own_baseL (own_set4C O7.out (own_far O7.out (b := w.heap.size + 1) (by omega)) _ _ _ _) (by omega)) (C7.out.putR _ _ _ _).below
end Lk
end Go.Proofs.Ytbdlmokgmgpbfaa
