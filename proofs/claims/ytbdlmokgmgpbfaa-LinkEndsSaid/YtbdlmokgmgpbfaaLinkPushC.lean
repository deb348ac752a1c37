/- The code's Push. -/
import Derived.Test.YtbdlmokgmgpbfaaLinkAckC
import Derived.Test.YtbdlmokgmgpbfaaLinkPushR
namespace Go.Proofs.Ytbdlmokgmgpbfaa
open Go.ChangeShapes Go.WideShapes Go.ChangeAt Go.RowKit
set_option linter.unusedVariables false
set_option maxRecDepth 8000
namespace Lk
open Gen (TellsB TellsI Mine)
/-- Hands back a sender whose bodies are a row of its own, a packet, and why not. -/
def OwnsPu (o : Sn × Pk × Int) (w : World) (e : Ending) (w' : World) : Prop :=
  ∃ A c, e = .returned (.tuple #[.agg #[.int .i64 o.1.epoch, .int .i64 o.1.base, .slice A o.1.bodies.length c, .int .i64 o.1.timer], .agg #[.int .i64 o.2.1.epoch, .int .i64 o.2.1.no, .string o.2.1.body], .int .i64 o.2.2]) ∧ w'.ownsRow w.heap.size 9 1 (.slice A o.1.bodies.length c) o.1.bodies.length (bcs o.1.bodies) ∧ Below w.heap.size w w'
theorem push_retK {w wF : World} {R P n : Nat} {ep ba ti z pe no : Int} {body : ByteArray} {bs : List ByteArray} {o : Sn × Pk × Int} {A : Option Addr} {c : Nat} {act : Act} (ht : act.tmps.getD 4 undef = .pointer (some ⟨R, 0, none⟩)) (hp : act.tmps.getD 5 undef = .pointer (some ⟨P, 0, none⟩)) (hc : act.tmps.getD 6 undef = .int .i64 z) (hd : act.defers = [])
    (hL : Lies R #[.int .i64 ep, .int .i64 ba, .slice A n c, .int .i64 ti] 24 wF) (hP : Lies P #[.int .i64 pe, .int .i64 no, .string body] 26 wF) (ho : o = (⟨ep, ba, bs, ti⟩, ⟨pe, no, body⟩, z)) (hn : n = bs.length) (h3 : wF.ownsRow w.heap.size 9 1 (.slice A n c) n (bcs bs)) (hB : Below w.heap.size w wF) :
    bodyPost Try.prog Try.f9 (OwnsPu o w) .ret act wF := by
  subst ho
  subst hn
  have c0 := hL.cell (j := 0) rfl
  have c1 := hL.cell (j := 1) rfl
  have c2 := hL.cell (j := 2) rfl
  have c3 := hL.cell (j := 3) rfl
  have d0 := hP.cell (j := 0) rfl
  have d1 := hP.cell (j := 1) rfl
  have d2 := hP.cell (j := 2) rfl
  refine bodyPost_ret (v := .tuple #[.agg #[.int .i64 ep, .int .i64 ba, .slice A bs.length c, .int .i64 ti], .agg #[.int .i64 pe, .int .i64 no, .string body], .int .i64 z]) ?_ hd ⟨A, c, rfl, h3, hB⟩
  have ht2 : act.tmps[4]?.getD undef = .pointer (some ⟨R, 0, none⟩) := by simpa using ht
  have hp2 : act.tmps[5]?.getD undef = .pointer (some ⟨P, 0, none⟩) := by simpa using hp
  have hc2 : act.tmps[6]?.getD undef = .int .i64 z := by simpa using hc
  simp [results, Try.results9, go_sem, ht2, hp2, hc2, c0, c1, c2, c3, d0, d1, d2]
theorem own_raise {w : World} {B B' size n : Nat} {e : TypeId} {v : Value} {xs : List Value} (h : w.ownsRow B e size v n xs) (hb : ∀ q, v.ownBlock = some q → B' ≤ q) : w.ownsRow B' e size v n xs := by
  obtain ⟨hl, h | ⟨g, cap, cur, rfl, hg, rest⟩⟩ := h
  · exact ⟨hl, .inl h⟩
  · exact ⟨hl, .inr ⟨g, cap, cur, rfl, hb g rfl, rest⟩⟩
/-- Push's blocks. -/
structure PdAt (w0 : World) (a0 a1 a2 a3 r0 r1 r2 r3 p0 p1 p2 : Value) (w : World) : Prop where
  arg : Lies w0.heap.size #[a0, a1, a2, a3] 24 w
  res : Lies (w0.heap.size + 1) #[r0, r1, r2, r3] 24 w
  pk : Lies (w0.heap.size + 1 + 1) #[p0, p1, p2] 26 w
  below : Below w0.heap.size w0 w
section
variable {w0 w w' : World} {a0 a1 a2 a3 r0 r1 r2 r3 p0 p1 p2 : Value}
theorem PdAt.next (h : PdAt w0 a0 a1 a2 a3 r0 r1 r2 r3 p0 p1 p2 w) (hb : Below w.heap.size w w') : PdAt w0 a0 a1 a2 a3 r0 r1 r2 r3 p0 p1 p2 w' := ⟨h.arg.below hb, h.res.below hb, h.pk.below hb, below_next h.below hb⟩
theorem PdAt.start (w0 : World) (a0 a1 a2 a3 : Value) : PdAt w0 a0 a1 a2 a3 (.int .i64 0) (.int .i64 0) (.slice none 0 0) (.int .i64 0) (.int .i64 0) (.int .i64 0) (.string ⟨#[]⟩)
    (((w0.alloc (.cells #[a0, a1, a2, a3] 24)).alloc (.cells #[.int .i64 0, .int .i64 0, .slice none 0 0, .int .i64 0] 24)).alloc (.cells #[.int .i64 0, .int .i64 0, .string ⟨#[]⟩] 26)) :=
  ⟨(Lies.new w0 _ _).al.al, (Gen.lies_new1 w0 _ _ _).al, Gen.lies_new2 w0 _ _ _ _, below_al (below_al (below_al (Below.refl _ _)))⟩
theorem PdAt.putR (h : PdAt w0 a0 a1 a2 a3 r0 r1 r2 r3 p0 p1 p2 w) (v0 v1 v2 v3 : Value) :
    PdAt w0 a0 a1 a2 a3 v0 v1 v2 v3 p0 p1 p2 ((((w.setCell ⟨w0.heap.size + 1, 0, none⟩ v0).setCell ⟨w0.heap.size + 1, 1, none⟩ v1).setCell ⟨w0.heap.size + 1, 2, none⟩ v2).setCell ⟨w0.heap.size + 1, 3, none⟩ v3) :=
  ⟨(((h.arg.other (by omega) _ _).other (by omega) _ _).other (by omega) _ _).other (by omega) _ _, Gen.Lies.set4 h.res _ _ _ _, (((h.pk.other (by omega) _ _).other (by omega) _ _).other (by omega) _ _).other (by omega) _ _, Gen.below_set4 h.below (by omega) _ _ _ _⟩
theorem PdAt.putA (h : PdAt w0 a0 a1 a2 a3 r0 r1 r2 r3 p0 p1 p2 w) (v0 v1 v2 v3 : Value) :
    PdAt w0 v0 v1 v2 v3 r0 r1 r2 r3 p0 p1 p2 ((((w.setCell ⟨w0.heap.size, 0, none⟩ v0).setCell ⟨w0.heap.size, 1, none⟩ v1).setCell ⟨w0.heap.size, 2, none⟩ v2).setCell ⟨w0.heap.size, 3, none⟩ v3) :=
  ⟨Gen.Lies.set4 h.arg _ _ _ _, (((h.res.other (by omega) _ _).other (by omega) _ _).other (by omega) _ _).other (by omega) _ _, (((h.pk.other (by omega) _ _).other (by omega) _ _).other (by omega) _ _).other (by omega) _ _, Gen.below_set4 h.below (Nat.le_refl _) _ _ _ _⟩
theorem PdAt.put2 (h : PdAt w0 a0 a1 a2 a3 r0 r1 r2 r3 p0 p1 p2 w) (v : Value) : PdAt w0 a0 a1 v a3 r0 r1 r2 r3 p0 p1 p2 (w.setCell ⟨w0.heap.size, 2, none⟩ v) :=
  ⟨by have := h.arg.set 2 v; simpa using this, h.res.other (by omega) _ _, h.pk.other (by omega) _ _, h.below.setCell (p := ⟨w0.heap.size, 2, none⟩) (Nat.le_refl _) _⟩
theorem PdAt.putP (h : PdAt w0 a0 a1 a2 a3 r0 r1 r2 r3 p0 p1 p2 w) (v0 v1 v2 : Value) :
    PdAt w0 a0 a1 a2 a3 r0 r1 r2 r3 v0 v1 v2 (((w.setCell ⟨w0.heap.size + 1 + 1, 0, none⟩ v0).setCell ⟨w0.heap.size + 1 + 1, 1, none⟩ v1).setCell ⟨w0.heap.size + 1 + 1, 2, none⟩ v2) :=
  ⟨((h.arg.other (by omega) _ _).other (by omega) _ _).other (by omega) _ _, ((h.res.other (by omega) _ _).other (by omega) _ _).other (by omega) _ _, lies_setP h.pk _ _ _,
   ((h.below.setCell (p := ⟨w0.heap.size + 1 + 1, 0, none⟩) (by show _ ≤ w0.heap.size + 1 + 1; omega) _).setCell (p := ⟨w0.heap.size + 1 + 1, 1, none⟩) (by show _ ≤ w0.heap.size + 1 + 1; omega) _).setCell (p := ⟨w0.heap.size + 1 + 1, 2, none⟩) (by show _ ≤ w0.heap.size + 1 + 1; omega) _⟩
end
theorem push_ways (ep ba ti : Int) (bs : List ByteArray) (n : Nat) (hn : n = bs.length) (body : ByteArray) (o : Sn × Pk × Int) (r : Bool) (hr : r = rightS ⟨ep, ba, bs, ti⟩) (ho : o = pushO ⟨ep, ba, bs, ti⟩ body) :
    (r = false ∧ o = (⟨0, 0, [], 0⟩, ⟨0, 0, ⟨#[]⟩⟩, 1)) ∨
      (r = true ∧ (n ≤ 8 ∧ 0 ≤ ba ∧ ba + n ≤ 1073741824) ∧ (decide ((4096 : Int) < body.size) = true ∧ o = (⟨0, 0, [], 0⟩, ⟨0, 0, ⟨#[]⟩⟩, 2) ∨
        decide ((4096 : Int) < body.size) = false ∧ (((n : Int) == 8) = true ∧ o = (⟨0, 0, [], 0⟩, ⟨0, 0, ⟨#[]⟩⟩, 3) ∨
          ((n : Int) == 8) = false ∧ ((ba + n == 1073741824) = true ∧ o = (⟨0, 0, [], 0⟩, ⟨0, 0, ⟨#[]⟩⟩, 3) ∨
            (ba + n == 1073741824) = false ∧ o = (⟨ep, ba, bs ++ [body], if n = 0 then 4 else ti⟩, ⟨ep, ba + n, body⟩, 0))))) := by
  unfold pushO at ho
  rw [← hr] at ho
  simp only at ho
  rw [← hn] at ho
  cases r
  · left; exact ⟨rfl, ho.trans (by rw [if_pos rfl]; rfl)⟩
  · right
    obtain ⟨q1, q2, q3, q4, q5, q6⟩ := (right_iff _).1 hr.symm
    simp only at q1 q2 q3 q4 q5 q6
    rw [← hn] at q2 q4
    rw [if_neg (by simp)] at ho
    refine ⟨rfl, ⟨q2, q4.1, q4.2⟩, ?_⟩
    by_cases h1 : 4096 < body.size
    · left
      rw [if_pos h1] at ho
      exact ⟨decide_eq_true (by omega), ho⟩
    · right
      rw [if_neg h1] at ho
      refine ⟨decide_eq_false (by omega), ?_⟩
      by_cases h2 : n = 8
      · left
        rw [if_pos (.inl h2)] at ho
        exact ⟨eq_b (by omega), ho⟩
      · right
        refine ⟨ne_b (by omega), ?_⟩
        by_cases h3 : ba + (n : Int) = 1073741824
        · left
          rw [if_pos (.inr h3)] at ho
          exact ⟨eq_b h3, ho⟩
        · right
          rw [if_neg (by omega)] at ho
          exact ⟨ne_b h3, ho⟩
set_option maxRecDepth 100000 in
set_option maxHeartbeats 4000000 in
theorem ckPush (ep ba ti : Int) (bs : List ByteArray) (n : Nat) (hn : n = bs.length) (hlen : n ≤ 4611686018427387904) (A : Option Addr) (c : Nat) (body : ByteArray) (o : Sn × Pk × Int) (ho : o = pushO ⟨ep, ba, bs, ti⟩ body) (w : World) (h : Row w A (bcs bs)) :
    Calls Try.prog 9 #[.agg #[.int .i64 ep, .int .i64 ba, .slice A n c, .int .i64 ti], .string body] w (OwnsPu o w) := by
  obtain ⟨r, hr⟩ : ∃ r, r = rightS ⟨ep, ba, bs, ti⟩ := ⟨_, rfl⟩
  have HR := Lib.hid (fun w' (hb' : Below w.heap.size w w') => ckRight ep ba bs n ti A c r hn hr w' (h.below hb') hlen)
  have C0 := Lib.hid (PdAt.start w (.int .i64 ep) (.int .i64 ba) (.slice A n c) (.int .i64 ti))
  have hway := push_ways ep ba ti bs n hn body o r hr ho
  have HC := Lib.hid (fun (h8 : n ≤ 8) w' (hb' : Below w.heap.size w w') => ckCopied ep ba ti bs n hn A c w' (h.below hb') (by omega))
  have HL := Lib.hid (fun w => ckLong body w)
  have HN := Lib.hid hn
  clear hr ho h hn hlen
  rcases hway with ⟨rfl, ho⟩ | ⟨rfl, ⟨h8, hb0, hbn⟩, hway⟩
  · have HO := Lib.hid ho
    clear ho HC HL
    go_enter Try.func9, Try.ntmps9
    go_upto_region 1 with fail
    obtain ⟨W, hW⟩ : ∃ W, W = (((w.alloc (.cells #[.int .i64 ep, .int .i64 ba, .slice A n c, .int .i64 ti] 24)).alloc (.cells #[.int .i64 0, .int .i64 0, .slice none 0 0, .int .i64 0] 24)).alloc (.cells #[.int .i64 0, .int .i64 0, .string ⟨#[]⟩] 26)) := ⟨_, rfl⟩
    rw [← hW] at C0 ⊢
    clear hW
    have x0 := C0.out.arg.cell (j := 0) rfl; have x1 := C0.out.arg.cell (j := 1) rfl; have x2 := C0.out.arg.cell (j := 2) rfl; have x3 := C0.out.arg.cell (j := 3) rfl
    go_wp2_with fail
    refine (HR.out _ C0.out.below).mono ?_
    rintro e w1 ⟨rfl, hb1⟩
    have C1 := Lib.hid (C0.out.next hb1)
    clear x0 x1 x2 x3 hb1
    have y0 := C1.out.res.cell (j := 0) rfl; have y1 := C1.out.res.cell (j := 1) rfl; have y2 := C1.out.res.cell (j := 2) rfl; have y3 := C1.out.res.cell (j := 3) rfl
    have z0 := C1.out.res.free 0; have z1 := C1.out.res.free 1; have z2 := C1.out.res.free 2; have z3 := C1.out.res.free 3
    have v0 := C1.out.pk.cell (j := 0) rfl; have v1 := C1.out.pk.cell (j := 1) rfl; have v2 := C1.out.pk.cell (j := 2) rfl
    have u0 := C1.out.pk.free 0; have u1 := C1.out.pk.free 1; have u2 := C1.out.pk.free 2
    go_wp2_with fail
    exact push_retK rfl rfl rfl rfl ((C1.out.putR _ _ _ _).putP _ _ _).res ((C1.out.putR _ _ _ _).putP _ _ _).pk HO.out rfl own_none ((C1.out.putR _ _ _ _).putP _ _ _).below
  · have HE := Lib.hid (fun w => ckEnd ep ba ti n A c (ba + n) (wrap64L (by omega) (by omega)) w)
    have HQ := Lib.hid (And.intro h8 (And.intro hb0 hbn))
    clear h8 hb0 hbn
    go_enter Try.func9, Try.ntmps9
    go_upto_region 1 with fail
    obtain ⟨W, hW⟩ : ∃ W, W = (((w.alloc (.cells #[.int .i64 ep, .int .i64 ba, .slice A n c, .int .i64 ti] 24)).alloc (.cells #[.int .i64 0, .int .i64 0, .slice none 0 0, .int .i64 0] 24)).alloc (.cells #[.int .i64 0, .int .i64 0, .string ⟨#[]⟩] 26)) := ⟨_, rfl⟩
    rw [← hW] at C0 ⊢
    clear hW
    have x0 := C0.out.arg.cell (j := 0) rfl; have x1 := C0.out.arg.cell (j := 1) rfl; have x2 := C0.out.arg.cell (j := 2) rfl; have x3 := C0.out.arg.cell (j := 3) rfl
    go_wp2_with fail
    refine (HR.out _ C0.out.below).mono ?_
    rintro e w1 ⟨rfl, hb1⟩
    have C1 := Lib.hid (C0.out.next hb1)
    clear x0 x1 x2 x3 hb1 C0
    obtain ⟨en, hen⟩ : ∃ en, en = ba + (n : Int) := ⟨_, rfl⟩
    rw [← hen] at HE hway
    have HEN := Lib.hid hen
    clear hen
    obtain ⟨lg, hlg⟩ : ∃ lg, lg = decide ((4096 : Int) < body.size) := ⟨_, rfl⟩
    rw [← hlg] at HL hway
    clear hlg
    have HW := Lib.hid hway
    clear hway
    go_wp2_with fail
    refine (HL.out _).mono ?_
    rintro e w1b ⟨rfl, rfl⟩
    have x0 := C1.out.arg.cell (j := 0) rfl; have x1 := C1.out.arg.cell (j := 1) rfl; have x2 := C1.out.arg.cell (j := 2) rfl; have x3 := C1.out.arg.cell (j := 3) rfl
    have y0 := C1.out.res.cell (j := 0) rfl; have y1 := C1.out.res.cell (j := 1) rfl; have y2 := C1.out.res.cell (j := 2) rfl; have y3 := C1.out.res.cell (j := 3) rfl
    have z0 := C1.out.res.free 0; have z1 := C1.out.res.free 1; have z2 := C1.out.res.free 2; have z3 := C1.out.res.free 3
    have v0 := C1.out.pk.cell (j := 0) rfl; have v1 := C1.out.pk.cell (j := 1) rfl; have v2 := C1.out.pk.cell (j := 2) rfl
    have u0 := C1.out.pk.free 0; have u1 := C1.out.pk.free 1; have u2 := C1.out.pk.free 2
    rcases HW.out with ⟨rfl, ho⟩ | ⟨rfl, ⟨g8, ho⟩ | ⟨g8, hway⟩⟩
    · have HO := Lib.hid ho
      clear ho
      go_wp2_with fail
      exact push_retK rfl rfl rfl rfl ((C1.out.putR _ _ _ _).putP _ _ _).res ((C1.out.putR _ _ _ _).putP _ _ _).pk HO.out rfl own_none ((C1.out.putR _ _ _ _).putP _ _ _).below
    · have HO := Lib.hid ho
      clear ho
      go_wp2_with fail
      exact push_retK rfl rfl rfl rfl ((C1.out.putR _ _ _ _).putP _ _ _).res ((C1.out.putR _ _ _ _).putP _ _ _).pk HO.out rfl own_none ((C1.out.putR _ _ _ _).putP _ _ _).below
    have HW2 := Lib.hid hway
    clear hway HW
    go_wp2_with fail
    refine (HE.out _).mono ?_
    rintro e w2 ⟨rfl, hb2⟩
    have C2 := Lib.hid (C1.out.next hb2)
    clear x0 x1 x2 x3 y0 y1 y2 y3 z0 z1 z2 z3 v0 v1 v2 u0 u1 u2 hb2 C1
    have x0 := C2.out.arg.cell (j := 0) rfl; have x1 := C2.out.arg.cell (j := 1) rfl; have x2 := C2.out.arg.cell (j := 2) rfl; have x3 := C2.out.arg.cell (j := 3) rfl
    rcases HW2.out with ⟨g9, ho⟩ | ⟨g9, ho⟩
    · have HO := Lib.hid ho
      clear ho
      have y0 := C2.out.res.cell (j := 0) rfl; have y1 := C2.out.res.cell (j := 1) rfl; have y2 := C2.out.res.cell (j := 2) rfl; have y3 := C2.out.res.cell (j := 3) rfl
      have z0 := C2.out.res.free 0; have z1 := C2.out.res.free 1; have z2 := C2.out.res.free 2; have z3 := C2.out.res.free 3
      have v0 := C2.out.pk.cell (j := 0) rfl; have v1 := C2.out.pk.cell (j := 1) rfl; have v2 := C2.out.pk.cell (j := 2) rfl
      have u0 := C2.out.pk.free 0; have u1 := C2.out.pk.free 1; have u2 := C2.out.pk.free 2
      go_wp2_with fail
      exact push_retK rfl rfl rfl rfl ((C2.out.putR _ _ _ _).putP _ _ _).res ((C2.out.putR _ _ _ _).putP _ _ _).pk HO.out rfl own_none ((C2.out.putR _ _ _ _).putP _ _ _).below
    have HO := Lib.hid ho
    clear ho HW2
    go_wp2_with fail
    refine (HE.out _).mono ?_
    rintro e w2b ⟨rfl, hb2⟩
    have C2b := Lib.hid (C2.out.next hb2)
    clear x0 x1 x2 x3 hb2 C2 g9
    have x0 := C2b.out.arg.cell (j := 0) rfl; have x1 := C2b.out.arg.cell (j := 1) rfl; have x2 := C2b.out.arg.cell (j := 2) rfl; have x3 := C2b.out.arg.cell (j := 3) rfl
    have HSZ := Lib.hid (Nat.lt_of_lt_of_le (lt_of_block C2b.out.pk) (Nat.le_refl _))
    go_wp2_with fail
    refine (HC.out HQ.out.1 _ C2b.out.below).mono ?_
    rintro e w3 ⟨A3, c3, rfl, ho3, hb3⟩
    have O3 := Lib.hid (own_baseL (B' := w.heap.size + 1 + 1 + 1) ho3 (by have := HSZ.out; omega))
    have P3 := Lib.hid (C2b.out.next hb3)
    have C3 := Lib.hid (P3.out.putA (.int .i64 ep) (.int .i64 ba) (.slice A3 n c3) (.int .i64 ti))
    clear x0 x1 x2 x3 hb3 ho3 C2b HC HE HR HL
    have x0 := P3.out.arg.cell (j := 0) rfl; have x1 := P3.out.arg.cell (j := 1) rfl; have x2 := P3.out.arg.cell (j := 2) rfl; have x3 := P3.out.arg.cell (j := 3) rfl
    have f0 := P3.out.arg.free 0; have f1 := P3.out.arg.free 1; have f2 := P3.out.arg.free 2; have f3 := P3.out.arg.free 3
    go_upto_region 9 with fail
    clear x0 x1 x2 x3 f0 f1 f2 f3
    have O4 := Lib.hid (own_set4C O3.out (own_far O3.out (b := w.heap.size) (by omega)) (.int .i64 ep) (.int .i64 ba) (.slice A3 n c3) (.int .i64 ti))
    obtain ⟨W4, hW⟩ : ∃ W4, W4 = (((w3.setCell ⟨w.heap.size, 0, none⟩ (.int .i64 ep)).setCell ⟨w.heap.size, 1, none⟩ (.int .i64 ba)).setCell ⟨w.heap.size, 2, none⟩ (.slice A3 n c3)).setCell ⟨w.heap.size, 3, none⟩ (.int .i64 ti) := ⟨_, rfl⟩
    rw [← hW] at C3 O4 ⊢
    clear hW O3 P3
    have x2 := C3.out.arg.cell (j := 2) rfl
    go_wp2_with (at_builtin; refine hold_mk ?_)
    refine hold_out ?_
    have hro := one_rowB W4 body
    have hb2 := below_al (o := .cells #[.string body] 9) (Below.refl W4.heap.size W4)
    have hB4 : BuiltB w W4 (.slice A3 n c3) bs := ⟨by rw [← HN.out]; exact own_baseL O4.out (by omega), C3.out.below⟩
    refine wpPushB rfl _ _ rfl _ bs rfl (hB4.up hb2) _ 1 1 [body] rfl hro rfl (by rw [← HN.out]; have := HQ.out.1; simp; omega) ?_
    intro v9 w9 bt9 hg9 hat9
    have hf9 : ∀ q, v9.ownBlock = some q → w.heap.size + 1 + 1 + 1 ≤ q := fun q e => by
      rcases hat9 with e2 | e2
      · rw [e2] at e; exact (O4.out.lt q e).1
      · rw [e2] at e; have h1 := Option.some.inj e; have h2 := lt_of_block C3.out.pk; simp at h1; omega
    obtain ⟨A9, c9, hv9, _⟩ := own_form bt9.own (by omega)
    obtain ⟨nl, hnl⟩ : ∃ nl, nl = (bs ++ [body]).length := ⟨_, rfl⟩
    have hnl1 : nl = n + 1 := by rw [hnl, List.length_append, ← HN.out]; rfl
    have O9 := Lib.hid (own_raise bt9.own hf9)
    rw [← hnl] at hv9 O9
    subst hv9
    have hfo : ∀ b, b < w.heap.size + 1 + 1 + 1 → (Value.slice A3 n c3).ownBlock ≠ some b := fun b hb => own_far O4.out hb
    have C9 : Hid (PdAt w (.int .i64 ep) (.int .i64 ba) (.slice A3 n c3) (.int .i64 ti) (.int .i64 0) (.int .i64 0) (.slice none 0 0) (.int .i64 0) (.int .i64 0) (.int .i64 0) (.string ⟨#[]⟩) w9) :=
      Lib.hid ⟨lies_grownK C3.out.arg.al hg9 (hfo _ (by omega)), lies_grownK C3.out.res.al hg9 (hfo _ (by omega)), lies_grownK C3.out.pk.al hg9 (hfo _ (by omega)), bt9.below⟩
    have HNL := Lib.hid hnl
    have HNL1 := Lib.hid hnl1
    clear bt9 hg9 hat9 hb2 hro x2 hB4 hf9 hfo hnl hnl1
    have f2 := C9.out.arg.free 2; have x2 := C9.out.arg.cell (j := 2) rfl
    go_upto_region 10 with fail
    have C10 := Lib.hid (C9.out.put2 (.slice A9 nl c9))
    have O10 := Lib.hid (own_setL O9.out ⟨w.heap.size, 2, none⟩ (own_far O9.out (b := w.heap.size) (by omega)) (.slice A9 nl c9))
    obtain ⟨W10, hW⟩ : ∃ W10, W10 = w9.setCell ⟨w.heap.size, 2, none⟩ (.slice A9 nl c9) := ⟨_, rfl⟩
    rw [← hW] at C10 O10 ⊢
    clear hW x2 f2 C9 O9 C3 O4
    have x2 := C10.out.arg.cell (j := 2) rfl
    obtain ⟨no, hno⟩ : ∃ no, no = en := ⟨_, rfl⟩
    have HNO := Lib.hid (hno.trans HEN.out)
    by_cases h0 : n = 0
    · have g1 : ((nl : Int) == 1) = true := eq_b (by have := HNL1.out; omega)
      have HO3 : Hid (o = (⟨ep, ba, bs ++ [body], 4⟩, ⟨ep, no, body⟩, 0)) := Lib.hid (by have := HO.out; rwa [if_pos h0, ← hno] at this)
      rw [← hno]
      have HS := Lib.hid (fun w => ckStarted ep ba ti A9 nl c9 4 (by rw [if_neg (by have := HNL1.out; omega)]) w)
      have x0 := C10.out.arg.cell (j := 0) rfl; have x1 := C10.out.arg.cell (j := 1) rfl; have x3 := C10.out.arg.cell (j := 3) rfl
      have HN0 := Lib.hid h0
      clear h0 HO hno
      go_wp2_with fail
      refine (HS.out _).mono ?_
      rintro e w11 ⟨rfl, hb11⟩
      have P11 := Lib.hid (C10.out.next hb11)
      have O11 := Lib.hid (own_upL O10.out hb11)
      clear x0 x1 x2 x3 hb11 C10 O10 HS
      have x0 := P11.out.arg.cell (j := 0) rfl; have x1 := P11.out.arg.cell (j := 1) rfl; have x2 := P11.out.arg.cell (j := 2) rfl; have x3 := P11.out.arg.cell (j := 3) rfl
      have f0 := P11.out.arg.free 0; have f1 := P11.out.arg.free 1; have f2 := P11.out.arg.free 2; have f3 := P11.out.arg.free 3
      go_upto_region 12 with fail
      have CX := Lib.hid (P11.out.putA (.int .i64 ep) (.int .i64 ba) (.slice A9 nl c9) (.int .i64 4))
      have OX := Lib.hid (own_set4C O11.out (own_far O11.out (b := w.heap.size) (by omega)) (.int .i64 ep) (.int .i64 ba) (.slice A9 nl c9) (.int .i64 4))
      obtain ⟨WX, hW⟩ : ∃ WX, WX = (((w11.setCell ⟨w.heap.size, 0, none⟩ (.int .i64 ep)).setCell ⟨w.heap.size, 1, none⟩ (.int .i64 ba)).setCell ⟨w.heap.size, 2, none⟩ (.slice A9 nl c9)).setCell ⟨w.heap.size, 3, none⟩ (.int .i64 4) := ⟨_, rfl⟩
      rw [← hW] at CX OX ⊢
      clear hW x0 x1 x2 x3 f0 f1 f2 f3 P11 O11
      obtain ⟨tm, htm⟩ : ∃ tm : Int, tm = 4 := ⟨_, rfl⟩
      rw [← htm] at CX HO3
      clear htm
      have HPK := Lib.hid (fun w' (hb' : Below WX.heap.size WX w') => ckPacketOf ep ba tm (bs ++ [body]) nl A9 c9 w' ((row_of_ownL OX.out (by omega)).below hb') n body (by rw [HN.out]; simp) HNL.out no HNO.out (by have := HQ.out.1; omega))
      refine wide_tail 4 (fun w5 => PdAt w (.int .i64 ep) (.int .i64 ba) (.slice A9 nl c9) (.int .i64 tm) (.int .i64 0) (.int .i64 0) (.slice none 0 0) (.int .i64 0) (.int .i64 0) (.int .i64 0) (.string ⟨#[]⟩) w5 ∧ Below WX.heap.size WX w5) (by kernel_rfl) (by kernel_rfl) ⟨CX.out.next (below_drewOf (Below.refl _ _)), below_drewOf (Below.refl _ _)⟩ ?_
      simp only [List.take_succ_cons, List.take_zero, List.drop_succ_cons, List.drop_zero]
      repeat (first
      | go_big_quiet_skip
      | (go_big_quiet_want
         apply wide_op
         · (intro w5 h5; have x0 := h5.1.arg.cell (j := 0) rfl; have x1 := h5.1.arg.cell (j := 1) rfl; have x2 := h5.1.arg.cell (j := 2) rfl; have x3 := h5.1.arg.cell (j := 3) rfl; go_simp; first | done | with_reducible rfl | (refine (HPK.out _ h5.2).mono ?_; rintro e w6 ⟨rfl, hb6⟩; exact ⟨rfl, h5.1.next hb6, below_next h5.2 hb6⟩))
         (try simp only [Act.put, List.setIfInBounds_toArray, List.set_cons_zero, List.set_cons_succ])
         go_big_quiet_on))
      refine wpQuiet_nil ?_
      intro w12 h12
      have D := Lib.hid h12.1
      have OD := Lib.hid (own_upL OX.out h12.2)
      clear h12 CX OX HPK
      have y0 := D.out.res.cell (j := 0) rfl; have y1 := D.out.res.cell (j := 1) rfl; have y2 := D.out.res.cell (j := 2) rfl; have y3 := D.out.res.cell (j := 3) rfl
      have z0 := D.out.res.free 0; have z1 := D.out.res.free 1; have z2 := D.out.res.free 2; have z3 := D.out.res.free 3
      have v0 := D.out.pk.cell (j := 0) rfl; have v1 := D.out.pk.cell (j := 1) rfl; have v2 := D.out.pk.cell (j := 2) rfl
      have u0 := D.out.pk.free 0; have u1 := D.out.pk.free 1; have u2 := D.out.pk.free 2
      go_wp2_with fail
      exact push_retK rfl rfl rfl rfl ((D.out.putR _ _ _ _).putP _ _ _).res ((D.out.putR _ _ _ _).putP _ _ _).pk HO3.out HNL.out (own_baseL (own_set3L (own_set4C OD.out (own_far OD.out (b := w.heap.size + 1) (by omega)) _ _ _ _) (own_far OD.out (b := w.heap.size + 1 + 1) (by omega)) _ _ _) (by omega)) ((D.out.putR _ _ _ _).putP _ _ _).below
    · have g1 : ((nl : Int) == 1) = false := ne_b (by have := HNL1.out; omega)
      have HO3 : Hid (o = (⟨ep, ba, bs ++ [body], ti⟩, ⟨ep, no, body⟩, 0)) := Lib.hid (by have := HO.out; rwa [if_neg h0, ← hno] at this)
      rw [← hno]
      clear h0 HO hno
      go_upto_region 12 with fail
      have CX := C10
      have OX := O10
      obtain ⟨WX, hW⟩ : ∃ WX, WX = W10 := ⟨_, rfl⟩
      rw [← hW] at CX OX ⊢
      clear hW x2 C10 O10
      have HPK := Lib.hid (fun w' (hb' : Below WX.heap.size WX w') => ckPacketOf ep ba ti (bs ++ [body]) nl A9 c9 w' ((row_of_ownL OX.out (by omega)).below hb') n body (by rw [HN.out]; simp) HNL.out no HNO.out (by have := HQ.out.1; omega))
      refine wide_tail 4 (fun w5 => PdAt w (.int .i64 ep) (.int .i64 ba) (.slice A9 nl c9) (.int .i64 ti) (.int .i64 0) (.int .i64 0) (.slice none 0 0) (.int .i64 0) (.int .i64 0) (.int .i64 0) (.string ⟨#[]⟩) w5 ∧ Below WX.heap.size WX w5) (by kernel_rfl) (by kernel_rfl) ⟨CX.out.next (below_drewOf (Below.refl _ _)), below_drewOf (Below.refl _ _)⟩ ?_
      simp only [List.take_succ_cons, List.take_zero, List.drop_succ_cons, List.drop_zero]
      repeat (first
      | go_big_quiet_skip
      | (go_big_quiet_want
         apply wide_op
         · (intro w5 h5; have x0 := h5.1.arg.cell (j := 0) rfl; have x1 := h5.1.arg.cell (j := 1) rfl; have x2 := h5.1.arg.cell (j := 2) rfl; have x3 := h5.1.arg.cell (j := 3) rfl; go_simp; first | done | with_reducible rfl | (refine (HPK.out _ h5.2).mono ?_; rintro e w6 ⟨rfl, hb6⟩; exact ⟨rfl, h5.1.next hb6, below_next h5.2 hb6⟩))
         (try simp only [Act.put, List.setIfInBounds_toArray, List.set_cons_zero, List.set_cons_succ])
         go_big_quiet_on))
      refine wpQuiet_nil ?_
      intro w12 h12
      have D := Lib.hid h12.1
      have OD := Lib.hid (own_upL OX.out h12.2)
      clear h12 CX OX HPK
      have y0 := D.out.res.cell (j := 0) rfl; have y1 := D.out.res.cell (j := 1) rfl; have y2 := D.out.res.cell (j := 2) rfl; have y3 := D.out.res.cell (j := 3) rfl
      have z0 := D.out.res.free 0; have z1 := D.out.res.free 1; have z2 := D.out.res.free 2; have z3 := D.out.res.free 3
      have v0 := D.out.pk.cell (j := 0) rfl; have v1 := D.out.pk.cell (j := 1) rfl; have v2 := D.out.pk.cell (j := 2) rfl
      have u0 := D.out.pk.free 0; have u1 := D.out.pk.free 1; have u2 := D.out.pk.free 2
      go_wp2_with fail
      exact push_retK rfl rfl rfl rfl ((D.out.putR _ _ _ _).putP _ _ _).res ((D.out.putR _ _ _ _).putP _ _ _).pk HO3.out HNL.out (own_baseL (own_set3L (own_set4C OD.out (own_far OD.out (b := w.heap.size + 1) (by omega)) _ _ _ _) (own_far OD.out (b := w.heap.size + 1 + 1) (by omega)) _ _ _) (by omega)) ((D.out.putR _ _ _ _).putP _ _ _).below
end Lk
end Go.Proofs.Ytbdlmokgmgpbfaa
