/- The code's copied, started, packet, packets. -/
import Derived.Test.YtbdlmokgmgpbfaaLinkDel
import Derived.Test.YtbdlmokgmgpbfaaLinkCk
import Derived.RegionTactic
import Derived.BigRegion
namespace Go.Proofs.Ytbdlmokgmgpbfaa
open Go.ChangeShapes Go.WideShapes Go.ChangeAt Go.RowKit
set_option linter.unusedVariables false
set_option maxRecDepth 8000
namespace Lk
open Gen (TellsB Mine)
theorem own_baseL {w : World} {B B' size n : Nat} {e : TypeId} {v : Value} {xs : List Value} (h : w.ownsRow B e size v n xs) (hb : B' ≤ B) : w.ownsRow B' e size v n xs := by
  obtain ⟨hl, h | ⟨g, cap, cur, rfl, hg, rest⟩⟩ := h
  · exact ⟨hl, .inl h⟩
  · exact ⟨hl, .inr ⟨g, cap, cur, rfl, Nat.le_trans hb hg, rest⟩⟩
/-- A sender's block and a result's: what lies in them. -/
structure CdAt (w0 : World) (a0 a1 a2 a3 r0 r1 r2 r3 : Value) (w : World) : Prop where
  arg : Lies w0.heap.size #[a0, a1, a2, a3] 24 w
  res : Lies (w0.heap.size + 1) #[r0, r1, r2, r3] 24 w
  below : Below w0.heap.size w0 w
section
variable {w0 w w' : World} {a0 a1 a2 a3 r0 r1 r2 r3 : Value}
theorem CdAt.next (h : CdAt w0 a0 a1 a2 a3 r0 r1 r2 r3 w) (hb : Below w.heap.size w w') : CdAt w0 a0 a1 a2 a3 r0 r1 r2 r3 w' := ⟨h.arg.below hb, h.res.below hb, below_next h.below hb⟩
theorem CdAt.start (w0 : World) (a0 a1 a2 a3 : Value) : CdAt w0 a0 a1 a2 a3 (.int .i64 0) (.int .i64 0) (.slice none 0 0) (.int .i64 0) ((w0.alloc (.cells #[a0, a1, a2, a3] 24)).alloc (.cells #[.int .i64 0, .int .i64 0, .slice none 0 0, .int .i64 0] 24)) :=
  ⟨(Lies.new w0 _ _).al, Gen.lies_new1 w0 _ _ _, below_al (below_al (Below.refl _ _))⟩
theorem CdAt.putR (h : CdAt w0 a0 a1 a2 a3 r0 r1 r2 r3 w) (v0 v1 v2 v3 : Value) :
    CdAt w0 a0 a1 a2 a3 v0 v1 v2 v3 ((((w.setCell ⟨w0.heap.size + 1, 0, none⟩ v0).setCell ⟨w0.heap.size + 1, 1, none⟩ v1).setCell ⟨w0.heap.size + 1, 2, none⟩ v2).setCell ⟨w0.heap.size + 1, 3, none⟩ v3) :=
  ⟨(((h.arg.other (by omega) _ _).other (by omega) _ _).other (by omega) _ _).other (by omega) _ _, Gen.Lies.set4 h.res _ _ _ _, Gen.below_set4 h.below (by omega) _ _ _ _⟩
theorem CdAt.putA (h : CdAt w0 a0 a1 a2 a3 r0 r1 r2 r3 w) (v0 v1 v2 v3 : Value) :
    CdAt w0 v0 v1 v2 v3 r0 r1 r2 r3 ((((w.setCell ⟨w0.heap.size, 0, none⟩ v0).setCell ⟨w0.heap.size, 1, none⟩ v1).setCell ⟨w0.heap.size, 2, none⟩ v2).setCell ⟨w0.heap.size, 3, none⟩ v3) :=
  ⟨Gen.Lies.set4 h.arg _ _ _ _, (((h.res.other (by omega) _ _).other (by omega) _ _).other (by omega) _ _).other (by omega) _ _, Gen.below_set4 h.below (Nat.le_refl _) _ _ _ _⟩
theorem CdAt.put1 (h : CdAt w0 a0 a1 a2 a3 r0 r1 r2 r3 w) (v : Value) : CdAt w0 a0 v a2 a3 r0 r1 r2 r3 (w.setCell ⟨w0.heap.size, 1, none⟩ v) :=
  ⟨by have := h.arg.set 1 v; simpa using this, h.res.other (by omega) _ _, h.below.setCell (p := ⟨w0.heap.size, 1, none⟩) (Nat.le_refl _) _⟩
theorem CdAt.put2 (h : CdAt w0 a0 a1 a2 a3 r0 r1 r2 r3 w) (v : Value) : CdAt w0 a0 a1 v a3 r0 r1 r2 r3 (w.setCell ⟨w0.heap.size, 2, none⟩ v) :=
  ⟨by have := h.arg.set 2 v; simpa using this, h.res.other (by omega) _ _, h.below.setCell (p := ⟨w0.heap.size, 2, none⟩) (Nat.le_refl _) _⟩
theorem CdAt.put3 (h : CdAt w0 a0 a1 a2 a3 r0 r1 r2 r3 w) (v : Value) : CdAt w0 a0 a1 a2 v r0 r1 r2 r3 (w.setCell ⟨w0.heap.size, 3, none⟩ v) :=
  ⟨by have := h.arg.set 3 v; simpa using this, h.res.other (by omega) _ _, h.below.setCell (p := ⟨w0.heap.size, 3, none⟩) (Nat.le_refl _) _⟩
end
/-- Hands back a sender as it stands; nothing old is touched. -/
def GivesSt (ep ba : Int) (v : Value) (ti : Int) (w : World) (e : Ending) (w' : World) : Prop := e = .returned (.agg #[.int .i64 ep, .int .i64 ba, v, .int .i64 ti]) ∧ Below w.heap.size w w'
theorem started_ret {w wF : World} {R : Nat} {ep ba ti : Int} {v : Value} {act : Act} (ht : act.tmps.getD 2 undef = .pointer (some ⟨R, 0, none⟩)) (hd : act.defers = [])
    (hL : Lies R #[.int .i64 ep, .int .i64 ba, v, .int .i64 ti] 24 wF) (hB : Below w.heap.size w wF) : bodyPost Try.prog Try.f27 (GivesSt ep ba v ti w) .ret act wF := by
  have c0 := hL.cell (j := 0) rfl
  have c1 := hL.cell (j := 1) rfl
  have c2 := hL.cell (j := 2) rfl
  have c3 := hL.cell (j := 3) rfl
  refine bodyPost_ret (v := .agg #[.int .i64 ep, .int .i64 ba, v, .int .i64 ti]) ?_ hd ⟨rfl, hB⟩
  have ht2 : act.tmps[2]?.getD undef = .pointer (some ⟨R, 0, none⟩) := by simpa using ht
  simp [results, Try.results27, go_sem, ht2, c0, c1, c2, c3]
set_option maxHeartbeats 1000000 in
theorem ckStarted (ep ba ti : Int) (A : Option Addr) (n c : Nat) (t : Int) (ht : t = if n = 0 then 0 else 4) (w : World) :
    Calls Try.prog 27 #[.agg #[.int .i64 ep, .int .i64 ba, .slice A n c, .int .i64 ti]] w (GivesSt ep ba (.slice A n c) t w) := by
  have C0 := Lib.hid (CdAt.start w (.int .i64 ep) (.int .i64 ba) (.slice A n c) (.int .i64 ti))
  by_cases h0 : n = 0
  · rw [if_pos h0] at ht
    subst ht
    have g : ¬ (0 : Int) < (n : Int) := by omega
    clear h0
    go_enter Try.func27, Try.ntmps27
    go_upto_region 1 with fail
    obtain ⟨W, hW⟩ : ∃ W, W = (w.alloc (.cells #[.int .i64 ep, .int .i64 ba, .slice A n c, .int .i64 ti] 24)).alloc (.cells #[.int .i64 0, .int .i64 0, .slice none 0 0, .int .i64 0] 24) := ⟨_, rfl⟩
    rw [← hW] at C0 ⊢
    clear hW
    have x0 := C0.out.arg.cell (j := 0) rfl; have x1 := C0.out.arg.cell (j := 1) rfl; have x2 := C0.out.arg.cell (j := 2) rfl; have x3 := C0.out.arg.cell (j := 3) rfl; have f3 := C0.out.arg.free 3
    have y0 := C0.out.res.cell (j := 0) rfl; have y1 := C0.out.res.cell (j := 1) rfl; have y2 := C0.out.res.cell (j := 2) rfl; have y3 := C0.out.res.cell (j := 3) rfl
    have z0 := C0.out.res.free 0; have z1 := C0.out.res.free 1; have z2 := C0.out.res.free 2; have z3 := C0.out.res.free 3
    go_wp2_with fail
    exact started_ret rfl rfl ((C0.out.put3 _).putR _ _ _ _).res ((C0.out.put3 _).putR _ _ _ _).below
  · rw [if_neg h0] at ht
    subst ht
    have g : (0 : Int) < (n : Int) := by omega
    clear h0
    go_enter Try.func27, Try.ntmps27
    go_upto_region 1 with fail
    obtain ⟨W, hW⟩ : ∃ W, W = (w.alloc (.cells #[.int .i64 ep, .int .i64 ba, .slice A n c, .int .i64 ti] 24)).alloc (.cells #[.int .i64 0, .int .i64 0, .slice none 0 0, .int .i64 0] 24) := ⟨_, rfl⟩
    rw [← hW] at C0 ⊢
    clear hW
    have x0 := C0.out.arg.cell (j := 0) rfl; have x1 := C0.out.arg.cell (j := 1) rfl; have x2 := C0.out.arg.cell (j := 2) rfl; have x3 := C0.out.arg.cell (j := 3) rfl; have f3 := C0.out.arg.free 3
    have y0 := C0.out.res.cell (j := 0) rfl; have y1 := C0.out.res.cell (j := 1) rfl; have y2 := C0.out.res.cell (j := 2) rfl; have y3 := C0.out.res.cell (j := 3) rfl
    have z0 := C0.out.res.free 0; have z1 := C0.out.res.free 1; have z2 := C0.out.res.free 2; have z3 := C0.out.res.free 3
    go_upto_region 4 with fail
    have D := Lib.hid ((C0.out.put3 (.int .i64 0)).put3 (.int .i64 4))
    obtain ⟨W2, hW⟩ : ∃ W2, W2 = (W.setCell ⟨w.heap.size, 3, none⟩ (.int .i64 0)).setCell ⟨w.heap.size, 3, none⟩ (.int .i64 4) := ⟨_, rfl⟩
    rw [← hW] at D ⊢
    clear hW x0 x1 x2 x3 y0 y1 y2 y3 z0 z1 z2 z3 f3
    have x0 := D.out.arg.cell (j := 0) rfl; have x1 := D.out.arg.cell (j := 1) rfl; have x2 := D.out.arg.cell (j := 2) rfl; have x3 := D.out.arg.cell (j := 3) rfl
    have y0 := D.out.res.cell (j := 0) rfl; have y1 := D.out.res.cell (j := 1) rfl; have y2 := D.out.res.cell (j := 2) rfl; have y3 := D.out.res.cell (j := 3) rfl
    have z0 := D.out.res.free 0; have z1 := D.out.res.free 1; have z2 := D.out.res.free 2; have z3 := D.out.res.free 3
    go_wp2_with fail
    exact started_ret rfl rfl (D.out.putR _ _ _ _).res (D.out.putR _ _ _ _).below
/-- Hands back a sender with a row of its own. -/
def GivesCpy (ep ba : Int) (n : Nat) (bs : List ByteArray) (ti : Int) (w : World) (e : Ending) (w' : World) : Prop :=
  ∃ A c, e = .returned (.agg #[.int .i64 ep, .int .i64 ba, .slice A n c, .int .i64 ti]) ∧ w'.ownsRow (w.heap.size + 1 + 1) 9 1 (.slice A n c) n (bcs bs) ∧ Below w.heap.size w w'
theorem copied_ret {w wF : World} {R n : Nat} {ep ba ti : Int} {bs : List ByteArray} {A : Option Addr} {c : Nat} {act : Act} (ht : act.tmps.getD 2 undef = .pointer (some ⟨R, 0, none⟩)) (hd : act.defers = [])
    (hL : Lies R #[.int .i64 ep, .int .i64 ba, .slice A n c, .int .i64 ti] 24 wF) (ho : wF.ownsRow (w.heap.size + 1 + 1) 9 1 (.slice A n c) n (bcs bs)) (hB : Below w.heap.size w wF) : bodyPost Try.prog Try.f26 (GivesCpy ep ba n bs ti w) .ret act wF := by
  have c0 := hL.cell (j := 0) rfl
  have c1 := hL.cell (j := 1) rfl
  have c2 := hL.cell (j := 2) rfl
  have c3 := hL.cell (j := 3) rfl
  refine bodyPost_ret (v := .agg #[.int .i64 ep, .int .i64 ba, .slice A n c, .int .i64 ti]) ?_ hd ⟨A, c, rfl, ho, hB⟩
  have ht2 : act.tmps[2]?.getD undef = .pointer (some ⟨R, 0, none⟩) := by simpa using ht
  simp [results, Try.results26, go_sem, ht2, c0, c1, c2, c3]
theorem own_set4C {B size n : Nat} {e : TypeId} {w : World} {u : Value} {cs : List Value} (h : w.ownsRow B e size u n cs) {b : Nat} (hp : u.ownBlock ≠ some b) (v0 v1 v2 v3 : Value) : ((((w.setCell ⟨b, 0, none⟩ v0).setCell ⟨b, 1, none⟩ v1).setCell ⟨b, 2, none⟩ v2).setCell ⟨b, 3, none⟩ v3).ownsRow B e size u n cs :=
  own_setL (own_setL (own_setL (own_setL h _ hp _) _ hp _) _ hp _) _ hp _
theorem own_far {B size n : Nat} {e : TypeId} {w : World} {u : Value} {cs : List Value} (h : w.ownsRow B e size u n cs) {b : Nat} (hb : b < B) : u.ownBlock ≠ some b := fun e => by have := (h.lt b e).1; omega
set_option maxHeartbeats 1000000 in
theorem ckCopied (ep ba ti : Int) (bs : List ByteArray) (n : Nat) (hn : n = bs.length) (A : Option Addr) (c : Nat) (w : World) (hA : Row w A (bcs bs)) (hl : n ≤ 100000) :
    Calls Try.prog 26 #[.agg #[.int .i64 ep, .int .i64 ba, .slice A n c, .int .i64 ti]] w (GivesCpy ep ba n bs ti w) := by
  have hc := CdAt.start w (.int .i64 ep) (.int .i64 ba) (.slice A n c) (.int .i64 ti)
  have C0 := Lib.hid hc
  have HC := Lib.hid (fun w' (hb : Below w.heap.size w w') => ckClone bs n hn A c w' (hA.below hb) hl)
  clear hA hn hl hc
  go_enter Try.func26, Try.ntmps26
  go_upto_region 1 with fail
  have hsz : ((w.alloc (.cells #[.int .i64 ep, .int .i64 ba, .slice A n c, .int .i64 ti] 24)).alloc (.cells #[.int .i64 0, .int .i64 0, .slice none 0 0, .int .i64 0] 24)).heap.size = w.heap.size + 1 + 1 := by simp
  obtain ⟨W, hW⟩ : ∃ W, W = (w.alloc (.cells #[.int .i64 ep, .int .i64 ba, .slice A n c, .int .i64 ti] 24)).alloc (.cells #[.int .i64 0, .int .i64 0, .slice none 0 0, .int .i64 0] 24) := ⟨_, rfl⟩
  rw [← hW] at C0 hsz ⊢
  have HSZ := Lib.hid hsz
  clear hW hsz
  have x2 := C0.out.arg.cell (j := 2) rfl
  go_wp2_with fail
  refine (HC.out _ C0.out.below).mono ?_
  rintro e w1 ⟨A', c', rfl, ho, hb1⟩
  have C1 := Lib.hid (C0.out.next hb1)
  rw [HSZ.out] at ho
  have OW := Lib.hid ho
  clear x2 hb1 ho
  have x0 := C1.out.arg.cell (j := 0) rfl; have x1 := C1.out.arg.cell (j := 1) rfl; have x2 := C1.out.arg.cell (j := 2) rfl; have x3 := C1.out.arg.cell (j := 3) rfl; have f2 := C1.out.arg.free 2
  have y0 := C1.out.res.cell (j := 0) rfl; have y1 := C1.out.res.cell (j := 1) rfl; have y2 := C1.out.res.cell (j := 2) rfl; have y3 := C1.out.res.cell (j := 3) rfl
  have z0 := C1.out.res.free 0; have z1 := C1.out.res.free 1; have z2 := C1.out.res.free 2; have z3 := C1.out.res.free 3
  go_wp2_with fail
  exact copied_ret rfl rfl ((C1.out.put2 _).putR _ _ _ _).res (own_set4C (own_setL OW.out ⟨w.heap.size, 2, none⟩ (own_far OW.out (b := w.heap.size) (by omega)) _) (own_far OW.out (by omega)) _ _ _ _) ((C1.out.put2 _).putR _ _ _ _).below
/-- Hands back a packet. -/
def GivesPk (p : Pk) (w : World) (e : Ending) (w' : World) : Prop := e = .returned (.agg #[.int .i64 p.epoch, .int .i64 p.no, .string p.body]) ∧ Below w.heap.size w w'
theorem packet_ret {w wF : World} {R : Nat} {p : Pk} {act : Act} (ht : act.tmps.getD 4 undef = .pointer (some ⟨R, 0, none⟩)) (hd : act.defers = [])
    (hL : Lies R (pkC p) 26 wF) (hB : Below w.heap.size w wF) : bodyPost Try.prog Try.f28 (GivesPk p w) .ret act wF := by
  have c0 := hL.cell (j := 0) rfl
  have c1 := hL.cell (j := 1) rfl
  have c2 := hL.cell (j := 2) rfl
  refine bodyPost_ret (v := .agg #[.int .i64 p.epoch, .int .i64 p.no, .string p.body]) ?_ hd ⟨rfl, hB⟩
  have ht2 : act.tmps[4]?.getD undef = .pointer (some ⟨R, 0, none⟩) := by simpa using ht
  simp [results, Try.results28, go_sem, ht2, c0, c1, c2]
theorem lies_setP {b : Nat} {T : TypeId} {w : World} {u0 u1 u2 : Value} (h : Lies b #[u0, u1, u2] T w) (v0 v1 v2 : Value) :
    Lies b #[v0, v1, v2] T (((w.setCell ⟨b, 0, none⟩ v0).setCell ⟨b, 1, none⟩ v1).setCell ⟨b, 2, none⟩ v2) := by
  have h2 := ((h.set 0 v0).set 1 v1).set 2 v2
  simpa using h2
set_option maxHeartbeats 1000000 in
theorem ckPacketOf (ep ba ti : Int) (bs : List ByteArray) (n : Nat) (A : Option Addr) (c : Nat) (w : World) (hA : Row w A (bcs bs)) (k : Nat) (b : ByteArray) (hk : bs[k]? = some b) (hn : n = bs.length) (no : Int) (hno : no = ba + k) (hkm : k ≤ 1000000) :
    Calls Try.prog 28 #[.agg #[.int .i64 ep, .int .i64 ba, .slice A n c, .int .i64 ti], .int .i64 no] w (GivesPk ⟨ep, no, b⟩ w) := by
  have hkn : k < n := by rw [hn]; exact (List.getElem?_eq_some_iff.1 hk).1
  have hb0 : Below w.heap.size w ((w.alloc (.cells #[.int .i64 ep, .int .i64 ba, .slice A n c, .int .i64 ti] 59)).alloc (.cells #[.int .i64 0, .int .i64 0, .string ⟨#[]⟩] 26)) := below_al (below_al (Below.refl _ _))
  have HB := Lib.hid hb0
  have LA := Lib.hid ((Lies.new w #[.int .i64 ep, .int .i64 ba, .slice A n c, .int .i64 ti] 59).al (o := .cells #[.int .i64 0, .int .i64 0, .string ⟨#[]⟩] 26))
  have LP := Lib.hid (Gen.lies_new1 w (.cells #[.int .i64 ep, .int .i64 ba, .slice A n c, .int .i64 ti] 59) #[.int .i64 0, .int .i64 0, .string ⟨#[]⟩] 26)
  obtain ⟨q, off, rfl, d0⟩ := bcs_get (hA.below hb0) hk
  have hw : IntKind.i64.wrap (no - ba) = (k : Int) := by rw [hno, show ba + (k : Int) - ba = k by omega]; exact wrap64L (by omega) (by omega)
  have D0 := Lib.hid d0
  have hki : (k : Int) < (n : Int) := by omega
  clear hA hk hn hno hkm hb0 d0
  go_enter Try.func28, Try.ntmps28
  go_upto_region 1 with fail
  obtain ⟨W, hW⟩ : ∃ W, W = (w.alloc (.cells #[.int .i64 ep, .int .i64 ba, .slice (some ⟨q, off, none⟩) n c, .int .i64 ti] 59)).alloc (.cells #[.int .i64 0, .int .i64 0, .string ⟨#[]⟩] 26) := ⟨_, rfl⟩
  rw [← hW] at LA LP HB D0 ⊢
  clear hW
  have d0 := D0.out
  have x0 := LA.out.cell (j := 0) rfl; have x1 := LA.out.cell (j := 1) rfl; have x2 := LA.out.cell (j := 2) rfl
  have y0 := LP.out.cell (j := 0) rfl; have y1 := LP.out.cell (j := 1) rfl; have y2 := LP.out.cell (j := 2) rfl
  have z0 := LP.out.free 0; have z1 := LP.out.free 1; have z2 := LP.out.free 2
  go_region
  go_wp2_with fail
  exact packet_ret rfl rfl (lies_setP LP.out _ _ _).drew (below_drewOf (((HB.out.setCell (p := ⟨w.heap.size + 1, 0, none⟩) (by simp) _).setCell (p := ⟨w.heap.size + 1, 1, none⟩) (by simp) _).setCell (p := ⟨w.heap.size + 1, 2, none⟩) (by simp) _))
end Lk
end Go.Proofs.Ytbdlmokgmgpbfaa
