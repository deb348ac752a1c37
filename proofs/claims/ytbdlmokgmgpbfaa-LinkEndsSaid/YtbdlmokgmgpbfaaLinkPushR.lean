/- The reference's Push. -/
import Derived.Test.YtbdlmokgmgpbfaaLinkAckR
import Derived.RegionTactic
import Derived.Test.YtbdlmokgmgpbfaaHold
import Derived.BigRegion
namespace Go.Proofs.Ytbdlmokgmgpbfaa
open Go.ChangeShapes Go.WideShapes Go.ChangeAt Go.RowKit
set_option linter.unusedVariables false
set_option maxRecDepth 8000
namespace Lk
open Gen (TellsB row_one flat_len flat_get)
/-- Hands back a sender, a packet, and why not. -/
def GivesPu (o : Sn × Pk × Int) (w : World) (e : Ending) (w' : World) : Prop :=
  ∃ A c, e = .returned (.tuple #[.agg #[.int .i64 o.1.epoch, .int .i64 o.1.base, .slice A o.1.bodies.length c, .int .i64 o.1.timer], pkV o.2.1, .int .i64 o.2.2]) ∧ o.1.bodies.length ≤ c ∧ c ≤ maxLen ∧ Row w' A (bcs o.1.bodies) ∧ Below w.heap.size w w'
theorem push_retL {w wF : World} {R P n : Nat} {ep ba ti z : Int} {bs : List ByteArray} {p : Pk} {o : Sn × Pk × Int} {A : Option Addr} {c : Nat} {act : Act} (ht : act.tmps.getD 4 undef = .pointer (some ⟨R, 0, none⟩)) (hp : act.tmps.getD 5 undef = .pointer (some ⟨P, 0, none⟩)) (hc : act.tmps.getD 6 undef = .int .i64 z) (hd : act.defers = [])
    (hL : Lies R #[.int .i64 ep, .int .i64 ba, .slice A n c, .int .i64 ti] 24 wF) (hP : Lies P (pkC p) 26 wF) (ho : o = (⟨ep, ba, bs, ti⟩, p, z)) (hn : n = bs.length) (h1 : n ≤ c) (h2 : c ≤ maxLen) (h3 : Row wF A (bcs bs)) (hB : Below w.heap.size w wF) : bodyPost Try.prog Try.f10 (GivesPu o w) .ret act wF := by
  subst ho
  subst hn
  have c0 := hL.cell (j := 0) rfl
  have c1 := hL.cell (j := 1) rfl
  have c2 := hL.cell (j := 2) rfl
  have c3 := hL.cell (j := 3) rfl
  have d0 := hP.cell (j := 0) rfl
  have d1 := hP.cell (j := 1) rfl
  have d2 := hP.cell (j := 2) rfl
  refine bodyPost_ret (v := .tuple #[.agg #[.int .i64 ep, .int .i64 ba, .slice A bs.length c, .int .i64 ti], pkV p, .int .i64 z]) ?_ hd ⟨A, c, rfl, h1, h2, h3, hB⟩
  have ht2 : act.tmps[4]?.getD undef = .pointer (some ⟨R, 0, none⟩) := by simpa using ht
  have hp2 : act.tmps[5]?.getD undef = .pointer (some ⟨P, 0, none⟩) := by simpa using hp
  have hc2 : act.tmps[6]?.getD undef = .int .i64 z := by simpa using hc
  simp [results, Try.results10, go_sem, ht2, hp2, hc2, c0, c1, c2, c3, d0, d1, d2]
structure PuAt (w0 : World) (ep ba ti : Int) (n : Nat) (A : Option Addr) (c : Nat) (bs : List ByteArray) (w : World) : Prop where
  arg : Lies w0.heap.size #[.int .i64 ep, .int .i64 ba, .slice A n c, .int .i64 ti] 24 w
  res : Lies (w0.heap.size + 1) #[.int .i64 0, .int .i64 0, .slice none 0 0, .int .i64 0] 24 w
  pk : Lies (w0.heap.size + 1 + 1) #[.int .i64 0, .int .i64 0, .string ⟨#[]⟩] 26 w
  row : Row w A (bcs bs)
  below : Below w0.heap.size w0 w
theorem PuAt.next {w0 : World} {ep ba ti : Int} {n : Nat} {A : Option Addr} {c : Nat} {bs : List ByteArray} {a b : World} (h : PuAt w0 ep ba ti n A c bs a) (hb : Below a.heap.size a b) : PuAt w0 ep ba ti n A c bs b :=
  ⟨h.arg.below hb, h.res.below hb, h.pk.below hb, h.row.below hb, below_next h.below hb⟩
theorem lies_set3L {b : Nat} {T : TypeId} {w : World} {u0 u1 u2 : Value} (h : Lies b #[u0, u1, u2] T w) (v0 v1 v2 : Value) :
    Lies b #[v0, v1, v2] T (((w.setCell ⟨b, 0, none⟩ v0).setCell ⟨b, 1, none⟩ v1).setCell ⟨b, 2, none⟩ v2) := by
  have h2 := ((h.set 0 v0).set 1 v1).set 2 v2
  simpa using h2
theorem lies_far3 {b d : Nat} {C : Array Value} {T : TypeId} {w : World} (h : Lies b C T w) (hne : b ≠ d) (v0 v1 v2 : Value) : Lies b C T (((w.setCell ⟨d, 0, none⟩ v0).setCell ⟨d, 1, none⟩ v1).setCell ⟨d, 2, none⟩ v2) :=
  ((h.other hne _ _).other hne _ _).other hne _ _
theorem lies_far4 {b d : Nat} {C : Array Value} {T : TypeId} {w : World} (h : Lies b C T w) (hne : b ≠ d) (v0 v1 v2 v3 : Value) : Lies b C T ((((w.setCell ⟨d, 0, none⟩ v0).setCell ⟨d, 1, none⟩ v1).setCell ⟨d, 2, none⟩ v2).setCell ⟨d, 3, none⟩ v3) :=
  (((h.other hne _ _).other hne _ _).other hne _ _).other hne _ _
theorem below_set3L {B b : Nat} {u w : World} (h : Below B u w) (hb : B ≤ b) (v0 v1 v2 : Value) :
    Below B u (((w.setCell ⟨b, 0, none⟩ v0).setCell ⟨b, 1, none⟩ v1).setCell ⟨b, 2, none⟩ v2) :=
  ((h.setCell (p := ⟨b, 0, none⟩) hb _).setCell (p := ⟨b, 1, none⟩) hb _).setCell (p := ⟨b, 2, none⟩) hb _
theorem own_set4L {B size n : Nat} {e : TypeId} {w : World} {u : Value} {cs : List Value} (h : w.ownsRow B e size u n cs) {b : Nat} (hp : u.ownBlock ≠ some b) (v0 v1 v2 v3 : Value) : ((((w.setCell ⟨b, 0, none⟩ v0).setCell ⟨b, 1, none⟩ v1).setCell ⟨b, 2, none⟩ v2).setCell ⟨b, 3, none⟩ v3).ownsRow B e size u n cs :=
  own_setL (own_setL (own_setL (own_setL h ⟨b, 0, none⟩ hp v0) ⟨b, 1, none⟩ hp v1) ⟨b, 2, none⟩ hp v2) ⟨b, 3, none⟩ hp v3
theorem own_set3L {B size n : Nat} {e : TypeId} {w : World} {u : Value} {cs : List Value} (h : w.ownsRow B e size u n cs) {b : Nat} (hp : u.ownBlock ≠ some b) (v0 v1 v2 : Value) : (((w.setCell ⟨b, 0, none⟩ v0).setCell ⟨b, 1, none⟩ v1).setCell ⟨b, 2, none⟩ v2).ownsRow B e size u n cs :=
  own_setL (own_setL (own_setL h ⟨b, 0, none⟩ hp v0) ⟨b, 1, none⟩ hp v1) ⟨b, 2, none⟩ hp v2
/-- What is refused: nothing, and why. -/
theorem push_bad {w W : World} {ep ba ti : Int} {n : Nat} {A : Option Addr} {c : Nat} {bs : List ByteArray} {z : Int} {o : Sn × Pk × Int} {act : Act} (h : PuAt w ep ba ti n A c bs W) (ho : o = (zS, zP, z)) (ht : act.tmps.getD 4 undef = .pointer (some ⟨w.heap.size + 1, 0, none⟩)) (hp : act.tmps.getD 5 undef = .pointer (some ⟨w.heap.size + 1 + 1, 0, none⟩)) (hc : act.tmps.getD 6 undef = .int .i64 z) (hd : act.defers = []) :
    bodyPost Try.prog Try.f10 (GivesPu o w) .ret act (((((((W.setCell ⟨w.heap.size + 1, 0, none⟩ (.int .i64 0)).setCell ⟨w.heap.size + 1, 1, none⟩ (.int .i64 0)).setCell ⟨w.heap.size + 1, 2, none⟩ (.slice none 0 0)).setCell ⟨w.heap.size + 1, 3, none⟩ (.int .i64 0)).setCell ⟨w.heap.size + 1 + 1, 0, none⟩ (.int .i64 0)).setCell ⟨w.heap.size + 1 + 1, 1, none⟩ (.int .i64 0)).setCell ⟨w.heap.size + 1 + 1, 2, none⟩ (.string ⟨#[]⟩)) :=
  push_retL (bs := []) (p := zP) ht hp hc hd (lies_far3 (lies_set4L h.res _ _ _ _) (by omega) _ _ _) (lies_set3L (lies_far4 h.pk (by omega) _ _ _ _) _ _ _) (by rw [ho]; rfl) rfl (Nat.zero_le _) (by simp [maxLen]) Row.nil (below_set3L (below_set4L h.below (by omega) _ _ _ _) (by omega) _ _ _)
set_option maxRecDepth 100000 in
set_option maxHeartbeats 1000000 in
theorem rfPush (ep ba ti : Int) (bs : List ByteArray) (n : Nat) (hn : n = bs.length) (hlen : n ≤ 4611686018427387904) (A : Option Addr) (c : Nat) (body : ByteArray) (w : World) (h : Row w A (bcs bs)) :
    Calls Try.prog 10 #[.agg #[.int .i64 ep, .int .i64 ba, .slice A n c, .int .i64 ti], .string body] w (GivesPu (pushO ⟨ep, ba, bs, ti⟩ body) w) := by
  obtain ⟨r, hr⟩ : ∃ r, r = rightS ⟨ep, ba, bs, ti⟩ := ⟨_, rfl⟩
  have HR := Lib.hid (fun w' (hr' : Row w' A (bcs bs)) => rfRight_ ep ba bs n ti A c r hn hr w' hr' hlen)
  obtain ⟨W0, hW0⟩ : ∃ W0, W0 = w.alloc (.cells #[.int .i64 ep, .int .i64 ba, .slice A n c, .int .i64 ti] 24) := ⟨_, rfl⟩
  have hb0 : Below w.heap.size w ((W0.alloc (.cells #[.int .i64 0, .int .i64 0, .slice none 0 0, .int .i64 0] 24)).alloc (.cells #[.int .i64 0, .int .i64 0, .string ⟨#[]⟩] 26)) := by rw [hW0]; exact below_al (below_al (below_al (Below.refl _ _)))
  have hz0 : W0.heap.size = w.heap.size + 1 := by rw [hW0]; simp
  have PU : Hid (PuAt w ep ba ti n A c bs ((W0.alloc (.cells #[.int .i64 0, .int .i64 0, .slice none 0 0, .int .i64 0] 24)).alloc (.cells #[.int .i64 0, .int .i64 0, .string ⟨#[]⟩] 26))) := Lib.hid ⟨by
      rw [hW0]; exact (Lies.new w _ _).al.al, by
      have h := (Lies.new W0 #[.int .i64 0, .int .i64 0, .slice none 0 0, .int .i64 0] 24).al (o := .cells #[.int .i64 0, .int .i64 0, .string ⟨#[]⟩] 26)
      rwa [hz0] at h, by
      have h := Lies.new (W0.alloc (.cells #[.int .i64 0, .int .i64 0, .slice none 0 0, .int .i64 0] 24)) #[.int .i64 0, .int .i64 0, .string ⟨#[]⟩] 26
      rwa [World.size_alloc, hz0] at h, h.below hb0, hb0⟩
  obtain ⟨o, ho⟩ : ∃ o, o = pushO ⟨ep, ba, bs, ti⟩ body := ⟨_, rfl⟩
  rw [← ho]
  have HO : Hid (o = if r = false then (zS, zP, 1) else if 4096 < body.size then (zS, zP, 2) else if n = 8 ∨ ba + n = 1073741824 then (zS, zP, 3)
    else (⟨ep, ba, bs ++ [body], if n = 0 then 4 else ti⟩, ⟨ep, ba + n, body⟩, 0)) := Lib.hid (by rw [ho, hr, hn]; rfl)
  have HRE := Lib.hid hr
  have HN := Lib.hid hn
  rw [hW0] at PU
  clear ho hr hn h hb0 hz0 hW0
  go_enter Try.func10, Try.ntmps10
  go_upto_region 1 with fail
  obtain ⟨W, hW⟩ : ∃ W, W = ((w.alloc (.cells #[.int .i64 ep, .int .i64 ba, .slice A n c, .int .i64 ti] 24)).alloc (.cells #[.int .i64 0, .int .i64 0, .slice none 0 0, .int .i64 0] 24)).alloc (.cells #[.int .i64 0, .int .i64 0, .string ⟨#[]⟩] 26) := ⟨_, rfl⟩
  rw [← hW] at PU
  rw [← hW]
  clear hW
  have x0 := PU.out.arg.cell (j := 0) rfl; have x1 := PU.out.arg.cell (j := 1) rfl; have x2 := PU.out.arg.cell (j := 2) rfl; have x3 := PU.out.arg.cell (j := 3) rfl
  go_wp2_with fail
  refine (HR.out _ PU.out.row).mono ?_
  rintro e w1 ⟨rfl, hb1⟩
  have A1 := Lib.hid (PU.out.next hb1)
  clear hb1 x0 x1 x2 x3
  have x0 := A1.out.arg.cell (j := 0) rfl; have x1 := A1.out.arg.cell (j := 1) rfl; have x2 := A1.out.arg.cell (j := 2) rfl; have x3 := A1.out.arg.cell (j := 3) rfl
  have y0 := A1.out.res.cell (j := 0) rfl; have y1 := A1.out.res.cell (j := 1) rfl; have y2 := A1.out.res.cell (j := 2) rfl; have y3 := A1.out.res.cell (j := 3) rfl
  have z0 := A1.out.res.free 0; have z1 := A1.out.res.free 1; have z2 := A1.out.res.free 2; have z3 := A1.out.res.free 3
  have v0 := A1.out.pk.cell (j := 0) rfl; have v1 := A1.out.pk.cell (j := 1) rfl; have v2 := A1.out.pk.cell (j := 2) rfl
  have t0 := A1.out.pk.free 0; have t1 := A1.out.pk.free 1; have t2 := A1.out.pk.free 2
  cases r
  · have ho2 : o = (zS, zP, 1) := HO.out.trans (if_pos rfl)
    go_wp2_with fail
    exact push_bad A1.out ho2 rfl rfl rfl rfl
  · obtain ⟨q1, q2, q3, q4, q5, q6⟩ := (right_iff _).1 HRE.out.symm
    simp only at q1 q2 q3 q4 q5 q6
    rw [← HN.out] at q2 q4
    by_cases hs : 4096 < body.size
    · have gs : (4096 : Int) < body.size := by omega
      have ho2 : o = (zS, zP, 2) := HO.out.trans (by rw [if_neg (by simp), if_pos hs])
      clear q1 q2 q3 q4 q5 q6 hs
      go_wp2_with fail
      exact push_bad A1.out ho2 rfl rfl rfl rfl
    · have gs : ¬ (4096 : Int) < body.size := by omega
      have hws : IntKind.i64.wrap (ba + (n : Int)) = ba + (n : Int) := wrap64L (by omega) (by omega)
      by_cases h8 : n = 8 ∨ ba + n = 1073741824
      · have ho2 : o = (zS, zP, 3) := HO.out.trans (by rw [if_neg (by simp), if_neg hs, if_pos h8])
        by_cases h9 : n = 8
        · have g9 : ((n : Int) == 8) = true := by rw [h9]; rfl
          clear q1 q2 q3 q4 q5 q6 hs h8 h9
          go_wp2_with fail
          exact push_bad A1.out ho2 rfl rfl rfl rfl
        · have g9 : ((n : Int) == 8) = false := ne_b (by omega)
          have g10 : (ba + (n : Int) == 1073741824) = true := eq_b (by omega)
          clear q1 q2 q3 q4 q5 q6 hs h8 h9
          go_wp2_with fail
          exact push_bad A1.out ho2 rfl rfl rfl rfl
      · have ho2 := Lib.hid (show o = (⟨ep, ba, bs ++ [body], if n = 0 then 4 else ti⟩, ⟨ep, ba + n, body⟩, 0) from HO.out.trans (by rw [if_neg (by simp), if_neg hs, if_neg h8]))
        have g9 : ((n : Int) == 8) = false := ne_b (by omega)
        have g10 : (ba + (n : Int) == 1073741824) = false := ne_b (by omega)
        obtain ⟨wo, hwo⟩ : ∃ wo, wo = w1 := ⟨_, rfl⟩
        subst hwo
        obtain ⟨bo, hbo⟩ : ∃ bo, bo = wo.heap.size := ⟨_, rfl⟩
        have LO := Lib.hid (Lies.new wo #[.int .i64 ep, .int .i64 ba, .slice none 0 0, .int .i64 ti] 24)
        have B0 : Hid (BuiltB wo (wo.alloc (.cells #[.int .i64 ep, .int .i64 ba, .slice none 0 0, .int .i64 ti] 24)) (.slice none 0 0) []) := Lib.hid (BuiltB.none_ (below_al (Below.refl _ _)))
        have HBO := Lib.hid hbo
        have HQ2 := Lib.hid q2
        have hlt0 := lt_of_block A1.out.arg
        have hlt1 := lt_of_block A1.out.res
        have hlt2 := lt_of_block A1.out.pk
        clear HO q1 q2 q3 q4 q5 q6 h8 hs
        go_wp2_with fail
        rw [← hbo] at LO ⊢
        clear hbo x0 x1 x2 x3 y0 y1 y2 y3 z0 z1 z2 z3 v0 v1 v2 t0 t1 t2
        go_loopw [47] (fun i wr => ∃ (k : Nat) (v : Value), i = .int .i64 k ∧ k ≤ n ∧ BuiltB wo wr v (bs.take k) ∧ Lies bo #[.int .i64 ep, .int .i64 ba, v, .int .i64 ti] 24 wr ∧ v.ownBlock ≠ some bo) (fun i _ => n - (intOf i).toNat)
        case atStart => exact ⟨0, _, rfl, Nat.zero_le _, by simpa using B0.out, LO.out, by intro e; cases e⟩
        case round =>
          clear LO B0
          obtain ⟨k, v, rfl, hk, hB, hL, hne⟩ := hrel
          have BB := Lib.hid hB
          have LB := Lib.hid hL
          have HNE := Lib.hid hne
          have A2 := Lib.hid (A1.out.next hB.below)
          clear hB hL hne
          by_cases hlt : k < n
          · obtain ⟨b, hb⟩ : ∃ b, bs[k]? = some b := ⟨_, List.getElem?_eq_getElem (by rw [← HN.out]; exact hlt)⟩
            obtain ⟨q, off, rfl, d0⟩ := bcs_get A2.out.row hb
            have hw := num_k (k := k) (by omega)
            have HPU : Hid (bs.take (k + 1) = bs.take k ++ [b]) := Lib.hid (by rw [List.take_add_one, hb]; rfl)
            have HDL : Hid ((bs.take k).length ≤ 100) := Lib.hid (by have := HQ2.out; rw [List.length_take, ← HN.out]; omega)
            obtain ⟨ms, hms⟩ : ∃ ms, ms = bs.take k := ⟨_, rfl⟩
            rw [← hms] at BB HPU HDL
            have x2 := LB.out.cell (j := 2) rfl
            clear hms hb
            go_wp2_with (at_builtin; refine hold_mk ?_)
            refine hold_out ?_
            have hro := one_rowB wr b
            have hb2 := below_al (o := .cells #[.string b] 9) (Below.refl wr.heap.size wr)
            refine wpPushB rfl _ _ rfl v ms rfl (BB.out.up hb2) _ 1 1 [b] rfl hro rfl (by have := HDL.out; simp; omega) ?_
            intro v9 w9 bt9 hg9 hat9
            obtain ⟨A9, c9, hv9, _⟩ := own_form bt9.own (by omega)
            obtain ⟨nl, hnl⟩ : ∃ nl, nl = (ms ++ [b]).length := ⟨_, rfl⟩
            rw [← hnl] at hv9
            subst hv9
            have HBB := Lib.hid bt9
            have HN9 : Hid ((Value.slice A9 nl c9).ownBlock ≠ some bo) := Lib.hid (by
              rcases hat9 with e | e
              · rw [e]; exact HNE.out
              · rw [e]; intro e2; have h1 := Option.some.inj e2; have h2 := lt_of_block LB.out; simp at h1; omega)
            have L9 := Lib.hid (lies_grownK (LB.out.al (o := .cells #[.string b] 9)) hg9 HNE.out)
            clear bt9 hg9 hat9 hb2 hro x2 d0 hnl
            have f2 := L9.out.free 2
            have c2 := L9.out.cell (j := 2) rfl
            go_wp2_with fail
            go_roundw
            case rel => exact ⟨k + 1, _, rfl, by omega, by rw [HPU.out]; exact HBB.out.set (by rw [HBO.out]; exact Nat.le_refl _) HN9.out _, by
              have h2 := L9.out.set 2 (.slice A9 nl c9)
              simpa using h2, HN9.out⟩
            case measure => simp [intOf]; omega
          · have hge : n ≤ k := by omega
            have HTK : Hid (bs.take k = bs) := Lib.hid (List.take_of_length_le (by rw [← HN.out]; exact hge))
            have HDL : Hid (bs.length ≤ 100) := Lib.hid (by have := HQ2.out; rw [← HN.out]; omega)
            rw [HTK.out] at BB
            have x2 := LB.out.cell (j := 2) rfl
            go_wp2_with (at_builtin; refine hold_mk ?_)
            refine hold_out ?_
            have hro := one_rowB wr body
            have hb2 := below_al (o := .cells #[.string body] 9) (Below.refl wr.heap.size wr)
            refine wpPushB rfl _ _ rfl v bs rfl (BB.out.up hb2) _ 1 1 [body] rfl hro rfl (by have := HDL.out; simp; omega) ?_
            intro v9 w9 bt9 hg9 hat9
            obtain ⟨A9, c9, hv9, a1, a2, _⟩ := own_form bt9.own (by omega)
            obtain ⟨nl, hnl⟩ : ∃ nl, nl = (bs ++ [body]).length := ⟨_, rfl⟩
            rw [← hnl] at hv9 a1
            subst hv9
            have HN9 : Hid ((Value.slice A9 nl c9).ownBlock ≠ some bo) := Lib.hid (by
              rcases hat9 with e | e
              · rw [e]; exact HNE.out
              · rw [e]; intro e2; have h1 := Option.some.inj e2; have h2 := lt_of_block LB.out; simp at h1; omega)
            have HBB := Lib.hid bt9
            have L9 := Lib.hid (lies_grownK (LB.out.al (o := .cells #[.string body] 9)) hg9 HNE.out)
            have A9' := Lib.hid (A1.out.next bt9.below)
            have HNL := Lib.hid hnl
            have A11 := Lib.hid (And.intro a1 a2)
            clear bt9 hg9 hat9 hb2 hro x2 hnl a1 a2
            by_cases h0 : n = 0
            · have g0 : ((n : Int) == 0) = true := by rw [h0]; rfl
              have HX := Lib.hid ((HBB.out.set (i := 2) (by rw [HBO.out]; exact Nat.le_refl _) HN9.out (.slice A9 nl c9)).set (i := 3) (by rw [HBO.out]; exact Nat.le_refl _) HN9.out (.int .i64 4))
              have LX : Hid (Lies bo #[.int .i64 ep, .int .i64 ba, .slice A9 nl c9, .int .i64 4] 24 ((w9.setCell ⟨bo, 2, none⟩ (.slice A9 nl c9)).setCell ⟨bo, 3, none⟩ (.int .i64 4))) := Lib.hid (by
                have h2 := (L9.out.set 2 (.slice A9 nl c9)).set 3 (.int .i64 4)
                simpa using h2)
              have ho3 : Hid (o = (⟨ep, ba, bs ++ [body], 4⟩, ⟨ep, ba + n, body⟩, 0)) := Lib.hid (by have := ho2.out; rwa [if_pos h0] at this)
              have A3 := Lib.hid (A1.out.next HX.out.below)
              have x2 := A9'.out.arg.cell (j := 2) rfl
              have f2 := L9.out.free 2; have f3 := L9.out.free 3
              have c2 := L9.out.cell (j := 2) rfl; have c3 := L9.out.cell (j := 3) rfl
              have hbo1 : w.heap.size ≠ bo := by rw [HBO.out]; omega
              clear h0
              go_upto_region 17 with fail
              clear x2 f2 f3 c2 c3 hbo1
              obtain ⟨Wx, hWx⟩ : ∃ Wx, Wx = (w9.setCell ⟨bo, 2, none⟩ (.slice A9 nl c9)).setCell ⟨bo, 3, none⟩ (.int .i64 4) := ⟨_, rfl⟩
              rw [← hWx] at HX LX A3 ⊢
              clear hWx
              have x0 := A3.out.arg.cell (j := 0) rfl
              have c0 := LX.out.cell (j := 0) rfl; have c1 := LX.out.cell (j := 1) rfl; have c2 := LX.out.cell (j := 2) rfl; have c3 := LX.out.cell (j := 3) rfl
              have y0 := A3.out.res.cell (j := 0) rfl; have y1 := A3.out.res.cell (j := 1) rfl; have y2 := A3.out.res.cell (j := 2) rfl; have y3 := A3.out.res.cell (j := 3) rfl
              have z0 := A3.out.res.free 0; have z1 := A3.out.res.free 1; have z2 := A3.out.res.free 2; have z3 := A3.out.res.free 3
              have v0 := A3.out.pk.cell (j := 0) rfl; have v1 := A3.out.pk.cell (j := 1) rfl; have v2 := A3.out.pk.cell (j := 2) rfl
              have t0 := A3.out.pk.free 0; have t1 := A3.out.pk.free 1; have t2 := A3.out.pk.free 2
              go_region
              clear x0 c0 c1 c2 c3 y0 y1 y2 y3 z0 z1 z2 z3 v0 v1 v2 t0 t1 t2
              go_wp2_with fail
              have hf : ∀ q, (Value.slice A9 nl c9).ownBlock = some q → wo.heap.size ≤ q := fun q e => (HX.out.far e).1
              have hf1 : (Value.slice A9 nl c9).ownBlock ≠ some (w.heap.size + 1) := fun e => by have := hf _ e; omega
              have hf2 : (Value.slice A9 nl c9).ownBlock ≠ some (w.heap.size + 1 + 1) := fun e => by have := hf _ e; omega
              have hown := own_set3L (own_set4L HX.out.own hf1 (.int .i64 ep) (.int .i64 ba) (.slice A9 nl c9) (.int .i64 4)) hf2 (.int .i64 ep) (.int .i64 (ba + (n : Int))) (.string body)
              rw [← HNL.out] at hown
              exact push_retL (p := ⟨ep, ba + (n : Int), body⟩) rfl rfl rfl rfl (lies_far3 (lies_set4L A3.out.res _ _ _ _) (by omega) _ _ _).drew (lies_set3L (lies_far4 A3.out.pk (by omega) _ _ _ _) _ _ _).drew ho3.out HNL.out A11.out.1 A11.out.2 (row_of_ownL hown.drew (by omega)) (below_drewOf (below_set3L (below_set4L A3.out.below (by omega) _ _ _ _) (by omega) _ _ _))
            · have g0 : ((n : Int) == 0) = false := by simpa using h0
              have HX := Lib.hid (HBB.out.set (i := 2) (by rw [HBO.out]; exact Nat.le_refl _) HN9.out (.slice A9 nl c9))
              have LX : Hid (Lies bo #[.int .i64 ep, .int .i64 ba, .slice A9 nl c9, .int .i64 ti] 24 (w9.setCell ⟨bo, 2, none⟩ (.slice A9 nl c9))) := Lib.hid (by
                have h2 := L9.out.set 2 (.slice A9 nl c9)
                simpa using h2)
              have ho3 : Hid (o = (⟨ep, ba, bs ++ [body], ti⟩, ⟨ep, ba + n, body⟩, 0)) := Lib.hid (by have := ho2.out; rwa [if_neg h0] at this)
              have A3 := Lib.hid (A1.out.next HX.out.below)
              have x2 := A9'.out.arg.cell (j := 2) rfl
              have f2 := L9.out.free 2; have f3 := L9.out.free 3
              have c2 := L9.out.cell (j := 2) rfl; have c3 := L9.out.cell (j := 3) rfl
              have hbo1 : w.heap.size ≠ bo := by rw [HBO.out]; omega
              clear h0
              go_upto_region 17 with fail
              clear x2 f2 f3 c2 c3 hbo1
              obtain ⟨Wx, hWx⟩ : ∃ Wx, Wx = w9.setCell ⟨bo, 2, none⟩ (.slice A9 nl c9) := ⟨_, rfl⟩
              rw [← hWx] at HX LX A3 ⊢
              clear hWx
              have x0 := A3.out.arg.cell (j := 0) rfl
              have c0 := LX.out.cell (j := 0) rfl; have c1 := LX.out.cell (j := 1) rfl; have c2 := LX.out.cell (j := 2) rfl; have c3 := LX.out.cell (j := 3) rfl
              have y0 := A3.out.res.cell (j := 0) rfl; have y1 := A3.out.res.cell (j := 1) rfl; have y2 := A3.out.res.cell (j := 2) rfl; have y3 := A3.out.res.cell (j := 3) rfl
              have z0 := A3.out.res.free 0; have z1 := A3.out.res.free 1; have z2 := A3.out.res.free 2; have z3 := A3.out.res.free 3
              have v0 := A3.out.pk.cell (j := 0) rfl; have v1 := A3.out.pk.cell (j := 1) rfl; have v2 := A3.out.pk.cell (j := 2) rfl
              have t0 := A3.out.pk.free 0; have t1 := A3.out.pk.free 1; have t2 := A3.out.pk.free 2
              go_region
              clear x0 c0 c1 c2 c3 y0 y1 y2 y3 z0 z1 z2 z3 v0 v1 v2 t0 t1 t2
              go_wp2_with fail
              have hf : ∀ q, (Value.slice A9 nl c9).ownBlock = some q → wo.heap.size ≤ q := fun q e => (HX.out.far e).1
              have hf1 : (Value.slice A9 nl c9).ownBlock ≠ some (w.heap.size + 1) := fun e => by have := hf _ e; omega
              have hf2 : (Value.slice A9 nl c9).ownBlock ≠ some (w.heap.size + 1 + 1) := fun e => by have := hf _ e; omega
              have hown := own_set3L (own_set4L HX.out.own hf1 (.int .i64 ep) (.int .i64 ba) (.slice A9 nl c9) (.int .i64 ti)) hf2 (.int .i64 ep) (.int .i64 (ba + (n : Int))) (.string body)
              rw [← HNL.out] at hown
              exact push_retL (p := ⟨ep, ba + (n : Int), body⟩) rfl rfl rfl rfl (lies_far3 (lies_set4L A3.out.res _ _ _ _) (by omega) _ _ _).drew (lies_set3L (lies_far4 A3.out.pk (by omega) _ _ _ _) _ _ _).drew ho3.out HNL.out A11.out.1 A11.out.2 (row_of_ownL hown.drew (by omega)) (below_drewOf (below_set3L (below_set4L A3.out.below (by omega) _ _ _ _) (by omega) _ _ _))
end Lk
end Go.Proofs.Ytbdlmokgmgpbfaa
