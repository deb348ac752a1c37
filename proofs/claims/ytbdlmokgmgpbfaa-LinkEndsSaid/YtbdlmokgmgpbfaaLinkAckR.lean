/- The reference's Ack. -/
import Derived.Test.YtbdlmokgmgpbfaaLinkBld
import Derived.Test.YtbdlmokgmgpbfaaHold
namespace Go.Proofs.Ytbdlmokgmgpbfaa
open Go.ChangeShapes Go.WideShapes Go.ChangeAt Go.RowKit
set_option linter.unusedVariables false
set_option maxRecDepth 8000
namespace Lk
open Gen (TellsB row_one flat_len flat_get)
/-- Hands back a sender, and why not. -/
def GivesSE (o : Sn × Int) (w : World) (e : Ending) (w' : World) : Prop :=
  ∃ A c, e = .returned (.tuple #[.agg #[.int .i64 o.1.epoch, .int .i64 o.1.base, .slice A o.1.bodies.length c, .int .i64 o.1.timer], .int .i64 o.2]) ∧ o.1.bodies.length ≤ c ∧ c ≤ maxLen ∧ Row w' A (bcs o.1.bodies) ∧ Below w.heap.size w w'
theorem ack_retL {w wF : World} {R n : Nat} {ep ba ti z : Int} {bs : List ByteArray} {o : Sn × Int} {A : Option Addr} {c : Nat} {act : Act} (ht : act.tmps.getD 6 undef = .pointer (some ⟨R, 0, none⟩)) (hc : act.tmps.getD 7 undef = .int .i64 z) (hd : act.defers = [])
    (hL : Lies R #[.int .i64 ep, .int .i64 ba, .slice A n c, .int .i64 ti] 24 wF) (ho : o = (⟨ep, ba, bs, ti⟩, z)) (hn : n = bs.length) (h1 : n ≤ c) (h2 : c ≤ maxLen) (h3 : Row wF A (bcs bs)) (hB : Below w.heap.size w wF) : bodyPost Try.prog Try.f16 (GivesSE o w) .ret act wF := by
  subst ho
  subst hn
  have c0 := hL.cell (j := 0) rfl
  have c1 := hL.cell (j := 1) rfl
  have c2 := hL.cell (j := 2) rfl
  have c3 := hL.cell (j := 3) rfl
  refine bodyPost_ret (v := .tuple #[.agg #[.int .i64 ep, .int .i64 ba, .slice A bs.length c, .int .i64 ti], .int .i64 z]) ?_ hd ⟨A, c, rfl, h1, h2, h3, hB⟩
  have ht2 : act.tmps[6]?.getD undef = .pointer (some ⟨R, 0, none⟩) := by simpa using ht
  have hc2 : act.tmps[7]?.getD undef = .int .i64 z := by simpa using hc
  simp [results, Try.results16, go_sem, ht2, hc2, c0, c1, c2, c3]
/-- What stands while the reference's Ack goes on: the argument, the result's block, the new sender. -/
structure AkAt (w0 : World) (ep ba ti : Int) (n : Nat) (A : Option Addr) (c : Nat) (r0 r1 r2 r3 : Value) (bs : List ByteArray) (w : World) : Prop where
  arg : Lies w0.heap.size #[.int .i64 ep, .int .i64 ba, .slice A n c, .int .i64 ti] 24 w
  res : Lies (w0.heap.size + 1) #[r0, r1, r2, r3] 24 w
  row : Row w A (bcs bs)
  below : Below w0.heap.size w0 w
theorem AkAt.next {w0 : World} {ep ba ti : Int} {n : Nat} {A : Option Addr} {c : Nat} {r0 r1 r2 r3 : Value} {bs : List ByteArray} {a b : World} (h : AkAt w0 ep ba ti n A c r0 r1 r2 r3 bs a) (hb : Below a.heap.size a b) : AkAt w0 ep ba ti n A c r0 r1 r2 r3 bs b :=
  ⟨h.arg.below hb, h.res.below hb, h.row.below hb, below_next h.below hb⟩
theorem lies_set4L {b : Nat} {T : TypeId} {w : World} {u0 u1 u2 u3 : Value} (h : Lies b #[u0, u1, u2, u3] T w) (v0 v1 v2 v3 : Value) :
    Lies b #[v0, v1, v2, v3] T ((((w.setCell ⟨b, 0, none⟩ v0).setCell ⟨b, 1, none⟩ v1).setCell ⟨b, 2, none⟩ v2).setCell ⟨b, 3, none⟩ v3) := by
  have h2 := (((h.set 0 v0).set 1 v1).set 2 v2).set 3 v3
  simpa using h2
theorem below_set4L {B b : Nat} {u w : World} (h : Below B u w) (hb : B ≤ b) (v0 v1 v2 v3 : Value) :
    Below B u ((((w.setCell ⟨b, 0, none⟩ v0).setCell ⟨b, 1, none⟩ v1).setCell ⟨b, 2, none⟩ v2).setCell ⟨b, 3, none⟩ v3) :=
  (((h.setCell (p := ⟨b, 0, none⟩) hb _).setCell (p := ⟨b, 1, none⟩) hb _).setCell (p := ⟨b, 2, none⟩) hb _).setCell (p := ⟨b, 3, none⟩) hb _
theorem row_of_ownL {w : World} {B size n c : Nat} {e : TypeId} {A : Option Addr} {xs : List Value} (h : w.ownsRow B e size (.slice A n c) n xs) (h0 : 0 < size) : Row w A xs := by
  obtain ⟨A', c', hv, _, _, _, h3, _⟩ := own_form h h0
  cases hv
  exact h3
set_option maxRecDepth 100000 in
set_option maxHeartbeats 1000000 in
theorem rfAck (ep ba ti : Int) (bs : List ByteArray) (n : Nat) (hn : n = bs.length) (hlen : n ≤ 4611686018427387904) (A : Option Addr) (c : Nat) (hl : n ≤ c) (hc : c ≤ maxLen) (epoch want : Int) (hba : -9223372036854775808 ≤ ba ∧ ba ≤ 9223372036854775807) (w : World) (h : Row w A (bcs bs)) :
    Calls Try.prog 16 #[.agg #[.int .i64 ep, .int .i64 ba, .slice A n c, .int .i64 ti], .int .i64 epoch, .int .i64 want] w (GivesSE (ackO ⟨ep, ba, bs, ti⟩ epoch want) w) := by
  obtain ⟨r, hr⟩ : ∃ r, r = rightS ⟨ep, ba, bs, ti⟩ := ⟨_, rfl⟩
  have HR := Lib.hid (fun w' (hr' : Row w' A (bcs bs)) => rfRight_ ep ba bs n ti A c r hn hr w' hr' hlen)
  have hb0 : Below w.heap.size w ((w.alloc (.cells #[.int .i64 ep, .int .i64 ba, .slice A n c, .int .i64 ti] 24)).alloc (.cells #[.int .i64 0, .int .i64 0, .slice none 0 0, .int .i64 0] 24)) := below_al (below_al (Below.refl _ _))
  have AK : Hid (AkAt w ep ba ti n A c (.int .i64 0) (.int .i64 0) (.slice none 0 0) (.int .i64 0) bs ((w.alloc (.cells #[.int .i64 ep, .int .i64 ba, .slice A n c, .int .i64 ti] 24)).alloc (.cells #[.int .i64 0, .int .i64 0, .slice none 0 0, .int .i64 0] 24))) := Lib.hid ⟨(Lies.new w _ _).al, by
    have h := Lies.new (w.alloc (.cells #[.int .i64 ep, .int .i64 ba, .slice A n c, .int .i64 ti] 24)) #[.int .i64 0, .int .i64 0, .slice none 0 0, .int .i64 0] 24
    rwa [World.size_alloc] at h, h.below hb0, hb0⟩
  obtain ⟨o, ho⟩ : ∃ o, o = ackO ⟨ep, ba, bs, ti⟩ epoch want := ⟨_, rfl⟩
  rw [← ho]
  have HO := Lib.hid ho
  have HRE := Lib.hid hr
  have HN := Lib.hid hn
  have HCAP := Lib.hid (And.intro hl hc)
  have HROW := Lib.hid h
  clear ho hr hn h hb0 hl hc
  go_enter Try.func16, Try.ntmps16
  go_upto_region 1 with fail
  obtain ⟨W, hW⟩ : ∃ W, W = (w.alloc (.cells #[.int .i64 ep, .int .i64 ba, .slice A n c, .int .i64 ti] 24)).alloc (.cells #[.int .i64 0, .int .i64 0, .slice none 0 0, .int .i64 0] 24) := ⟨_, rfl⟩
  rw [← hW] at AK ⊢
  clear hW
  have x0 := AK.out.arg.cell (j := 0) rfl; have x1 := AK.out.arg.cell (j := 1) rfl; have x2 := AK.out.arg.cell (j := 2) rfl; have x3 := AK.out.arg.cell (j := 3) rfl
  go_wp2_with fail
  refine (HR.out _ AK.out.row).mono ?_
  rintro e w1 ⟨rfl, hb1⟩
  have A1 := Lib.hid (AK.out.next hb1)
  clear hb1 x0 x1 x2 x3
  have x0 := A1.out.arg.cell (j := 0) rfl; have x1 := A1.out.arg.cell (j := 1) rfl; have x2 := A1.out.arg.cell (j := 2) rfl; have x3 := A1.out.arg.cell (j := 3) rfl
  have y0 := A1.out.res.cell (j := 0) rfl; have y1 := A1.out.res.cell (j := 1) rfl; have y2 := A1.out.res.cell (j := 2) rfl; have y3 := A1.out.res.cell (j := 3) rfl
  have z0 := A1.out.res.free 0; have z1 := A1.out.res.free 1; have z2 := A1.out.res.free 2; have z3 := A1.out.res.free 3
  cases r
  · have ho2 : o = (⟨0, 0, [], 0⟩, 1) := HO.out.trans (by unfold ackO; rw [if_pos HRE.out.symm]; rfl)
    go_wp2_with fail
    exact ack_retL rfl rfl rfl (lies_set4L A1.out.res _ _ _ _) ho2 rfl (Nat.zero_le _) (by simp [maxLen]) Row.nil (below_set4L A1.out.below (by omega) _ _ _ _)
  · have HRT := Lib.hid HRE.out.symm
    by_cases hq : epoch = ep
    · have gq : (epoch == ep) = true := eq_b hq
      obtain ⟨q1, q2, q3, q4, q5, q6⟩ := (right_iff _).1 HRT.out
      simp only at q1 q2 q3 q4 q5 q6
      rw [← HN.out] at q2 q4
      have hws : IntKind.i64.wrap (ba + (n : Int)) = ba + (n : Int) := wrap64L (by omega) (by omega)
      have HOU := HO.out
      unfold ackO at HOU
      rw [if_neg (by rw [HRT.out]; simp), if_neg (not_not_intro hq)] at HOU
      simp only at HOU
      rw [← HN.out] at HOU
      have HOU := Lib.hid HOU
      clear q1 q3 q5 q6
      by_cases hw1 : ba + (n : Int) < want
      · have ho2 : o = (⟨0, 0, [], 0⟩, 1) := HOU.out.trans (by rw [if_pos hw1]; rfl)
        go_wp2_with fail
        exact ack_retL rfl rfl rfl (lies_set4L A1.out.res _ _ _ _) ho2 rfl (Nat.zero_le _) (by simp [maxLen]) Row.nil (below_set4L A1.out.below (by omega) _ _ _ _)
      · by_cases hw2 : want ≤ ba
        · have ho2 : o = (⟨ep, ba, bs, ti⟩, 0) := HOU.out.trans (by rw [if_neg hw1, if_pos hw2])
          go_wp2_with fail
          exact ack_retL rfl rfl rfl (lies_set4L A1.out.res _ _ _ _) ho2 HN.out HCAP.out.1 HCAP.out.2 (HROW.out.below (below_set4L A1.out.below (by omega) _ _ _ _)) (below_set4L A1.out.below (by omega) _ _ _ _)
        · obtain ⟨d, hd⟩ : ∃ d : Nat, want = ba + d := ⟨(want - ba).toNat, by omega⟩
          have ho2 : Hid (o = (⟨ep, want, bs.drop d, if n = d then 0 else 4⟩, 0)) := Lib.hid (HOU.out.trans (by
            rw [if_neg hw1, if_neg hw2]
            have e1 : (want - ba).toNat = d := by omega
            rw [e1]
            congr 2
            by_cases e2 : n = d
            · rw [if_pos (by omega), if_pos e2]
            · rw [if_neg (by omega), if_neg e2]))
          have hdn : 0 < d ∧ d ≤ n := by omega
          have HD := Lib.hid hd
          clear hd
          obtain ⟨wo, hwo⟩ : ∃ wo, wo = w1 := ⟨_, rfl⟩
          subst hwo
          obtain ⟨bo, hbo⟩ : ∃ bo, bo = wo.heap.size := ⟨_, rfl⟩
          have LO := Lib.hid (Lies.new wo #[.int .i64 ep, .int .i64 want, .slice none 0 0, .int .i64 0] 24)
          have B0 : Hid (BuiltB wo (wo.alloc (.cells #[.int .i64 ep, .int .i64 want, .slice none 0 0, .int .i64 0] 24)) (.slice none 0 0) []) := Lib.hid (BuiltB.none_ (below_al (Below.refl _ _)))
          have HBO := Lib.hid hbo
          have HQ2 := Lib.hid q2
          clear HO HOU q2
          have hlt0 := lt_of_block A1.out.arg
          have hlt1 := lt_of_block A1.out.res
          go_wp2_with fail
          rw [← hbo] at LO ⊢
          clear hbo x0 x1 x2 x3 y0 y1 y2 y3 z0 z1 z2 z3
          go_loopw [41] (fun i wr => ∃ (k : Nat) (v : Value), i = .int .i64 k ∧ k ≤ n ∧ BuiltB wo wr v ((bs.take k).drop d) ∧ Lies bo #[.int .i64 ep, .int .i64 want, v, .int .i64 (if k ≤ d then 0 else 4)] 24 wr ∧ v.ownBlock ≠ some bo) (fun i _ => n - (intOf i).toNat)
          case atStart => exact ⟨0, _, rfl, Nat.zero_le _, by simpa using B0.out, by rw [if_pos (Nat.zero_le _)]; exact LO.out, by intro e; cases e⟩
          case round =>
            clear LO B0
            obtain ⟨k, v, rfl, hk, hB, hL, hne⟩ := hrel
            have BB := Lib.hid hB
            have LB := Lib.hid hL
            have HNE := Lib.hid hne
            have A2 := Lib.hid (A1.out.next hB.below)
            clear hB hL hne
            by_cases hlt : k < n
            · obtain ⟨b, hb⟩ : ∃ b, bs[k]? = some b := ⟨_, List.getElem?_eq_getElem (by rw [← HN.out]; exact hlt)⟩
              obtain ⟨q, off, rfl, d0⟩ := bcs_get A2.out.row hb
              have x1 := A2.out.arg.cell (j := 1) rfl
              have hw := num_k (k := k) (by omega)
              have hwk : IntKind.i64.wrap (ba + (k : Int)) = ba + (k : Int) := wrap64L (by omega) (by omega)
              have HPU : Hid (bs.take (k + 1) = bs.take k ++ [b]) := Lib.hid (by rw [List.take_add_one, hb]; rfl)
              have HKL : Hid ((bs.take k).length = k) := Lib.hid (by rw [List.length_take, ← HN.out]; omega)
              clear hb
              by_cases hge : d ≤ k
              · have g1 : want ≤ ba + (k : Int) := by have := HD.out; omega
                have HDR : Hid ((bs.take (k + 1)).drop d = (bs.take k).drop d ++ [b]) := Lib.hid (by rw [HPU.out, List.drop_append_of_le_length (by rw [HKL.out]; exact hge)])
                have HDL : Hid (((bs.take k).drop d).length ≤ 100) := Lib.hid (by have := HQ2.out; rw [List.length_drop, HKL.out]; omega)
                obtain ⟨ms, hms⟩ : ∃ ms, ms = (bs.take k).drop d := ⟨_, rfl⟩
                rw [← hms] at BB HDR HDL
                have x2 := LB.out.cell (j := 2) rfl
                clear hms
                go_wp2_with (at_builtin; refine hold_mk ?_)
                refine hold_out ?_
                have hro := one_rowB wr b
                have hb2 := below_al (o := .cells #[.string b] 9) (Below.refl wr.heap.size wr)
                refine wpPushB rfl _ _ rfl v ms rfl (BB.out.up hb2) _ 1 1 [b] rfl hro rfl (by have := HDL.out; simp; omega) ?_
                intro v9 w9 bt9 hg9 hat9
                obtain ⟨A9, c9, hv9, _⟩ := own_form bt9.own (by omega)
                obtain ⟨nl, hnl⟩ : ∃ nl, nl = (ms ++ [b]).length := ⟨_, rfl⟩
                rw [← hnl] at hv9
                subst hv9
                have HBB := Lib.hid bt9
                have HN9 : Hid ((Value.slice A9 nl c9).ownBlock ≠ some bo) := Lib.hid (by
                  rcases hat9 with e | e
                  · rw [e]; exact HNE.out
                  · rw [e]; intro e2; have h1 := Option.some.inj e2; have h2 := lt_of_block LB.out; simp at h1; omega)
                have L9 := Lib.hid (lies_grownK (LB.out.al (o := .cells #[.string b] 9)) hg9 HNE.out)
                clear bt9 hg9 hat9 hb2 hro x2 x1 d0 hnl
                have f2 := L9.out.free 2
                have f3 := L9.out.free 3
                have c2 := L9.out.cell (j := 2) rfl
                have c3 := L9.out.cell (j := 3) rfl
                go_wp2_with fail
                go_roundw
                case rel => exact ⟨k + 1, _, rfl, by omega, by rw [HDR.out]; exact (HBB.out.set (by rw [HBO.out]; exact Nat.le_refl _) HN9.out _).set (by rw [HBO.out]; exact Nat.le_refl _) HN9.out _, by
                  rw [if_neg (by omega)]
                  have h2 := (L9.out.set 2 (.slice A9 nl c9)).set 3 (.int .i64 4)
                  simpa using h2, HN9.out⟩
                case measure => simp [intOf]; omega
              · have g1 : ¬ want ≤ ba + (k : Int) := by have := HD.out; omega
                have HDR : Hid ((bs.take (k + 1)).drop d = (bs.take k).drop d) := Lib.hid (by rw [List.drop_eq_nil_of_le (by rw [HPU.out, List.length_append, HKL.out]; simp; omega), List.drop_eq_nil_of_le (by rw [HKL.out]; omega)])
                have e9 : (if k ≤ d then (0 : Int) else 4) = 0 := if_pos (by omega)
                go_wp2_with fail
                go_roundw
                case rel => exact ⟨k + 1, v, rfl, by omega, by rw [HDR.out]; exact BB.out, by rw [if_pos (by omega)]; have := LB.out; rwa [e9] at this, HNE.out⟩
                case measure => simp [intOf]; omega
            · have hge : n ≤ k := by omega
              have hkn : k = n := by omega
              have HTK : Hid ((bs.take k).drop d = bs.drop d) := Lib.hid (by rw [List.take_of_length_le (by rw [← HN.out]; exact hge)])
              have HTI : Hid ((if k ≤ d then (0 : Int) else 4) = if n = d then 0 else 4) := Lib.hid (by
                by_cases e : n = d
                · rw [if_pos e, if_pos (by omega)]
                · rw [if_neg e, if_neg (by omega)])
              obtain ⟨DL, hDL⟩ : ∃ DL, DL = bs.drop d := ⟨_, rfl⟩
              rw [HTK.out, ← hDL] at BB
              rw [← hDL] at ho2
              clear hDL
              rw [HTI.out] at LB
              obtain ⟨tm, htm⟩ : ∃ tm : Int, tm = if n = d then 0 else 4 := ⟨_, rfl⟩
              rw [← htm] at LB ho2
              have hfar : v.ownBlock ≠ some (w.heap.size + 1) := fun e => by have h1 := (BB.out.far e).1; have h2 := lt_of_block A1.out.res; omega
              have OWN4 := Lib.hid (fun z0 z1 z2 z3 => own_setL (own_setL (own_setL (own_setL BB.out.own ⟨w.heap.size + 1, 0, none⟩ hfar z0) ⟨w.heap.size + 1, 1, none⟩ hfar z1) ⟨w.heap.size + 1, 2, none⟩ hfar z2) ⟨w.heap.size + 1, 3, none⟩ hfar z3)
              obtain ⟨AA, ac, hv, a1, a2, _, a3, _⟩ := own_form BB.out.own (by omega)
              subst hv
              clear hfar
              have c0 := LB.out.cell (j := 0) rfl; have c1 := LB.out.cell (j := 1) rfl; have c2 := LB.out.cell (j := 2) rfl; have c3 := LB.out.cell (j := 3) rfl
              have y0 := A2.out.res.cell (j := 0) rfl; have y1 := A2.out.res.cell (j := 1) rfl; have y2 := A2.out.res.cell (j := 2) rfl; have y3 := A2.out.res.cell (j := 3) rfl
              have z0 := A2.out.res.free 0; have z1 := A2.out.res.free 1; have z2 := A2.out.res.free 2; have z3 := A2.out.res.free 3
              have A3 := Lib.hid a3
              have A11 := Lib.hid (And.intro a1 a2)
              clear hkn htm a3 a1 a2
              go_wp2_with fail
              exact ack_retL rfl rfl rfl (lies_set4L A2.out.res _ _ _ _) ho2.out rfl A11.out.1 A11.out.2 (row_of_ownL (OWN4.out _ _ _ _) (by omega)) (below_set4L A2.out.below (by omega) _ _ _ _)
    · have gq : (epoch == ep) = false := ne_b hq
      have ho2 : o = (⟨0, 0, [], 0⟩, 150) := HO.out.trans (by unfold ackO; rw [if_neg (by rw [HRT.out]; simp), if_pos hq]; rfl)
      go_wp2_with fail
      exact ack_retL rfl rfl rfl (lies_set4L A1.out.res _ _ _ _) ho2 rfl (Nat.zero_le _) (by simp [maxLen]) Row.nil (below_set4L A1.out.below (by omega) _ _ _ _)
end Lk
end Go.Proofs.Ytbdlmokgmgpbfaa
