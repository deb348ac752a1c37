/- The reference's Tick. -/
import Derived.Test.YtbdlmokgmgpbfaaLinkAckR
namespace Go.Proofs.Ytbdlmokgmgpbfaa
open Go.ChangeShapes Go.WideShapes Go.ChangeAt Go.RowKit
set_option linter.unusedVariables false
set_option maxRecDepth 8000
namespace Lk
open Gen (TellsB row_one flat_len flat_get)
/-- Hands back a sender, and packets. -/
def GivesSP (o : Sn × List Pk) (w : World) (e : Ending) (w' : World) : Prop :=
  ∃ A c A' c', e = .returned (.tuple #[.agg #[.int .i64 o.1.epoch, .int .i64 o.1.base, .slice A o.1.bodies.length c, .int .i64 o.1.timer], .slice A' o.2.length c']) ∧ o.1.bodies.length ≤ c ∧ c ≤ maxLen ∧ Row w' A (bcs o.1.bodies) ∧ o.2.length ≤ c' ∧ c' ≤ maxLen ∧ Row w' A' (pcs o.2) ∧ Below w.heap.size w w'
theorem tick_retL {w wF : World} {R n m : Nat} {ep ba ti : Int} {bs : List ByteArray} {ps : List Pk} {o : Sn × List Pk} {A A' : Option Addr} {c c' : Nat} {act : Act} (ht : act.tmps.getD 2 undef = .pointer (some ⟨R, 0, none⟩)) (hc : act.tmps.getD 3 undef = .slice A' m c') (hd : act.defers = [])
    (hL : Lies R #[.int .i64 ep, .int .i64 ba, .slice A n c, .int .i64 ti] 24 wF) (ho : o = (⟨ep, ba, bs, ti⟩, ps)) (hn : n = bs.length) (hm : m = ps.length) (h1 : n ≤ c) (h2 : c ≤ maxLen) (h3 : Row wF A (bcs bs)) (h4 : m ≤ c') (h5 : c' ≤ maxLen) (h6 : Row wF A' (pcs ps)) (hB : Below w.heap.size w wF) : bodyPost Try.prog Try.f18 (GivesSP o w) .ret act wF := by
  subst ho
  subst hn
  subst hm
  have c0 := hL.cell (j := 0) rfl
  have c1 := hL.cell (j := 1) rfl
  have c2 := hL.cell (j := 2) rfl
  have c3 := hL.cell (j := 3) rfl
  refine bodyPost_ret (v := .tuple #[.agg #[.int .i64 ep, .int .i64 ba, .slice A bs.length c, .int .i64 ti], .slice A' ps.length c']) ?_ hd ⟨A, c, A', c', rfl, h1, h2, h3, h4, h5, h6, hB⟩
  have ht2 : act.tmps[2]?.getD undef = .pointer (some ⟨R, 0, none⟩) := by simpa using ht
  have hc2 : act.tmps[3]?.getD undef = .slice A' ps.length c' := by simpa using hc
  simp [results, Try.results18, go_sem, ht2, hc2, c0, c1, c2, c3]
theorem packs_push (e : Int) : ∀ (no : Int) (l : List ByteArray) (b : ByteArray), packs e no (l ++ [b]) = packs e no l ++ [⟨e, no + l.length, b⟩]
  | no, [], b => by simp [packs]
  | no, a :: l, b => by
    rw [List.cons_append, packs, packs_push e (no + 1) l b, packs, List.cons_append, List.length_cons]
    congr 3
    congr 1
    omega
set_option maxRecDepth 100000 in
set_option maxHeartbeats 1000000 in
theorem rfTick (ep ba ti : Int) (bs : List ByteArray) (n : Nat) (hn : n = bs.length) (hlen : n ≤ 4611686018427387904) (A : Option Addr) (c : Nat) (hl : n ≤ c) (hc : c ≤ maxLen) (w : World) (h : Row w A (bcs bs)) :
    Calls Try.prog 18 #[.agg #[.int .i64 ep, .int .i64 ba, .slice A n c, .int .i64 ti]] w (GivesSP (tickO ⟨ep, ba, bs, ti⟩) w) := by
  obtain ⟨r, hr⟩ : ∃ r, r = rightS ⟨ep, ba, bs, ti⟩ := ⟨_, rfl⟩
  have HR := Lib.hid (fun w' (hr' : Row w' A (bcs bs)) => rfRight_ ep ba bs n ti A c r hn hr w' hr' hlen)
  have hb0 : Below w.heap.size w ((w.alloc (.cells #[.int .i64 ep, .int .i64 ba, .slice A n c, .int .i64 ti] 24)).alloc (.cells #[.int .i64 0, .int .i64 0, .slice none 0 0, .int .i64 0] 24)) := below_al (below_al (Below.refl _ _))
  have AK : Hid (AkAt w ep ba ti n A c (.int .i64 0) (.int .i64 0) (.slice none 0 0) (.int .i64 0) bs ((w.alloc (.cells #[.int .i64 ep, .int .i64 ba, .slice A n c, .int .i64 ti] 24)).alloc (.cells #[.int .i64 0, .int .i64 0, .slice none 0 0, .int .i64 0] 24))) := Lib.hid ⟨(Lies.new w _ _).al, by
    have h := Lies.new (w.alloc (.cells #[.int .i64 ep, .int .i64 ba, .slice A n c, .int .i64 ti] 24)) #[.int .i64 0, .int .i64 0, .slice none 0 0, .int .i64 0] 24
    rwa [World.size_alloc] at h, h.below hb0, hb0⟩
  obtain ⟨o, ho⟩ : ∃ o, o = tickO ⟨ep, ba, bs, ti⟩ := ⟨_, rfl⟩
  rw [← ho]
  have HO : Hid (o = if r = false ∨ n = 0 then (⟨ep, ba, bs, ti⟩, []) else if 1 < ti then (⟨ep, ba, bs, ti - 1⟩, []) else (⟨ep, ba, bs, 4⟩, packs ep ba bs)) := Lib.hid (by
    rw [ho, hr, hn]; rfl)
  have HRE := Lib.hid hr
  have HN := Lib.hid hn
  have HCAP := Lib.hid (And.intro hl hc)
  have HROW := Lib.hid h
  clear ho hr hn h hb0 hl hc
  go_enter Try.func18, Try.ntmps18
  go_upto_region 1 with fail
  obtain ⟨W, hW⟩ : ∃ W, W = (w.alloc (.cells #[.int .i64 ep, .int .i64 ba, .slice A n c, .int .i64 ti] 24)).alloc (.cells #[.int .i64 0, .int .i64 0, .slice none 0 0, .int .i64 0] 24) := ⟨_, rfl⟩
  rw [← hW] at AK ⊢
  clear hW
  have x0 := AK.out.arg.cell (j := 0) rfl; have x1 := AK.out.arg.cell (j := 1) rfl; have x2 := AK.out.arg.cell (j := 2) rfl; have x3 := AK.out.arg.cell (j := 3) rfl
  go_wp2_with fail
  refine (HR.out _ AK.out.row).mono ?_
  rintro e w1 ⟨rfl, hb1⟩
  have A1 := Lib.hid (AK.out.next hb1)
  clear hb1 x0 x1 x2 x3
  have x0 := A1.out.arg.cell (j := 0) rfl; have x1 := A1.out.arg.cell (j := 1) rfl; have x2 := A1.out.arg.cell (j := 2) rfl; have x3 := A1.out.arg.cell (j := 3) rfl
  have y0 := A1.out.res.cell (j := 0) rfl; have y1 := A1.out.res.cell (j := 1) rfl; have y2 := A1.out.res.cell (j := 2) rfl; have y3 := A1.out.res.cell (j := 3) rfl
  have z0 := A1.out.res.free 0; have z1 := A1.out.res.free 1; have z2 := A1.out.res.free 2; have z3 := A1.out.res.free 3
  cases r
  · have ho2 : o = (⟨ep, ba, bs, ti⟩, []) := HO.out.trans (if_pos (.inl rfl))
    go_wp2_with fail
    exact tick_retL rfl rfl rfl (lies_set4L A1.out.res _ _ _ _) ho2 HN.out rfl HCAP.out.1 HCAP.out.2 (HROW.out.below (below_set4L A1.out.below (by omega) _ _ _ _)) (Nat.zero_le _) (by simp [maxLen]) Row.nil (below_set4L A1.out.below (by omega) _ _ _ _)
  · by_cases h0 : n = 0
    · have g0 : ((n : Int) == 0) = true := by rw [h0]; rfl
      have ho2 : o = (⟨ep, ba, bs, ti⟩, []) := HO.out.trans (if_pos (.inr h0))
      clear h0
      go_wp2_with fail
      exact tick_retL rfl rfl rfl (lies_set4L A1.out.res _ _ _ _) ho2 HN.out rfl HCAP.out.1 HCAP.out.2 (HROW.out.below (below_set4L A1.out.below (by omega) _ _ _ _)) (Nat.zero_le _) (by simp [maxLen]) Row.nil (below_set4L A1.out.below (by omega) _ _ _ _)
    · have g0 : ((n : Int) == 0) = false := by simpa using h0
      obtain ⟨q1, q2, q3, q4, q5, q6⟩ := (right_iff _).1 HRE.out.symm
      simp only at q1 q2 q3 q4 q5 q6
      rw [← HN.out] at q2 q4 q6
      have q7 := q6 (by omega)
      have f3 := A1.out.arg.free 3
      by_cases ht : 1 < ti
      · have ho2 : o = (⟨ep, ba, bs, ti - 1⟩, []) := HO.out.trans (by rw [if_neg (by simp [h0]), if_pos ht])
        have hws : IntKind.i64.wrap (ti - 1) = ti - 1 := wrap64L (by omega) (by omega)
        have HQ : Hid (0 ≤ n) := Lib.hid (Nat.zero_le _)
        clear q1 q2 q3 q4 q5 q6 q7 h0
        go_wp2_with fail
        exact tick_retL rfl rfl rfl (lies_set4L (A1.out.res.other (by omega) _ _) _ _ _ _) ho2 HN.out rfl HCAP.out.1 HCAP.out.2 (HROW.out.below (below_set4L (A1.out.below.setCell (p := ⟨w.heap.size, 3, none⟩) (Nat.le_refl _) _) (by omega) _ _ _ _)) (Nat.zero_le _) (by simp [maxLen]) Row.nil (below_set4L (A1.out.below.setCell (p := ⟨w.heap.size, 3, none⟩) (Nat.le_refl _) _) (by omega) _ _ _ _)
      · have ho2 := Lib.hid (show o = (⟨ep, ba, bs, 4⟩, packs ep ba bs) from HO.out.trans (by rw [if_neg (by simp [h0]), if_neg ht]))
        have A2 : Hid (AkAt w ep ba 4 n A c (.int .i64 0) (.int .i64 0) (.slice none 0 0) (.int .i64 0) bs (w1.setCell ⟨w.heap.size, 3, none⟩ (.int .i64 4))) := Lib.hid ⟨by have h2 := A1.out.arg.set 3 (.int .i64 4); simpa using h2, A1.out.res.other (by omega) _ _, HROW.out.below (A1.out.below.setCell (p := ⟨w.heap.size, 3, none⟩) (Nat.le_refl _) _), A1.out.below.setCell (p := ⟨w.heap.size, 3, none⟩) (Nat.le_refl _) _⟩
        have HQ2 := Lib.hid (And.intro q2 q4)
        clear q1 q2 q3 q4 q5 q6 q7 h0 HO
        go_upto_region 7 with fail
        obtain ⟨wo, hwo⟩ : ∃ wo, wo = w1.setCell ⟨w.heap.size, 3, none⟩ (.int .i64 4) := ⟨_, rfl⟩
        rw [← hwo] at A2 ⊢
        clear hwo x0 x1 x2 x3 y0 y1 y2 y3 z0 z1 z2 z3 f3 A1
        have x2 := A2.out.arg.cell (j := 2) rfl
        have hlt0 := lt_of_block A2.out.arg
        have B0 : Hid (BuiltP wo (wo.alloc (.cells #[] 26)) (.slice (some ⟨wo.heap.size, 0, none⟩) 0 0) []) := Lib.hid ⟨own_new (Nat.le_refl _), below_al (Below.refl _ _)⟩
        go_wp2_with fail
        clear x2
        go_loopw [4, 30] (fun v i wr => ∃ k : Nat, i = .int .i64 k ∧ k ≤ n ∧ BuiltP wo wr v (packs ep ba (bs.take k))) (fun _ i _ => n - (intOf i).toNat)
        case atStart => exact ⟨0, rfl, Nat.zero_le _, B0.out⟩
        case round =>
          clear B0
          obtain ⟨k, rfl, hk, hB⟩ := hrel
          have BB := Lib.hid hB
          have A3 := Lib.hid (A2.out.next hB.below)
          clear hB
          have hlt3 := lt_of_block A3.out.arg
          have x0 := A3.out.arg.cell (j := 0) rfl
          have x1 := A3.out.arg.cell (j := 1) rfl
          by_cases hlt : k < n
          · obtain ⟨b, hb⟩ : ∃ b, bs[k]? = some b := ⟨_, List.getElem?_eq_getElem (by rw [← HN.out]; exact hlt)⟩
            obtain ⟨q, off, rfl, d0⟩ := bcs_get A3.out.row hb
            have hw := num_k (k := k) (by omega)
            have hwk : IntKind.i64.wrap (ba + (k : Int)) = ba + (k : Int) := by have := HQ2.out; exact wrap64L (by omega) (by omega)
            have HKL : Hid ((bs.take k).length = k) := Lib.hid (by rw [List.length_take, ← HN.out]; omega)
            have HPU : Hid (packs ep ba (bs.take (k + 1)) = packs ep ba (bs.take k) ++ [⟨ep, ba + k, b⟩]) := Lib.hid (by rw [List.take_add_one, hb, Option.toList_some, packs_push, HKL.out])
            have HPL : Hid ((packs ep ba (bs.take k)).length ≤ 8) := Lib.hid (by rw [packs_len, HKL.out]; have := HQ2.out; omega)
            obtain ⟨ms, hms⟩ : ∃ ms, ms = packs ep ba (bs.take k) := ⟨_, rfl⟩
            rw [← hms] at BB HPU HPL
            clear hb hms
            go_wp2_with (at_builtin; refine hold_mk ?_)
            refine hold_out ?_
            have hro := one_rowP wr ⟨ep, ba + k, b⟩
            have hb2 := below_al (o := .cells (pkC ⟨ep, ba + k, b⟩) 26) (Below.refl wr.heap.size wr)
            refine wpPushP rfl _ _ rfl u4 ms rfl (BB.out.up hb2) _ 1 1 [⟨ep, ba + k, b⟩] rfl hro rfl (by have := HPL.out; simp; omega) ?_
            intro v9 w9 bt9 hg9 hat9
            have HBB := Lib.hid bt9
            clear bt9 hg9 hat9 hb2 hro x0 x1 d0
            go_wp2_with fail
            go_roundw
            case rel => exact ⟨k + 1, rfl, by omega, by rw [HPU.out]; exact HBB.out⟩
            case measure => simp [intOf]; omega
          · have hge : n ≤ k := by omega
            have HTK : Hid (bs.take k = bs) := Lib.hid (List.take_of_length_le (by rw [← HN.out]; exact hge))
            rw [HTK.out] at BB
            obtain ⟨PS, hPS⟩ : ∃ PS, PS = packs ep ba bs := ⟨_, rfl⟩
            rw [← hPS] at BB ho2
            obtain ⟨m, hm⟩ : ∃ m, m = PS.length := ⟨_, rfl⟩
            have HM := Lib.hid hm
            have hfar : ∀ q, u4.ownBlock = some q → wo.heap.size ≤ q := fun q e => (BB.out.far e).1
            have hlr := lt_of_block A2.out.res
            have hfr : u4.ownBlock ≠ some (w.heap.size + 1) := fun e => by have := hfar _ e; omega
            have OWN4 := Lib.hid (fun z0 z1 z2 z3 => own_setL (own_setL (own_setL (own_setL BB.out.own ⟨w.heap.size + 1, 0, none⟩ hfr z0) ⟨w.heap.size + 1, 1, none⟩ hfr z1) ⟨w.heap.size + 1, 2, none⟩ hfr z2) ⟨w.heap.size + 1, 3, none⟩ hfr z3)
            obtain ⟨AA, ac, hv, a1, a2, _, _, _⟩ := own_form BB.out.own (by omega)
            rw [← hm] at hv a1
            subst hv
            have x2 := A3.out.arg.cell (j := 2) rfl; have x3 := A3.out.arg.cell (j := 3) rfl
            have y0 := A3.out.res.cell (j := 0) rfl; have y1 := A3.out.res.cell (j := 1) rfl; have y2 := A3.out.res.cell (j := 2) rfl; have y3 := A3.out.res.cell (j := 3) rfl
            have z0 := A3.out.res.free 0; have z1 := A3.out.res.free 1; have z2 := A3.out.res.free 2; have z3 := A3.out.res.free 3
            have A11 := Lib.hid (And.intro a1 a2)
            clear hm a1 a2 hPS hfar hfr
            go_wp2_with fail
            exact tick_retL rfl rfl rfl (lies_set4L A3.out.res _ _ _ _) ho2.out HN.out HM.out HCAP.out.1 HCAP.out.2 (HROW.out.below (below_set4L A3.out.below (by omega) _ _ _ _)) A11.out.1 A11.out.2 (row_of_ownL (HM.out ▸ OWN4.out _ _ _ _) (by omega)) (below_set4L A3.out.below (by omega) _ _ _ _)
end Lk
end Go.Proofs.Ytbdlmokgmgpbfaa
