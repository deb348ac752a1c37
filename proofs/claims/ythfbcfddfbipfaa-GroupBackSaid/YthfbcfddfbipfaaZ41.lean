/- GroupGetR, put together. -/
import Derived.Test.YthfbcfddfbipfaaZ39
import Derived.Test.YthfbcfddfbipfaaZ31
/- Get of the reference. -/
namespace Go.Proofs.Ythfbcfddfbipfaa
open Go.RowKit
open Itm Vlq
set_option linter.unusedVariables false
set_option maxRecDepth 8000
namespace Grp
open Pan (Pn Pl)
theorem own_but {w w' : World} {B g size n : Nat} {e : TypeId} {v : Value} {xs : List Value} (h : w.ownsRow B e size v n xs) (hb : But g w w') (hg : g < B) : w'.ownsRow B e size v n xs := by
  obtain ⟨hl, ⟨rfl, rfl⟩ | ⟨b, cap, cur, rfl, hB, hh, hn, hm, hc, hx⟩⟩ := h
  · exact ⟨hl, .inl ⟨rfl, rfl⟩⟩
  · exact ⟨hl, .inr ⟨b, cap, cur, rfl, hB, (hb.block b (Array.getElem?_eq_some_iff.1 hh).1 (by omega)).trans hh, hn, hm, hc, hx⟩⟩
/-- The blocks that every step keeps: the answer, the reader. -/
structure RAt (w0 : World) (s : ByteArray) (st : Nat × Nat) (w : World) : Prop where
  res : Lies w0.heap.size (gpC 0 0 (.slice none 0 0)) 26 w
  rd : RdAt 95 (w0.heap.size + 1) s (st.1 : Nat) (st.2 : Nat) w
  below : Below w0.heap.size w0 w
  size : w0.heap.size + 1 < w.heap.size
namespace RAt
variable {w0 w w' : World} {s : ByteArray} {st st' : Nat × Nat}
theorem took (h : RAt w0 s st w) (hr : RdAt 95 (w0.heap.size + 1) s (st'.1 : Nat) (st'.2 : Nat) w') (hb : But (w0.heap.size + 1) w w') : RAt w0 s st' w' :=
  ⟨h.res.but (by omega) hb, hr, hb.below h.below (by omega) (by have := h.size; omega), by have := h.size; have := hb.size; omega⟩
theorem next (h : RAt w0 s st w) (hb : Below w.heap.size w w') : RAt w0 s st w' :=
  ⟨h.res.below hb, h.rd.below hb, below_next h.below hb, by have := h.size; have := hb.size; omega⟩
theorem other (h : RAt w0 s st w) {p : Addr} (hp : w0.heap.size + 1 < p.block) (v : Value) : RAt w0 s st (w.setCell p v) := by
  refine ⟨?_, ?_, h.below.setCell (by omega) _, by simpa using h.size⟩
  · exact (Below.heap_setCell w p v w0.heap.size (by omega)).trans h.res
  · exact (Below.heap_setCell w p v (w0.heap.size + 1) (by omega)).trans h.rd
theorem apart {B : Nat} (h : RAt w0 s st w) (hb : Below B w w') (hB : w0.heap.size + 1 < B) : RAt w0 s st w' :=
  ⟨(hb.block _ (by omega)).trans h.res, (hb.block _ (by omega)).trans h.rd, ⟨hb.os.trans h.below.os, hb.tape.trans h.below.tape, hb.output.trans h.below.output, Nat.le_trans h.below.size hb.size, fun k hk => (hb.block k (by omega)).trans (h.below.block k hk)⟩, by have := h.size; have := hb.size; omega⟩
end RAt
/-- Where the loop over panes stands. -/
structure GrR (w0 : World) (s : ByteArray) (st : Nat × Nat) (Q : Nat) (no mark : Int) (j : Nat) (sv : Value) (w : World) : Prop where
  at_ : RAt w0 s (pnI s st j).2 w
  gp : Lies Q (gpC no mark sv) 26 w
  own : w.ownsRow (Q + 1) 59 6 sv (pnI s st j).1.length (pc (pnI s st j).1)
  q : w0.heap.size + 1 < Q
/-- Where a round stands. -/
structure PR (w0 : World) (s : ByteArray) (Q : Nat) (no mark : Int) (sv : Value) (xs : List Pn) (P : Nat) (x : Pn) (st : Nat × Nat) (w : World) : Prop where
  at_ : RAt w0 s st w
  gp : Lies Q (gpC no mark sv) 26 w
  own : w.ownsRow (Q + 1) 59 6 sv xs.length (pc xs)
  pn : Lies P (paC x) 59 w
  far : sv.ownBlock ≠ some P
  q : w0.heap.size + 1 < Q
  hp : Q < P
namespace PR
variable {w0 w w' : World} {s : ByteArray} {Q P : Nat} {no mark : Int} {sv : Value} {xs : List Pn} {x : Pn} {st st' : Nat × Nat}
theorem took (h : PR w0 s Q no mark sv xs P x st w) (hr : RdAt 95 (w0.heap.size + 1) s (st'.1 : Nat) (st'.2 : Nat) w') (hb : But (w0.heap.size + 1) w w') : PR w0 s Q no mark sv xs P x st' w' := by
  have hq := h.q; have hp := h.hp
  exact ⟨h.at_.took hr hb, h.gp.but (by omega) hb, own_but h.own hb (by omega), h.pn.but (by omega) hb, h.far, hq, hp⟩
theorem put (h : PR w0 s Q no mark sv xs P x st w) (j : Nat) (v : Value) (x' : Pn) (hx : (paC x).setIfInBounds j v = paC x') : PR w0 s Q no mark sv xs P x' st (w.setCell ⟨P, j, none⟩ v) := by
  have hq := h.q; have hp := h.hp
  exact ⟨h.at_.other (by show _ < P; omega) _, h.gp.other (by omega) _ _, own_set h.own ⟨P, j, none⟩ h.far v, hx ▸ h.pn.set j v, h.far, hq, hp⟩
end PR
theorem GrR.first {w0 : World} {s : ByteArray} {st : Nat × Nat} {Q : Nat} {no mark : Int} {j : Nat} {sv : Value} {w : World} (h : GrR w0 s st Q no mark j sv w) :
    PR w0 s Q no mark sv (pnI s st j).1 w.heap.size ⟨⟨0, 0, []⟩, ⟨0, 0, 0⟩⟩ (pnI s st j).2 (w.alloc (.cells (paC ⟨⟨0, 0, []⟩, ⟨0, 0, 0⟩⟩) 59)) := by
  have hb := below_al (o := .cells (paC ⟨⟨0, 0, []⟩, ⟨0, 0, 0⟩⟩) 59) (Below.refl w.heap.size w)
  exact ⟨h.at_.next hb, h.gp.below hb, own_up h.own hb, Lies.new w _ _, fun e => by have := (h.own.lt _ e).2; omega, h.q, lt_of_block h.gp⟩
theorem rgetc_ret {w wF : World} {R : Nat} {o : Gp × Nat} {A : Option Addr} {c : Nat} {act : Act} (ht : act.tmps.getD 2 undef = .pointer (some ⟨R, 0, none⟩)) (hs : act.tmps.getD 3 undef = .int .i64 (o.2 : Nat)) (hd : act.defers = [])
    (hL : Lies R (gpC o.1.no o.1.mark (.slice A o.1.ps.length c)) 26 wF) (h1 : o.1.ps.length ≤ c) (h2 : c ≤ maxLen) (h5 : Row wF A (pc o.1.ps)) (hB : Below w.heap.size w wF) :
    bodyPost Try.prog Try.f24 (GivesGE o w) .ret act wF := by
  have c0 := hL.cell (j := 0) rfl
  have c1 := hL.cell (j := 1) rfl
  have c2 := hL.cell (j := 2) rfl
  refine bodyPost_ret (v := .tuple #[gpV o.1.no o.1.mark (.slice A o.1.ps.length c), .int .i64 (o.2 : Nat)]) ?_ hd ⟨A, c, rfl, h1, h2, h5, hB⟩
  have ht2 : act.tmps[2]?.getD undef = .pointer (some ⟨R, 0, none⟩) := by simpa using ht
  have hs2 : act.tmps[3]?.getD undef = .int .i64 (o.2 : Nat) := by simpa using hs
  simp [results, Try.results24, go_sem, ht2, hs2, c0, c1, c2]
theorem rgetc_end {w W : World} {o : Gp × Nat} {A : Option Addr} {c : Nat} {a0 b0 : Int} {v0 : Value} {act : Act} (ht : act.tmps.getD 2 undef = .pointer (some ⟨w.heap.size, 0, none⟩)) (hs : act.tmps.getD 3 undef = .int .i64 (o.2 : Nat)) (hd : act.defers = [])
    (hL : Lies w.heap.size (gpC a0 b0 v0) 26 W) (h1 : o.1.ps.length ≤ c) (h2 : c ≤ maxLen) (h5 : Row W A (pc o.1.ps)) (hB : Below w.heap.size w W) :
    bodyPost Try.prog Try.f24 (GivesGE o w) .ret act (set3 W w.heap.size o.1.no o.1.mark (.slice A o.1.ps.length c)) :=
  rgetc_ret ht hs hd (Lies.set3 hL _ _ _) h1 h2 (row_set3 h5 hL (pc_big _) _ _ _) (below_set3 hB (Nat.le_refl _) _ _ _)
theorem rgetc_noned {w W : World} {err : Nat} {a0 b0 : Int} {v0 : Value} {act : Act} (ht : act.tmps.getD 2 undef = .pointer (some ⟨w.heap.size, 0, none⟩)) (hs : act.tmps.getD 3 undef = .int .i64 (err : Nat)) (hd : act.defers = [])
    (hL : Lies w.heap.size (gpC a0 b0 v0) 26 W) (hB : Below w.heap.size w W) :
    bodyPost Try.prog Try.f24 (GivesGE (none_, err) w) .ret act (set3 W w.heap.size 0 0 (.slice none 0 0)).drew :=
  rgetc_ret (o := (none_, err)) (A := none) (c := 0) ht hs hd (Lies.set3 hL _ _ _) (Nat.le_refl _) (by simp [maxLen]) Row.nil (below_drewOf (below_set3 hB (Nat.le_refl _) _ _ _))
set_option maxRecDepth 100000 in
set_option maxHeartbeats 4000000 in
theorem rfGetG (s : ByteArray) (hs : s.size ≤ 140737488355328) (w : World) : Calls Try.prog 24 #[.string s] w (GivesGE (getG s) w) := by
  obtain ⟨⟨a, p1⟩, hK1⟩ : ∃ K, K = numS s (0, 0) := ⟨_, rfl⟩
  obtain ⟨⟨b, p2⟩, hK2⟩ : ∃ K, K = numS s p1 := ⟨_, rfl⟩
  obtain ⟨⟨m, st⟩, hK3⟩ : ∃ K, K = numS s p2 := ⟨_, rfl⟩
  have t1 : p1.1 ≤ s.size := by have h := numS_to s (0, 0) (Nat.zero_le _); rwa [← hK1] at h
  have t2 : p2.1 ≤ s.size := by have h := numS_to s p1 t1; rwa [← hK2] at h
  have t3 : st.1 ≤ s.size := by have h := numS_to s p2 t2; rwa [← hK3] at h
  have hgr : getG s = if 2000 < m then (none_, 1) else outG ⟨min (a : Int) 32, (b : Int), (pnI s st m).1⟩ (pnI s st m).2.1 (pnI s st m).2.2 s.size := by
    rw [getG_eq]
    unfold grS
    rw [← hK1]
    simp only
    rw [← hK2]
    simp only
    rw [← hK3]
    simp only
    split
    · rfl
    · rfl
  have hbig : 2000 < m → st.2 = 0 := fun h => by
    rcases Nat.eq_zero_or_pos st.2 with h1 | h1
    · exact h1
    · have h2 := numS_val0 (s := s) (p := p2) (by rw [← hK3]; show st.2 ≠ 0; omega)
      rw [← hK3] at h2
      simp only at h2
      omega
  have hm2 : (m : Int) ≤ 9223372036854775807 := by have h := numS_le s p2; rwa [← hK3] at h
  have TO := Lib.hid (And.intro t1 (And.intro t2 t3))
  have HGR := Lib.hid hgr
  have HBIG := Lib.hid hbig
  have A0 := Lib.hid (show RAt w s (0, 0) ((w.alloc (.cells (gpC 0 0 (.slice none 0 0)) 26)).alloc (.cells #[.string s, .int .i64 0, .int .i64 0] 95)) from
    ⟨(Lies.new w _ _).al, lies_two _ _ _ _, below_al (below_al (Below.refl w.heap.size w)), by simp⟩)
  have HC1 := Lib.hid (fun w' (h : RAt w s (0, 0) w') => by have h := rfNumber _ s hs 0 0 (Nat.zero_le _) w' h.rd; rw [← hK1] at h; exact h)
  have HC2 := Lib.hid (fun w' (h : RAt w s p1 w') => by have h := rfNumber _ s hs p1.1 p1.2 t1 w' h.rd; rw [← hK2] at h; exact h)
  have HC3 := Lib.hid (fun w' (h : RAt w s p2 w') => by have h := rfNumber _ s hs p2.1 p2.2 t2 w' h.rd; rw [← hK3] at h; exact h)
  clear hgr hbig t1 t2 t3 hK1 hK2 hK3
  go_enter Try.func24, Try.ntmps24
  go_wp2_with fail
  refine (HC1.out _ A0.out).mono ?_
  rintro e w1 ⟨rfl, hr1, hb1⟩
  have A1 := Lib.hid (A0.out.took hr1 hb1)
  clear hr1 hb1
  go_wp2_with fail
  refine (HC2.out _ A1.out).mono ?_
  rintro e w2 ⟨rfl, hr2, hb2⟩
  have A2 := Lib.hid (A1.out.took hr2 hb2)
  clear hr2 hb2
  go_wp2_with fail
  refine (HC3.out _ A2.out).mono ?_
  rintro e w3 ⟨rfl, hr3, hb3⟩
  have A3 := Lib.hid (A2.out.took hr3 hb3)
  clear hr3 hb3 HC1 HC2 HC3
  have d2 := A3.out.rd.c2
  have r0 := A3.out.res.cell (j := 0) rfl; have r1 := A3.out.res.cell (j := 1) rfl; have r2 := A3.out.res.cell (j := 2) rfl
  have f0 := A3.out.res.free 0; have f1 := A3.out.res.free 1; have f2 := A3.out.res.free 2
  by_cases hm : 2000 < m
  · have h0 := HBIG.out hm
    have HO := HGR.out
    rw [if_pos hm] at HO
    have HO := Lib.hid HO
    have e0 := eq_b (show ((st.2 : Nat) : Int) = 0 by omega)
    have e1 : (2000 : Int) < m := by omega
    clear hm h0
    go_wp2_with fail
    rw [HO.out]
    exact rgetc_end (o := (none_, 1)) (A := none) (c := 0) rfl rfl rfl A3.out.res (Nat.le_refl _) (by simp [maxLen]) Row.nil A3.out.below
  have hg1 := HGR.out
  rw [if_neg hm] at hg1
  have HG2 := Lib.hid hg1
  clear HGR hg1
  clear hm2
  have hm2 : (m : Int) ≤ 2000 := by omega
  have e1 : ¬ (2000 : Int) < m := by omega
  have Q1 := Lib.hid (show w.heap.size + 1 < w3.heap.size from A3.out.size)
  have hws : ∃ bb : Bool, bb = (((st.2 : Nat) : Int) == 0) := ⟨_, rfl⟩
  obtain ⟨bb, hbb⟩ := hws
  have e0 : (((st.2 : Nat) : Int) == 0) = bb := hbb.symm
  clear r0 r1 r2 f0 f1 f2 hbb hm HBIG A0 A1 A2
  cases bb
  all_goals (
    go_upto_if 33 with fail
    go_cut [] from 34 (fun wc => GrR w s st w3.heap.size (min (a : Int) 32) (b : Int) 0 (.slice none 0 0) wc)
    case first =>
      by_cases h : a < 32
      · have h1 : (a : Int) < 32 := by omega
        have hmin : min (a : Int) 32 = (a : Int) := by omega
        clear h
        go_wp2_with fail
        go_meet
        case rel =>
          rw [hmin]
          exact ⟨A3.out.next (below_al (Below.refl _ _)), Lies.new w3 _ _, own_none, Q1.out⟩
      · have h1 : ¬ (a : Int) < 32 := by omega
        have hmin : min (a : Int) 32 = 32 := by omega
        clear h
        go_wp2_with fail
        go_meet
        case rel =>
          rw [hmin]
          exact ⟨A3.out.next (below_al (Below.refl _ _)), Lies.new w3 _ _, own_none, Q1.out⟩
    case rest =>
      have HC := Lib.hid hcut
      clear hcut e0 e1
      go_wp2_with fail
      go_loopw [9] (fun i wr => ∃ (j : Nat) (sv : Value), i = .int .i64 j ∧ j ≤ m ∧ GrR w s st w3.heap.size (min (a : Int) 32) (b : Int) j sv wr) (fun i _ => m - (intOf i).toNat)
      case atStart => exact ⟨0, _, rfl, Nat.zero_le _, HC.out⟩
      case round =>
        obtain ⟨j, sv, rfl, hj, hG⟩ := hrel
        obtain ⟨⟨xs, sp, se⟩, hP⟩ : ∃ K, K = pnI s st j := ⟨_, rfl⟩
        have HG := Lib.hid hG
        obtain ⟨hA, hL, hO, hQ⟩ := hG
        rw [← hP] at hA hO
        simp only at hA hO
        obtain ⟨A, c, rfl, h1, h2, hl6, h3, _⟩ := own_form hO (by omega)
        have AT := Lib.hid hA
        have LQ := Lib.hid hL
        have d1 := hA.rd.c1; have d2 := hA.rd.c2
        have g0 : wr.cell? ⟨w3.heap.size, 0, none⟩ = some (.int .i64 (min (a : Int) 32)) := hL.cell (j := 0) rfl
        have g1 : wr.cell? ⟨w3.heap.size, 1, none⟩ = some (.int .i64 (b : Int)) := hL.cell (j := 1) rfl
        have g2 : wr.cell? ⟨w3.heap.size, 2, none⟩ = some (.slice A xs.length c) := hL.cell (j := 2) rfl
        have r0 := hA.res.cell (j := 0) rfl; have r1 := hA.res.cell (j := 1) rfl; have r2 := hA.res.cell (j := 2) rfl
        have f0 := hA.res.free 0; have f1 := hA.res.free 1; have f2 := hA.res.free 2
        have HOW := Lib.hid hO
        have HPP := Lib.hid hP
        have HL := Lib.hid (And.intro h1 h2); have HROW := Lib.hid h3
        clear hA hL hO hP h1 h2 h3 hl6
        have hx3 : (j < m ∧ se = 0) ∨ (j < m ∧ se ≠ 0) ∨ (¬ j < m) := by omega
        rcases hx3 with ⟨hlt, h0⟩ | hx3
        · subst h0
          have hj20 : j ≤ 2000 := by omega
          have hxl : xs.length ≤ 2000 := by
            have h := pnI_len s st j
            rw [← HPP.out] at h
            simp only at h
            omega
          have hsp : sp ≤ s.size := by
            have h := pnI_to TO.out.2.2 j
            rw [← HPP.out] at h
            exact h
          have e0 := eq_b (show ((0 : Nat) : Int) = 0 from rfl)
          have ew : IntKind.i64.wrap ((j : Int) + 1) = (j : Int) + 1 := wrap64_in (by omega) (by omega)
          have HJ := Lib.hid (And.intro hj20 hxl)
          obtain ⟨no, hno⟩ : ∃ no, no = min (a : Int) 32 := ⟨_, rfl⟩
          rw [← hno] at HG g0 LQ ⊢
          clear hj20 hxl r0 r1 r2 f0 f1 f2 g0 g1 g2 d1 HC HROW HL HG2
          have P1 := Lib.hid (show PR w s w3.heap.size no (b : Int) (.slice A xs.length c) xs wr.heap.size ⟨⟨0, 0, []⟩, ⟨0, 0, 0⟩⟩ (sp, 0) _ from by
            have h := HG.out.first
            rw [← HPP.out] at h; exact h)
          obtain ⟨⟨v1, k1⟩, hK1⟩ : ∃ K, K = txtS s (sp, 0) := ⟨_, rfl⟩
          have HC1 := Lib.hid (show Calls Try.prog 56 #[.pointer (some ⟨w.heap.size + 1, 0, none⟩)] _ (Took 95 (w.heap.size + 1) s (.string (kS v1)) (k1.1 : Nat) (k1.2 : Nat) _) from by
            have h := rfTextR _ s hs sp 0 hsp _ P1.out.at_.rd
            rw [← hK1] at h; exact h)
          have hl1 : k1.1 ≤ s.size := by have h := txtS_to s (sp, 0) hsp; rwa [← hK1] at h
          have HK1 := Lib.hid hK1; have HL1 := Lib.hid hl1
          clear hK1 hl1 hsp
          go_wp2_with fail
          refine HC1.out.mono ?_
          rintro e w6 ⟨rfl, hr, hb⟩
          have S1 := Lib.hid (P1.out.took hr hb)
          clear hr hb
          have y1 := S1.out.pn.cell (j := 2) rfl; have z1 := S1.out.pn.free 2
          have P2 := Lib.hid (S1.out.put 2 (.string (kS v1)) ⟨⟨0, 0, v1⟩, ⟨0, 0, 0⟩⟩ rfl)
          obtain ⟨⟨v2, k2⟩, hK2⟩ : ∃ K, K = numS s k1 := ⟨_, rfl⟩
          have HC2 := Lib.hid (show Calls Try.prog 55 #[.pointer (some ⟨w.heap.size + 1, 0, none⟩)] _ (Took 95 (w.heap.size + 1) s (.int .i64 (v2 : Nat)) (k2.1 : Nat) (k2.2 : Nat) _) from by
            have h := rfNumber _ s hs k1.1 k1.2 HL1.out _ P2.out.at_.rd
            rw [← hK2] at h; exact h)
          have hl2 : k2.1 ≤ s.size := by have h := numS_to s k1 HL1.out; rwa [← hK2] at h
          have HK2 := Lib.hid hK2; have HL2 := Lib.hid hl2
          clear hK2 hl2
          go_wp2_with fail
          refine HC2.out.mono ?_
          rintro e w7 ⟨rfl, hr, hb⟩
          have S2 := Lib.hid (P2.out.took hr hb)
          clear hr hb y1 z1
          have y2 := S2.out.pn.cell (j := 0) rfl; have z2 := S2.out.pn.free 0
          have P3 := Lib.hid (S2.out.put 0 (.int .i64 (v2 : Nat)) ⟨⟨(v2 : Nat), 0, v1⟩, ⟨0, 0, 0⟩⟩ rfl)
          obtain ⟨⟨v3, k3⟩, hK3⟩ : ∃ K, K = numS s k2 := ⟨_, rfl⟩
          have HC3 := Lib.hid (show Calls Try.prog 55 #[.pointer (some ⟨w.heap.size + 1, 0, none⟩)] _ (Took 95 (w.heap.size + 1) s (.int .i64 (v3 : Nat)) (k3.1 : Nat) (k3.2 : Nat) _) from by
            have h := rfNumber _ s hs k2.1 k2.2 HL2.out _ P3.out.at_.rd
            rw [← hK3] at h; exact h)
          have hl3 : k3.1 ≤ s.size := by have h := numS_to s k2 HL2.out; rwa [← hK3] at h
          have HK3 := Lib.hid hK3; have HL3 := Lib.hid hl3
          clear hK3 hl3
          go_wp2_with fail
          refine HC3.out.mono ?_
          rintro e w8 ⟨rfl, hr, hb⟩
          have S3 := Lib.hid (P3.out.took hr hb)
          clear hr hb y2 z2
          have y3 := S3.out.pn.cell (j := 1) rfl; have z3 := S3.out.pn.free 1
          have P4 := Lib.hid (S3.out.put 1 (.int .i64 (v3 : Nat)) ⟨⟨(v2 : Nat), (v3 : Nat), v1⟩, ⟨0, 0, 0⟩⟩ rfl)
          obtain ⟨⟨v4, k4⟩, hK4⟩ : ∃ K, K = numS s k3 := ⟨_, rfl⟩
          have HC4 := Lib.hid (show Calls Try.prog 55 #[.pointer (some ⟨w.heap.size + 1, 0, none⟩)] _ (Took 95 (w.heap.size + 1) s (.int .i64 (v4 : Nat)) (k4.1 : Nat) (k4.2 : Nat) _) from by
            have h := rfNumber _ s hs k3.1 k3.2 HL3.out _ P4.out.at_.rd
            rw [← hK4] at h; exact h)
          have hl4 : k4.1 ≤ s.size := by have h := numS_to s k3 HL3.out; rwa [← hK4] at h
          have HK4 := Lib.hid hK4; have HL4 := Lib.hid hl4
          clear hK4 hl4
          go_wp2_with fail
          refine HC4.out.mono ?_
          rintro e w9 ⟨rfl, hr, hb⟩
          have S4 := Lib.hid (P4.out.took hr hb)
          clear hr hb y3 z3
          have y4 := S4.out.pn.cell (j := 3) rfl; have z4 := S4.out.pn.free 3
          have P5 := Lib.hid (S4.out.put 3 (.int .i64 (v4 : Nat)) ⟨⟨(v2 : Nat), (v3 : Nat), v1⟩, ⟨(v4 : Nat), 0, 0⟩⟩ rfl)
          obtain ⟨⟨v5, k5⟩, hK5⟩ : ∃ K, K = sgnS s k4 := ⟨_, rfl⟩
          have HC5 := Lib.hid (show Calls Try.prog 57 #[.pointer (some ⟨w.heap.size + 1, 0, none⟩)] _ (Took 95 (w.heap.size + 1) s (.int .i64 (un v5)) (k5.1 : Nat) (k5.2 : Nat) _) from by
            have h := rfSigned _ s hs k4.1 k4.2 HL4.out _ P5.out.at_.rd
            rw [← hK5] at h; exact h)
          have hl5 : k5.1 ≤ s.size := by have h := sgnS_to s k4 HL4.out; rwa [← hK5] at h
          have HK5 := Lib.hid hK5; have HL5 := Lib.hid hl5
          clear hK5 hl5
          go_wp2_with fail
          refine HC5.out.mono ?_
          rintro e w10 ⟨rfl, hr, hb⟩
          have S5 := Lib.hid (P5.out.took hr hb)
          clear hr hb y4 z4
          have y5 := S5.out.pn.cell (j := 4) rfl; have z5 := S5.out.pn.free 4
          have P6 := Lib.hid (S5.out.put 4 (.int .i64 (un v5)) ⟨⟨(v2 : Nat), (v3 : Nat), v1⟩, ⟨(v4 : Nat), un v5, 0⟩⟩ rfl)
          obtain ⟨⟨v6, k6⟩, hK6⟩ : ∃ K, K = sgnS s k5 := ⟨_, rfl⟩
          have HC6 := Lib.hid (show Calls Try.prog 57 #[.pointer (some ⟨w.heap.size + 1, 0, none⟩)] _ (Took 95 (w.heap.size + 1) s (.int .i64 (un v6)) (k6.1 : Nat) (k6.2 : Nat) _) from by
            have h := rfSigned _ s hs k5.1 k5.2 HL5.out _ P6.out.at_.rd
            rw [← hK6] at h; exact h)
          have hl6 : k6.1 ≤ s.size := by have h := sgnS_to s k5 HL5.out; rwa [← hK6] at h
          have HK6 := Lib.hid hK6; have HL6 := Lib.hid hl6
          clear hK6 hl6
          go_wp2_with fail
          refine HC6.out.mono ?_
          rintro e w11 ⟨rfl, hr, hb⟩
          have S6 := Lib.hid (P6.out.took hr hb)
          clear hr hb y5 z5
          have y6 := S6.out.pn.cell (j := 5) rfl; have z6 := S6.out.pn.free 5
          have P7 := Lib.hid (S6.out.put 5 (.int .i64 (un v6)) ⟨⟨(v2 : Nat), (v3 : Nat), v1⟩, ⟨(v4 : Nat), un v5, un v6⟩⟩ rfl)
          have HPN := Lib.hid (show pnS s (sp, 0) = (⟨⟨(v2 : Nat), (v3 : Nat), v1⟩, ⟨(v4 : Nat), un v5, un v6⟩⟩, k6) from by unfold pnS; simp only [← HK1.out, ← HK2.out, ← HK3.out, ← HK4.out, ← HK5.out, ← HK6.out])
          clear y6
          have y0 := S6.out.pn.cell (j := 0) rfl; have y1 := S6.out.pn.cell (j := 1) rfl; have y2 := S6.out.pn.cell (j := 2) rfl; have y3 := S6.out.pn.cell (j := 3) rfl; have y4 := S6.out.pn.cell (j := 4) rfl; have y5 := S6.out.pn.cell (j := 5) rfl
          have g2 := S6.out.gp.cell (j := 2) rfl
          have hqp := S6.out.hp
          obtain ⟨i0, hi0, hz0, hz1, hz2⟩ := info_parts paInfo
          have HI0 := Lib.hid hi0; have HZ0 := Lib.hid hz0; have HZ1 := Lib.hid hz1; have HZ2 := Lib.hid hz2
          clear hi0 hz0 hz1 hz2
          go_wp2_with (at_builtin; refine hold_mk ?_)
          refine hold_out ?_
          have hxl := HJ.out.2
          obtain ⟨x, hx⟩ : ∃ x : Pn, x = ⟨⟨(v2 : Nat), (v3 : Nat), v1⟩, ⟨(v4 : Nat), un v5, un v6⟩⟩ := ⟨_, rfl⟩
          have P7 := Lib.hid (show PR w s w3.heap.size no (b : Int) (.slice A xs.length c) xs wr.heap.size x k6 (w11.setCell ⟨wr.heap.size, 5, none⟩ (.int .i64 (un v6))) from hx ▸ P7.out)
          rw [← hx] at HPN
          refine wpApp rfl _ _ 24 rfl (w3.heap.size + 1) 59 i0 _ 6 56 Try.underlying24 HI0.out HZ0.out HZ1.out HZ2.out rfl (by omega) _ xs.length (pc xs) rfl (own_up P7.out.own (below_al (Below.refl _ _))) _ 1 1 (pc [x]) rfl (by have h := one_row (w11.setCell ⟨wr.heap.size, 5, none⟩ (.int .i64 (un v6))) x; rw [World.size_setCell, hx] at h; rw [hx]; exact h) (by simp [pc_len]) (pc_ones _)
            (by unfold maxLen; omega) (by omega) (by have := lt_of_block P7.out.gp; simp only [World.size_alloc, World.size_setCell] at this ⊢; omega) ?_
          intro v9 w9 hown9 hb9
          rw [← pc_app, show xs.length + 1 = (xs ++ [x]).length by simp] at hown9
          obtain ⟨ys, hys⟩ : ∃ ys, ys = xs ++ [x] := ⟨_, rfl⟩
          rw [← hys] at hown9
          have HYS := Lib.hid hys
          obtain ⟨A9, c9, rfl, l9, m9, _, R9, _⟩ := own_form hown9 (by omega)
          have HO9 := Lib.hid hown9
          have HNX := Lib.hid (show pnI s st (j + 1) = (ys, k6) from by rw [pnI_next, ← HPP.out, if_pos rfl, HPN.out, HYS.out])
          have GP9 := Lib.hid (show Lies w3.heap.size (gpC no (b : Int) (.slice A xs.length c)) 26 w9 from (hb9.block _ (by omega)).trans (P7.out.gp.al))
          have HGA := Lib.hid (show GrR w s st w3.heap.size no (b : Int) (j + 1) (.slice A9 ys.length c9) (w9.setCell ⟨w3.heap.size, 2, none⟩ (.slice A9 ys.length c9)) from by
            have hq := P7.out.q
            refine ⟨?_, GP9.out.set 2 _, ?_, hq⟩
            · rw [HNX.out]; exact ((P7.out.at_.next (below_al (Below.refl _ _))).apart hb9 (by omega)).other hq _
            · rw [HNX.out]; exact own_set HO9.out ⟨w3.heap.size, 2, none⟩ (fun e => by have h : w3.heap.size + 1 ≤ w3.heap.size := (HO9.out.lt _ e).1; omega) (.slice A9 ys.length c9))
          have q2 := GP9.out.cell (j := 2) rfl; have fq := GP9.out.free 2
          clear hown9 hb9 hys y0 y1 y2 y3 y4 y5 z6 g2 l9 m9 R9 hxl hx hqp
          go_wp2_with fail
          go_roundw
          case rel => exact ⟨j + 1, _, by go_num, by omega, HGA.out⟩
          case measure => simp [intOf]; omega
        · have HE2 : pnI s st m = (xs, sp, se) := by
            rcases hx3 with ⟨hlt, h0⟩ | hlt
            · have h := pnI_stop (s := s) (st := st) (j := j) (by rw [← HPP.out]; exact h0) (m - j)
              rw [show j + (m - j) = m by omega, ← HPP.out] at h
              exact h
            · rw [show m = j by omega, ← HPP.out]
          have hE := HG2.out
          rw [HE2] at hE
          simp only at hE
          have HE := Lib.hid hE
          clear HE2 hE
          have hway : (se ≠ 0) ∨ (se = 0 ∧ sp < s.size) ∨ (se = 0 ∧ ¬ sp < s.size ∧ right ⟨min (a : Int) 32, (b : Int), xs⟩ = false) ∨ (se = 0 ∧ ¬ sp < s.size ∧ right ⟨min (a : Int) 32, (b : Int), xs⟩ = true) := by
            cases right ⟨min (a : Int) 32, (b : Int), xs⟩ <;> simp <;> omega
          obtain ⟨no, hno⟩ : ∃ no, no = min (a : Int) 32 := ⟨_, rfl⟩
          rw [← hno] at hway HE LQ g0
          clear hno
          have HRT := Lib.hid (fun w' (hb : Below wr.heap.size wr w') => show Calls Try.prog 17 #[gpV no (b : Int) (.slice A xs.length c)] w' (TellsB (right ⟨no, (b : Int), xs⟩) w') from rfRight ⟨no, (b : Int), xs⟩ A c w' (HROW.out.below hb) (by have l2 : xs.length ≤ c := HL.out.1; have := HL.out.2; unfold maxLen at this; show xs.length ≤ _; omega))
          rcases hway with h0 | ⟨h0, h1⟩ | ⟨h0, h1, h2⟩ | ⟨h0, h1, h2⟩
          · have e0 := nb (show ((se : Nat) : Int) ≠ 0 by omega)
            have e1 := ne_b (show ((se : Nat) : Int) ≠ 0 by omega)
            have HO := Lib.hid (show outG ⟨no, (b : Int), xs⟩ sp se s.size = (none_, se) from if_pos h0)
            clear h0
            rcases hx3 with ⟨hlt, h0⟩ | hlt
            all_goals (
              go_wp2_with fail
              go_region
              all_goals (
                go_wp2_with fail
                rw [HE.out, HO.out]
                exact rgetc_noned rfl rfl rfl AT.out.res AT.out.below))
          · subst h0
            have hlt : ¬ j < m := by rcases hx3 with ⟨_, h0⟩ | h; exact absurd rfl h0; exact h
            have e0 := nb0 (show ((0 : Nat) : Int) = 0 from rfl)
            have HO := Lib.hid (show outG ⟨no, (b : Int), xs⟩ sp 0 s.size = (none_, 21) from by unfold outG; rw [if_neg (by omega), if_pos h1])
            have e1 : (sp : Int) < s.size := by omega
            clear hx3
            go_wp2_with fail
            rw [HE.out, HO.out]
            exact rgetc_end (o := (none_, 21)) (A := none) (c := 0) rfl rfl rfl AT.out.res (Nat.le_refl _) (by simp [maxLen]) Row.nil AT.out.below
          · subst h0
            have hlt : ¬ j < m := by rcases hx3 with ⟨_, h0⟩ | h; exact absurd rfl h0; exact h
            have e0 := nb0 (show ((0 : Nat) : Int) = 0 from rfl)
            have HO := Lib.hid (show outG ⟨no, (b : Int), xs⟩ sp 0 s.size = (none_, 1) from by unfold outG; rw [if_neg (by omega), if_neg h1, if_neg (by rw [h2]; simp)])
            rw [h2] at HRT
            have e1 : ¬ (sp : Int) < s.size := by omega
            clear h2 hx3
            go_wp2_with fail
            refine (HRT.out _ (Below.refl _ _)).mono ?_
            rintro e w5 ⟨rfl, hb5⟩
            have A5 := Lib.hid (AT.out.next hb5)
            clear hb5 r0 r1 r2 f0 f1 f2 d1 d2
            have r0 := A5.out.res.cell (j := 0) rfl; have r1 := A5.out.res.cell (j := 1) rfl; have r2 := A5.out.res.cell (j := 2) rfl
            have f0 := A5.out.res.free 0; have f1 := A5.out.res.free 1; have f2 := A5.out.res.free 2
            go_wp2_with fail
            rw [HE.out, HO.out]
            exact rgetc_end (o := (none_, 1)) (A := none) (c := 0) rfl rfl rfl A5.out.res (Nat.le_refl _) (by simp [maxLen]) Row.nil A5.out.below
          · subst h0
            have hlt : ¬ j < m := by rcases hx3 with ⟨_, h0⟩ | h; exact absurd rfl h0; exact h
            have e0 := nb0 (show ((0 : Nat) : Int) = 0 from rfl)
            have HO := Lib.hid (show outG ⟨no, (b : Int), xs⟩ sp 0 s.size = (⟨no, (b : Int), xs⟩, 0) from by unfold outG; rw [if_neg (by omega), if_neg h1, if_pos h2])
            rw [h2] at HRT
            have e1 : ¬ (sp : Int) < s.size := by omega
            clear h2 hx3
            go_wp2_with fail
            refine (HRT.out _ (Below.refl _ _)).mono ?_
            rintro e w5 ⟨rfl, hb5⟩
            have A5 := Lib.hid (AT.out.next hb5)
            have L5 := Lib.hid (LQ.out.below hb5)
            have R5 := Lib.hid (HROW.out.below hb5)
            clear hb5 r0 r1 r2 f0 f1 f2 d1 d2 g0 g1 g2
            have r0 := A5.out.res.cell (j := 0) rfl; have r1 := A5.out.res.cell (j := 1) rfl; have r2 := A5.out.res.cell (j := 2) rfl
            have f0 := A5.out.res.free 0; have f1 := A5.out.res.free 1; have f2 := A5.out.res.free 2
            have g0 := L5.out.cell (j := 0) rfl; have g1 := L5.out.cell (j := 1) rfl; have g2 := L5.out.cell (j := 2) rfl
            go_wp2_with fail
            rw [HE.out, HO.out]
            exact rgetc_end (o := (⟨no, (b : Int), xs⟩, 0)) rfl rfl rfl A5.out.res HL.out.1 HL.out.2 R5.out A5.out.below)
end Grp
end Go.Proofs.Ythfbcfddfbipfaa
