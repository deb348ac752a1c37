/- GroupGrp, put together. -/
import Derived.Test.YthfbcfddfbipfaaZ37
import Derived.Test.YthfbcfddfbipfaaZ30
import Derived.Lib.MinMax
import Derived.Deep.CutBlock
/- The code's reading of a group. -/
namespace Go.Proofs.Ythfbcfddfbipfaa
open Go.RowKit
open Itm Vlq
set_option linter.unusedVariables false
set_option maxRecDepth 8000
namespace Grp
open Pan (Pn Pl)
theorem grp_ret {w wF : World} {R g : Nat} {s : ByteArray} {o : Gp} {st : Nat × Nat} {A : Option Addr} {c : Nat} {act : Act} (ht : act.tmps.getD 2 undef = .pointer (some ⟨R, 0, none⟩)) (hd : act.defers = [])
    (hL : Lies R (gpC o.no o.mark (.slice A o.ps.length c)) 26 wF) (h1 : o.ps.length ≤ c) (h2 : c ≤ maxLen) (h5 : Row wF A (pc o.ps)) (hr : RdAt 91 g s (st.1 : Nat) (st.2 : Nat) wF) (hB : But g w wF) :
    bodyPost Try.prog Try.f54 (GrOut s g o st w) .ret act wF := by
  have c0 := hL.cell (j := 0) rfl
  have c1 := hL.cell (j := 1) rfl
  have c2 := hL.cell (j := 2) rfl
  refine bodyPost_ret (v := gpV o.no o.mark (.slice A o.ps.length c)) ?_ hd ⟨A, c, rfl, h1, h2, h5, hr, hB⟩
  have ht2 : act.tmps[2]?.getD undef = .pointer (some ⟨R, 0, none⟩) := by simpa using ht
  simp [results, Try.results54, go_sem, ht2, c0, c1, c2]
theorem grp_end {W : World} {F : Fr} {s : ByteArray} {o : Gp} {st : Nat × Nat} {A : Option Addr} {c : Nat} {act : Act} (hE : Env F (.slice A o.ps.length c) W) (hn : o.no = F.no) (hm : o.mark = F.mark) (ht : act.tmps.getD 2 undef = .pointer (some ⟨F.R, 0, none⟩)) (hd : act.defers = [])
    (h1 : o.ps.length ≤ c) (h2 : c ≤ maxLen) (h5 : Row W A (pc o.ps)) (hr : RdAt 91 F.g s (st.1 : Nat) (st.2 : Nat) W) :
    bodyPost Try.prog Try.f54 (GrOut s F.g o st F.w0) .ret act (set3 W F.R o.no o.mark (.slice A o.ps.length c)) := by
  have hR := hE.blk F.R (by simp [Fr.bs])
  have hg : F.g ≠ F.R := by have := hE.g0; omega
  refine grp_ret ht hd (Lies.set3 hE.res _ _ _) h1 h2 (row_set3 h5 hE.res (pc_big _) _ _ _) ?_ (but_new (but_new (but_new hE.but hR.1 _ _) hR.1 _ _) hR.1 _ _)
  exact (Below.heap_setCell _ ⟨F.R, 2, none⟩ _ F.g hg).trans ((Below.heap_setCell _ ⟨F.R, 1, none⟩ _ F.g hg).trans ((Below.heap_setCell _ ⟨F.R, 0, none⟩ _ F.g hg).trans hr))
def Fr.at_ (F : Fr) (B : Nat) : Fr := { F with B := B }
theorem Hd.env {F : Fr} {s : ByteArray} {a : Nat} {w : World} (h : Hd F s a 3 w) (hm : F.mark = nv s (0, 0) 3 1) (hc : F.ct = nv s (0, 0) 3 2) :
    Env (F.at_ w.heap.size) (.slice none 0 0) (w.setCell ⟨F.q, 0, none⟩ (.int .i64 F.no)) := by
  obtain ⟨⟨m1, m2, m3, m4⟩, m5, m6, m7⟩ := Hd.mem F
  have kq : ∀ b ∈ F.ks, b ≠ F.q := fun b hb => by have := (h.blk b hb).2; omega
  have z1 := lt_of_block h.num.inp; have z2 := lt_of_block h.num.get; have z3 := lt_of_block h.sig.inp; have z4 := lt_of_block h.sig.get; have z5 := lt_of_block h.txt.inp; have z6 := lt_of_block h.txt.get
  have z7 := lt_of_block h.ctl; have z8 := lt_of_block h.res; have z9 := lt_of_block h.gp
  have q0 := h.q0
  refine ⟨⟨h.num.inp.other (kq _ m1) _ _, h.num.get.other (kq _ m2) _ _, h.num.n1, h.num.n2⟩, ⟨h.sig.inp.other (kq _ m3) _ _, h.sig.get.other (kq _ m4) _ _, h.sig.n1, h.sig.n2⟩, ⟨h.txt.inp.other (kq _ m5) _ _, h.txt.get.other (kq _ m6) _ _, h.txt.n1, h.txt.n2⟩,
    ?_, ?_, h.res.other (kq _ m7) _ _, but_new h.but h.q0 _ _, h.g0, ⟨h.q0, z9⟩, ?_, by simp [Fr.at_]⟩
  · show Lies F.q (gpC F.no F.mark _) _ _
    rw [hm]; exact h.gp.set 0 _
  · show Lies (F.q + 2) #[.int .i64 F.ct] _ _
    rw [hc]; exact h.ctl.other (by omega) _ _
  · intro b hb
    simp only [Fr.bs, Fr.at_, List.mem_cons, List.not_mem_nil, or_false] at hb
    show F.w0.heap.size ≤ b ∧ b < w.heap.size ∧ b ≠ F.q
    rcases hb with rfl | rfl | rfl | rfl | rfl | rfl | rfl | rfl
    · exact ⟨(h.blk _ m1).1, z1, kq _ m1⟩
    · exact ⟨(h.blk _ m2).1, z2, kq _ m2⟩
    · exact ⟨(h.blk _ m3).1, z3, kq _ m3⟩
    · exact ⟨(h.blk _ m4).1, z4, kq _ m4⟩
    · exact ⟨(h.blk _ m5).1, z5, kq _ m5⟩
    · exact ⟨(h.blk _ m6).1, z6, kq _ m6⟩
    · exact ⟨by omega, z7, by omega⟩
    · exact ⟨(h.blk _ m7).1, z8, kq _ m7⟩
theorem Env.err {F : Fr} {sv : Value} {w : World} (h : Env F sv w) (x : Int) : Env F sv (w.setCell ⟨F.g, 2, none⟩ (.int .i64 x)) := by
  obtain ⟨⟨m1, m2, m3, m4⟩, m5, m6, m7, m8⟩ := h.mem
  have k : ∀ b ∈ F.bs, b ≠ F.g := fun b hb => h.g_ne hb
  exact ⟨⟨h.num.inp.other (k _ m1) _ _, h.num.get.other (k _ m2) _ _, h.num.n1, h.num.n2⟩, ⟨h.sig.inp.other (k _ m3) _ _, h.sig.get.other (k _ m4) _ _, h.sig.n1, h.sig.n2⟩, ⟨h.txt.inp.other (k _ m5) _ _, h.txt.get.other (k _ m6) _ _, h.txt.n1, h.txt.n2⟩,
    h.gp.other (by have := h.q0; have := h.g0; omega) _ _, h.ctl.other (k _ m7) _ _, h.res.other (k _ m8) _ _, h.but.setCell _ _, h.g0, h.q0, h.blk, by simpa using h.size⟩
/-- Where reading of panes begins, and what it ends with. -/
def stG (s : ByteArray) : Nat × Nat := if 2000 < (numS s (numS s (numS s (0, 0)).2).2).1 then ((numS s (numS s (numS s (0, 0)).2).2).2.1, 1) else (numS s (numS s (numS s (0, 0)).2).2).2
theorem grS_eq (s : ByteArray) : grS s = (⟨min ((numS s (0, 0)).1 : Int) 32, ((numS s (numS s (0, 0)).2).1 : Int), (pnI s (stG s) (numS s (numS s (numS s (0, 0)).2).2).1).1⟩, (pnI s (stG s) (numS s (numS s (numS s (0, 0)).2).2).1).2) := by
  unfold grS stG
  split
  · have h : pnI s ((numS s (numS s (numS s (0, 0)).2).2).2.1, 1) (numS s (numS s (numS s (0, 0)).2).2).1 = ([], ((numS s (numS s (numS s (0, 0)).2).2).2.1, 1)) := by
      have h1 := pnI_stop (s := s) (st := ((numS s (numS s (numS s (0, 0)).2).2).2.1, 1)) (j := 0) (by show (1 : Nat) ≠ 0; omega) (numS s (numS s (numS s (0, 0)).2).2).1
      rw [Nat.zero_add] at h1
      rw [h1]; rfl
    rw [h]
  · rfl
theorem stG_len (s : ByteArray) {j : Nat} (h0 : (pnI s (stG s) j).2.2 = 0) (hj : j ≤ (numS s (numS s (numS s (0, 0)).2).2).1) : j ≤ 2000 := by
  unfold stG at h0
  split at h0
  · have h1 := pnI_stop (s := s) (st := ((numS s (numS s (numS s (0, 0)).2).2).2.1, 1)) (j := 0) (by show (1 : Nat) ≠ 0; omega) j
    rw [Nat.zero_add] at h1
    rw [h1] at h0
    cases h0
  · omega
theorem numS_le (s : ByteArray) (p : Nat × Nat) : ((numS s p).1 : Int) ≤ 9223372036854775807 := by
  unfold numS
  split
  · exact rd1_le _ _
  · simp
theorem stG_to (s : ByteArray) : (stG s).1 ≤ s.size := by
  have h := numS_to s _ (numS_to s _ (numS_to s (0, 0) (Nat.zero_le _)))
  unfold stG
  split
  · exact h
  · exact h
set_option maxRecDepth 100000 in
set_option maxHeartbeats 4000000 in
theorem gpGroup (s : ByteArray) (hs : s.size ≤ 9223372036854775807) (g : Nat) (w : World) (h : RdAt 91 g s 0 0 w) :
    Calls Try.prog 54 #[.pointer (some ⟨g, 0, none⟩)] w (GrOut s g (grS s).1 (grS s).2 w) := by
  have H := Lib.hid h
  have Q0 := Lib.hid h.lt
  have HRN := Lib.hid (fun G w' (h : g < w'.heap.size) => gpReaderN g G w' h)
  have HRS := Lib.hid (fun G w' (h : g < w'.heap.size) => gpReaderS g G w' h)
  have RES := Lib.hid (Lies.new w (gpC 0 0 (.slice none 0 0)) 26)
  have B0 := Lib.hid (below_al (o := .cells (gpC 0 0 (.slice none 0 0)) 26) (Below.refl w.heap.size w))
  clear h
  go_enter Try.func54, Try.ntmps54
  go_wp2_with fail
  refine (HRN.out _ _ (by have := Q0.out; simp; omega)).mono ?_
  rintro e w1 ⟨n1, n2, rfl, C1, hb1, y1, y2⟩
  have B1 := Lib.hid (below_next B0.out hb1)
  have C1 := Lib.hid C1
  have RES := Lib.hid (RES.out.below hb1)
  have Y1 := Lib.hid (show w.heap.size ≤ n1 ∧ w.heap.size ≤ n2 by simp at y1 y2; omega)
  clear hb1 y1 y2
  go_wp2_with fail
  refine (HRN.out _ _ (by have := Q0.out; have := B1.out.size; omega)).mono ?_
  rintro e w2 ⟨s1, s2, rfl, C2, hb2, y1, y2⟩
  have B2 := Lib.hid (below_next B1.out hb2)
  have C1 := Lib.hid (C1.out.below hb2); have C2 := Lib.hid C2
  have RES := Lib.hid (RES.out.below hb2)
  have Y2 := Lib.hid (show w.heap.size ≤ s1 ∧ w.heap.size ≤ s2 by have := B1.out.size; omega)
  clear hb2 y1 y2
  go_wp2_with fail
  refine (HRS.out _ _ (by have := Q0.out; have := B2.out.size; omega)).mono ?_
  rintro e w3 ⟨t1, t2, rfl, C3, hb3, y1, y2⟩
  have B3 := Lib.hid (below_next B2.out hb3)
  have C1 := Lib.hid (C1.out.below hb3); have C2 := Lib.hid (C2.out.below hb3); have C3 := Lib.hid C3
  have RES := Lib.hid (RES.out.below hb3)
  have Y3 := Lib.hid (show w.heap.size ≤ t1 ∧ w.heap.size ≤ t2 by have := B2.out.size; omega)
  clear hb3 y1 y2
  obtain ⟨F, hF⟩ : ∃ F : Fr, F = ⟨w, g, n1, n2, s1, s2, t1, t2, w3.heap.size, w.heap.size, min ((numS s (0, 0)).1 : Int) 32, ((numS s (numS s (0, 0)).2).1 : Int), ((numS s (numS s (numS s (0, 0)).2).2).1 : Int), 0⟩ := ⟨_, rfl⟩
  have HD := Lib.hid (show Hd F s (w3.heap.size + 1 + 1 + 1) 0 ((((w3.alloc (.cells (gpC 0 0 (.slice none 0 0)) 26)).alloc (.cells #[.int .i64 0] 2)).alloc (.cells #[.int .i64 0] 2)).alloc (.cells #[.pointer (some ⟨w3.heap.size + 1, 0, none⟩), .pointer (some ⟨w3.heap.size, 1, none⟩), .pointer (some ⟨w3.heap.size + 1 + 1, 0, none⟩)] 135)) from by
    have hb := below_al (o := .cells #[.pointer (some ⟨w3.heap.size + 1, 0, none⟩), .pointer (some ⟨w3.heap.size, 1, none⟩), .pointer (some ⟨w3.heap.size + 1 + 1, 0, none⟩)] 135) (below_al (o := .cells #[.int .i64 0] 2) (below_al (o := .cells #[.int .i64 0] 2) (below_al (o := .cells (gpC 0 0 (.slice none 0 0)) 26) (Below.refl w3.heap.size w3))))
    subst hF
    have b3 := B3.out
    have k1 := lt_of_block C1.out.inp; have k2 := lt_of_block C1.out.get; have k3 := lt_of_block C2.out.inp; have k4 := lt_of_block C2.out.get; have k5 := lt_of_block C3.out.inp; have k6 := lt_of_block C3.out.get; have k7 := lt_of_block RES.out
    have j1 := Y1.out; have j2 := Y2.out; have j3 := Y3.out
    refine ⟨C1.out.below hb, C2.out.below hb, C3.out.below hb, ?_, ?_, ?_, RES.out.below hb, (H.out.below b3).below hb, ?_, But.of_below (below_next b3 hb), Q0.out, ?_, b3.size, rfl⟩
    · exact ((lies_two w3 (.cells (gpC 0 0 (.slice none 0 0)) 26) #[.int .i64 0] 2).al).al
    · exact (((Lies.new w3 _ _).al).al).al
    · exact (lies_at (by simp) _ _).al
    · exact lies_at (by simp) _ _
    · intro b hb
      simp only [Fr.ks, List.mem_cons, List.not_mem_nil, or_false] at hb
      rcases hb with rfl | rfl | rfl | rfl | rfl | rfl | rfl <;> (constructor <;> simp only <;> omega))
  have HH := Lib.hid (show Calls Try.prog 114 #[.slice (some ⟨w3.heap.size + 1 + 1 + 1, 0, none⟩) 3 3, .pointer (some ⟨n1, 0, none⟩), .pointer (some ⟨n2, 0, none⟩)] _ (fun e w' => e = .returned (.tuple #[]) ∧ Hd F s (w3.heap.size + 1 + 1 + 1) 3 w') from by
    have h := gpHead (c := 3) hs HD.out
    rw [show F.n1 = n1 by rw [hF], show F.n2 = n2 by rw [hF]] at h; exact h)
  go_wp2_with fail
  refine HH.out.mono ?_
  rintro e w4 ⟨rfl, h4⟩
  obtain ⟨a1, ha1⟩ : ∃ a1, a1 = (numS s (0, 0)).1 := ⟨_, rfl⟩
  obtain ⟨m1, hm1⟩ : ∃ m1, m1 = (numS s (numS s (numS s (0, 0)).2).2).1 := ⟨_, rfl⟩
  have x0 : w4.cell? ⟨w3.heap.size + 1, 0, none⟩ = some (.int .i64 (a1 : Int)) := by have h := h4.noL.cell (j := 0) (v := .int .i64 (a1 : Int)) (by rw [ha1]; rfl); rwa [hF] at h
  have x1 : w4.cell? ⟨w3.heap.size, 0, none⟩ = some (.int .i64 0) := by have h := h4.gp.cell (j := 0) (v := .int .i64 0) rfl; rwa [hF] at h
  have x2 : w4.cell? ⟨w3.heap.size + 1 + 1, 0, none⟩ = some (.int .i64 (m1 : Int)) := by have h := h4.ctl.cell (j := 0) (v := .int .i64 (m1 : Int)) (by rw [hm1]; rfl); rwa [hF] at h
  have f1 : w4.frozen? ⟨w3.heap.size, 0, none⟩ = false := by have h := h4.gp.free 0; rwa [hF] at h
  have hno : min ((a1 : Nat) : Int) 32 = F.no := by rw [hF, ha1]
  have E4 := Lib.hid (show Env (F.at_ w4.heap.size) (.slice none 0 0) (w4.setCell ⟨w3.heap.size, 0, none⟩ (.int .i64 F.no)) from by
    have h := h4.env (by rw [hF]; rfl) (by rw [hF]; rfl)
    have hq : F.q = w3.heap.size := by rw [hF]
    rw [hq] at h; exact h)
  have R4 := Lib.hid (show RdAt 91 g s ((numS s (numS s (numS s (0, 0)).2).2).2.1 : Nat) ((numS s (numS s (numS s (0, 0)).2).2).2.2 : Nat) (w4.setCell ⟨w3.heap.size, 0, none⟩ (.int .i64 F.no)) from by
    have h := h4.rd
    rw [show F.g = g by rw [hF]] at h
    refine (Below.heap_setCell _ ⟨w3.heap.size, 0, none⟩ _ g ?_).trans h
    have := Q0.out; have := B3.out.size; show g ≠ w3.heap.size; omega)
  have HF := Lib.hid hF
  have y2 := R4.out.c2; have y0 := R4.out.free 2
  have e1 : w3.heap.size + 1 + 1 ≠ w3.heap.size := by omega
  have HA1 := Lib.hid ha1; have HM1 := Lib.hid hm1
  clear h4 hF ha1 hm1 HH HD HRN HRS
  go_upto_if 25 with fail
  go_cut [] from 26 (fun wc => GrAt (F.at_ w4.heap.size) s (stG s) 0 (.slice none 0 0) wc)
  case first =>
    by_cases h : 2000 < m1
    · have h1 : (2000 : Int) < m1 := by omega
      have HST := Lib.hid (show stG s = ((numS s (numS s (numS s (0, 0)).2).2).2.1, 1) from by unfold stG; rw [← HM1.out, if_pos h])
      clear h
      go_wp2_with fail
      go_meet
      case rel =>
        refine ⟨?_, own_none, ?_⟩
        · have h := E4.out.err 1
          rw [show (F.at_ w4.heap.size).g = g by rw [HF.out]; rfl] at h
          exact h
        · rw [HST.out, show (F.at_ w4.heap.size).g = g by rw [HF.out]; rfl]
          exact R4.out.set2 1
    · have h1 : ¬ (2000 : Int) < m1 := by omega
      have HST := Lib.hid (show stG s = (numS s (numS s (numS s (0, 0)).2).2).2 from by unfold stG; rw [← HM1.out, if_neg h])
      clear h
      go_wp2_with fail
      go_meet
      case rel =>
        refine ⟨E4.out, own_none, ?_⟩
        rw [HST.out, show (F.at_ w4.heap.size).g = g by rw [HF.out]; rfl]
        exact R4.out
  case rest =>
    have HC := Lib.hid hcut
    have HGS := Lib.hid (grS_eq s)
    rw [← HA1.out, ← HM1.out] at HGS
    have HSL := Lib.hid (fun j => stG_len s (j := j))
    rw [← HM1.out] at HSL
    obtain ⟨st, hst⟩ : ∃ st, st = stG s := ⟨_, rfl⟩
    have HTO := Lib.hid (show st.1 ≤ s.size from hst ▸ stG_to s)
    rw [← hst] at HC HGS HSL
    obtain ⟨b1, hb1⟩ : ∃ b1, b1 = (numS s (numS s (0, 0)).2).1 := ⟨_, rfl⟩
    rw [← hb1] at HGS
    have hFF := HF.out
    rw [← hb1] at hFF
    obtain ⟨F1, hF1⟩ : ∃ F1, F1 = F.at_ w4.heap.size := ⟨_, rfl⟩
    rw [← hF1] at HC
    rw [hFF, ← HA1.out, ← HM1.out] at hF1
    have HF1 := Lib.hid hF1
    have hm2 : (m1 : Int) ≤ 9223372036854775807 := by rw [HM1.out]; exact numS_le s _
    clear hcut y2 y0 x0 x1 x2 f1 hno E4 R4 HF HA1 HM1 hst hb1 hFF hF1
    go_wp2_with fail
    go_loopw [9] (fun i wr => ∃ (j : Nat) (sv : Value), i = .int .i64 j ∧ j ≤ m1 ∧ GrAt F1 s st j sv wr) (fun i _ => m1 - (intOf i).toNat)
    case atStart => exact ⟨0, _, rfl, Nat.zero_le _, HC.out⟩
    case round =>
      obtain ⟨j, sv, rfl, hj, hG⟩ := hrel
      obtain ⟨⟨xs, sp, se⟩, hP⟩ : ∃ K, K = pnI s st j := ⟨_, rfl⟩
      obtain ⟨hE, hO, hR⟩ := hG
      have HG := Lib.hid (show GrAt F1 s st j sv wr from ⟨hE, hO, hR⟩)
      rw [← hP] at hO hR
      simp only at hO hR
      obtain ⟨A, c, rfl, h1, h2, hl6, h3, _⟩ := own_form hO (by omega)
      have HR := Lib.hid (show RdAt 91 g s (sp : Nat) (se : Nat) wr from by have h := hR; rwa [show F1.g = g by rw [HF1.out]; rfl] at h)
      have d2 := HR.out.c2
      have ct : wr.cell? ⟨w3.heap.size + 1 + 1, 0, none⟩ = some (.int .i64 (m1 : Int)) := by have h := hE.ctl.cell (j := 0) rfl; rw [HF1.out] at h; exact h
      have g0 : wr.cell? ⟨w3.heap.size, 0, none⟩ = some (.int .i64 (min (a1 : Int) 32)) := by have h := hE.gp.cell (j := 0) rfl; rw [HF1.out] at h; exact h
      have g1 : wr.cell? ⟨w3.heap.size, 1, none⟩ = some (.int .i64 (b1 : Int)) := by have h := hE.gp.cell (j := 1) rfl; rw [HF1.out] at h; exact h
      have g2 : wr.cell? ⟨w3.heap.size, 2, none⟩ = some (.slice A xs.length c) := by have h := hE.gp.cell (j := 2) rfl; rw [HF1.out] at h; exact h
      have r0 : wr.cell? ⟨w.heap.size, 0, none⟩ = some (.int .i64 0) := by have h := hE.res.cell (j := 0) rfl; rw [HF1.out] at h; exact h
      have r1 : wr.cell? ⟨w.heap.size, 1, none⟩ = some (.int .i64 0) := by have h := hE.res.cell (j := 1) rfl; rw [HF1.out] at h; exact h
      have r2 : wr.cell? ⟨w.heap.size, 2, none⟩ = some (.slice none 0 0) := by have h := hE.res.cell (j := 2) rfl; rw [HF1.out] at h; exact h
      have f0 : wr.frozen? ⟨w.heap.size, 0, none⟩ = false := by have h := hE.res.free 0; rw [HF1.out] at h; exact h
      have f1 : wr.frozen? ⟨w.heap.size, 1, none⟩ = false := by have h := hE.res.free 1; rw [HF1.out] at h; exact h
      have f2 : wr.frozen? ⟨w.heap.size, 2, none⟩ = false := by have h := hE.res.free 2; rw [HF1.out] at h; exact h
      have HEN := Lib.hid hE
      have HOW := Lib.hid hO
      have HP := Lib.hid hP
      have HL := Lib.hid (And.intro h1 h2); have HROW := Lib.hid h3
      have HEND : Hid ((pnI s st m1) = (xs, sp, se) → ∀ act : Act, act.tmps.getD 2 undef = .pointer (some ⟨w.heap.size, 0, none⟩) → act.defers = [] →
          bodyPost Try.prog Try.f54 (GrOut s g (grS s).1 (grS s).2 w) .ret act (set3 wr w.heap.size (min (a1 : Int) 32) (b1 : Int) (.slice A xs.length c))) := Lib.hid fun he act ht hd => by
        rw [HGS.out, he]
        have hF1 := HF1.out
        subst hF1
        exact grp_end (s := s) (o := ⟨min (a1 : Int) 32, (b1 : Int), xs⟩) (st := (sp, se)) (act := act) hE rfl rfl ht hd h1 h2 h3 HR.out
      clear hE hO hR hP h1 h2 h3 hl6
      by_cases hlt : j < m1
      · by_cases h0 : se = 0
        · subst h0
          have hj20 : j ≤ 2000 := HSL.out j (by rw [← HP.out]) hj
          have hxl : xs.length ≤ 2000 := by
            have h := pnI_len s st j
            rw [← HP.out] at h
            simp only at h
            omega
          have hsp : sp ≤ s.size := by
            have h := pnI_to HTO.out j
            rw [← HP.out] at h
            exact h
          have e0 := eq_b (show ((0 : Nat) : Int) = 0 from rfl)
          have ew : IntKind.i64.wrap ((j : Int) + 1) = (j : Int) + 1 := wrap64_in (by omega) (by omega)
          have HJ := Lib.hid (And.intro hj20 hxl)
          have HSP := Lib.hid hsp
          clear hj20 hxl hsp r0 r1 r2 f0 f1 f2 g0 g1 HEND HC
          have P1 := Lib.hid (show PI F1 (.slice A xs.length c) xs s (wr.heap.size + 1) wr.heap.size #[.pointer (some ⟨wr.heap.size, 2, none⟩)] 136 ⟨⟨0, 0, []⟩, ⟨0, 0, 0⟩⟩ (sp, 0) _ from by
            have h := HG.out.first #[.pointer (some ⟨wr.heap.size, 2, none⟩)] 136
            rw [← HP.out] at h; exact h)
          have HT := Lib.hid (show Calls Try.prog 117 #[.slice (some ⟨wr.heap.size + 1, 0, none⟩) 1 1, .pointer (some ⟨t1, 0, none⟩), .pointer (some ⟨t2, 0, none⟩)] _ _ from by
            have h := gpText1 (c := 1) hs HSP.out P1.out
            rw [show F1.t1 = t1 by rw [HF1.out]; rfl, show F1.t2 = t2 by rw [HF1.out]; rfl] at h; exact h)
          obtain ⟨K, hK⟩ : ∃ K, K = txtS s (sp, 0) := ⟨_, rfl⟩
          have HKT := Lib.hid (show K.2.1 ≤ s.size by rw [hK]; exact txtS_to s _ HSP.out)
          rw [← hK] at HT
          have HK := Lib.hid hK
          clear hK g2
          go_wp2_with fail
          refine HT.out.mono ?_
          rintro e w6 ⟨rfl, h6⟩
          have P2 := Lib.hid (h6.slice #[.pointer (some ⟨wr.heap.size, 0, none⟩), .pointer (some ⟨wr.heap.size, 1, none⟩), .pointer (some ⟨wr.heap.size, 3, none⟩)] 135)
          have HN := Lib.hid (show Calls Try.prog 114 #[.slice (some ⟨w6.heap.size, 0, none⟩) 3 3, .pointer (some ⟨n1, 0, none⟩), .pointer (some ⟨n2, 0, none⟩)] _ _ from by
            have h := gpNums3 (c := 3) hs HKT.out P2.out
            rw [show F1.n1 = n1 by rw [HF1.out]; rfl, show F1.n2 = n2 by rw [HF1.out]; rfl] at h; exact h)
          obtain ⟨L, hL⟩ : ∃ L, L = chN s K.2 3 := ⟨_, rfl⟩
          have HLT := Lib.hid (show L.1 ≤ s.size by rw [hL]; exact chN_to HKT.out 3)
          rw [← hL] at HN
          have HLL := Lib.hid hL
          clear hL h6
          go_wp2_with fail
          refine HN.out.mono ?_
          rintro e w7 ⟨rfl, h7⟩
          obtain ⟨pl, hpl⟩ : ∃ pl, pl = (nx s K.2 K.1 3).p := ⟨_, rfl⟩
          obtain ⟨an, han⟩ : ∃ an, an = (nx s K.2 K.1 3).acc.n := ⟨_, rfl⟩
          have h7' : PI F1 (.slice A xs.length c) xs s w6.heap.size wr.heap.size #[.pointer (some ⟨wr.heap.size, 0, none⟩), .pointer (some ⟨wr.heap.size, 1, none⟩), .pointer (some ⟨wr.heap.size, 3, none⟩)] 135 ⟨pl, ⟨an, 0, 0⟩⟩ L w7 := by rw [hpl, han]; exact h7
          have P3 := Lib.hid (h7'.slice #[.pointer (some ⟨wr.heap.size, 4, none⟩), .pointer (some ⟨wr.heap.size, 5, none⟩)] 135)
          have HS := Lib.hid (show Calls Try.prog 114 #[.slice (some ⟨w7.heap.size, 0, none⟩) 2 2, .pointer (some ⟨s1, 0, none⟩), .pointer (some ⟨s2, 0, none⟩)] _ _ from by
            have h := gpSgns2 (c := 2) hs HLT.out P3.out
            rw [show F1.s1 = s1 by rw [HF1.out]; rfl, show F1.s2 = s2 by rw [HF1.out]; rfl] at h; exact h)
          have HPN := Lib.hid (show pnS s (sp, 0) = (gx s L pl an 2, chS s L 2) from by rw [pnS_calls, ← HK.out, ← HLL.out, hpl, han])
          obtain ⟨x, hx⟩ : ∃ x, x = gx s L pl an 2 := ⟨_, rfl⟩
          obtain ⟨su, hsu⟩ : ∃ su, su = chS s L 2 := ⟨_, rfl⟩
          rw [← hx, ← hsu] at HS HPN
          clear hx hsu h7 h7' hpl han
          go_wp2_with fail
          refine HS.out.mono ?_
          rintro e w8 ⟨rfl, h8⟩
          have P8 := Lib.hid h8
          have z0 := h8.pn.cell (j := 0) rfl; have z1 := h8.pn.cell (j := 1) rfl; have z2 := h8.pn.cell (j := 2) rfl; have z3 := h8.pn.cell (j := 3) rfl; have z4 := h8.pn.cell (j := 4) rfl; have z5 := h8.pn.cell (j := 5) rfl
          have g2 : w8.cell? ⟨w3.heap.size, 2, none⟩ = some (.slice A xs.length c) := by have h := h8.env.gp.cell (j := 2) rfl; rw [HF1.out] at h; exact h
          obtain ⟨i0, hi0, hz0, hz1, hz2⟩ := info_parts paInfo
          have HI0 := Lib.hid hi0; have HZ0 := Lib.hid hz0; have HZ1 := Lib.hid hz1; have HZ2 := Lib.hid hz2
          clear h8 hi0 hz0 hz1 hz2
          go_wp2_with (at_builtin; refine hold_mk ?_)
          refine hold_out ?_
          have hxl := HJ.out.2
          refine wpApp rfl _ _ 24 rfl F1.B 59 i0 _ 6 56 Try.underlying24 HI0.out HZ0.out HZ1.out HZ2.out rfl (by omega) _ xs.length (pc xs) rfl (own_up P8.out.own (below_al (Below.refl _ _))) _ 1 1 (pc [x]) rfl (one_row w8 x) (by simp [pc_len]) (pc_ones _)
            (by unfold maxLen; omega) (by omega) (by have := P8.out.env.size; simp; omega) ?_
          intro v9 w9 hown9 hb9
          rw [← pc_app, show xs.length + 1 = (xs ++ [x]).length by simp] at hown9
          obtain ⟨ys, hys⟩ : ∃ ys, ys = xs ++ [x] := ⟨_, rfl⟩
          rw [← hys] at hown9
          have HYS := Lib.hid hys
          obtain ⟨A9, c9, rfl, l9, m9, _, R9, _⟩ := own_form hown9 (by omega)
          have HO9 := Lib.hid hown9
          have E9 := Lib.hid ((P8.out.env.next (below_al (o := .cells (paC x) 59) (Below.refl _ _))).apart hb9)
          have RD9 := Lib.hid (show RdAt 91 F1.g s (su.1 : Nat) (su.2 : Nat) w9 from
            (hb9.block _ (by have := E9.out.g0; have := E9.out.q0; omega)).trans (P8.out.rd.below (below_al (o := .cells (paC x) 59) (Below.refl _ _))))
          have q2 : w9.cell? ⟨w3.heap.size, 2, none⟩ = some (.slice A xs.length c) := by have h := E9.out.gp.cell (j := 2) rfl; rw [HF1.out] at h; exact h
          have fq : w9.frozen? ⟨w3.heap.size, 2, none⟩ = false := by have h := E9.out.gp.free 2; rw [HF1.out] at h; exact h
          have HNX := Lib.hid (show pnI s st (j + 1) = (ys, su) from by rw [pnI_next, ← HP.out, if_pos rfl, HPN.out, HYS.out])
          have HGA := Lib.hid (show GrAt F1 s st (j + 1) (.slice A9 ys.length c9) (w9.setCell ⟨w3.heap.size, 2, none⟩ (.slice A9 ys.length c9)) from by
            have hq : F1.q = w3.heap.size := by rw [HF1.out]; rfl
            have h1 := E9.out.panes (.slice A9 ys.length c9)
            have hgq : F1.g ≠ F1.q := by have := E9.out.g0; have := E9.out.q0; omega
            have h2 : RdAt 91 F1.g s (su.1 : Nat) (su.2 : Nat) (w9.setCell ⟨F1.q, 2, none⟩ (.slice A9 ys.length c9)) := (Below.heap_setCell w9 ⟨F1.q, 2, none⟩ _ F1.g hgq).trans RD9.out
            have h3 := own_set HO9.out ⟨F1.q, 2, none⟩ (fun e => by have h : F1.B ≤ F1.q := (HO9.out.lt _ e).1; have := E9.out.q0; omega) (.slice A9 ys.length c9)
            rw [hq] at h1 h2 h3
            refine ⟨h1, ?_, ?_⟩
            · rw [HNX.out]; exact h3
            · rw [HNX.out]; exact h2)
          clear hown9 hb9 hys z0 z1 z2 z3 z4 z5 g2 l9 m9 R9 hxl
          go_wp2_with fail
          go_roundw
          case rel => exact ⟨j + 1, _, by go_num, by omega, HGA.out⟩
          case measure => simp [intOf]; omega
        · have e0 := ne_b (show ((se : Nat) : Int) ≠ 0 by omega)
          have HE2 := Lib.hid (show pnI s st m1 = (xs, sp, se) from by
            have h := pnI_stop (s := s) (st := st) (j := j) (by rw [← HP.out]; exact h0) (m1 - j)
            rw [show j + (m1 - j) = m1 by omega, ← HP.out] at h
            exact h)
          clear h0
          go_wp2_with fail
          exact HEND.out HE2.out _ rfl rfl
      · have HE2 := Lib.hid (show pnI s st m1 = (xs, sp, se) from by rw [show m1 = j by omega, ← HP.out])
        go_wp2_with fail
        exact HEND.out HE2.out _ rfl rfl
end Grp
end Go.Proofs.Ythfbcfddfbipfaa
