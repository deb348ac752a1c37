/- New and with of the reference: rows of inputs that are built. -/
import Derived.Test.YtciagbeamphihaaMarkRefA
import Derived.Test.YtciagbeamphihaaHold
import Derived.Deep.CutBlock
namespace Go.Proofs.Ytciagbeamphihaa
open Go.RowKit
set_option linter.unusedVariables false
set_option maxRecDepth 8000
namespace Wm
theorem inInfo : (Try.prog.info? 42).map (fun i => (i.zero, i.size, i.bytes)) = some (some (.agg #[.int .i64 0, .bool false]), 2, 16) := by kernel_rfl
theorem own_set {w : World} {B size n : Nat} {e : TypeId} {u : Value} {cs : List Value} (h : w.ownsRow B e size u n cs) (p : Addr) (hp : u.ownBlock ≠ some p.block) (z : Value) : (w.setCell p z).ownsRow B e size u n cs :=
  h.kept (row := some p.block) ⟨rfl, rfl, rfl, by simp [World.setCell], fun k _ hk => Below.heap_setCell _ _ _ _ (fun e => hk (by simp [e]))⟩ (Or.inr hp)
theorem one_in (w : World) (x : In) : Row (w.alloc (.cells (inC x) 42)) (some ⟨w.heap.size, 0, none⟩) (ic [x]) := by
  refine .inr ⟨w.heap.size, 0, rfl, fun j u hu => ?_⟩
  rw [ic_one] at hu
  rw [Nat.zero_add]
  refine (Lies.new w (inC x) 42).cell ?_
  rw [← hu]
  simp [iL]
/-- Marks that are built: an answer's block R, the block Q of the marks, the row of inputs. -/
structure Bd (w0 : World) (R Q : Nat) (hv : Value) (out : Int) (sv : Value) (ys : List In) (w : World) : Prop where
  res : Lies R (mkC (.slice none 0 0) (.slice none 0 0) 0) 25 w
  mks : Lies Q (mkC sv hv out) 25 w
  own : w.ownsRow (Q + 1) 42 2 sv ys.length (ic ys)
  below : Below w0.heap.size w0 w
  r0 : w0.heap.size ≤ R
  rq : R < Q
theorem Bd.next {w0 : World} {R Q : Nat} {hv : Value} {out : Int} {sv : Value} {ys : List In} {w w' : World} (h : Bd w0 R Q hv out sv ys w) (hb : Below w.heap.size w w') : Bd w0 R Q hv out sv ys w' :=
  ⟨(hb.block _ (lt_of_block h.res)).trans h.res, (hb.block _ (lt_of_block h.mks)).trans h.mks, own_up h.own hb, below_next h.below hb, h.r0, h.rq⟩
theorem Bd.app {w0 : World} {R Q : Nat} {hv : Value} {out : Int} {sv v : Value} {ys zs : List In} {w w9 : World} (h : Bd w0 R Q hv out sv ys w) (hb : Below (Q + 1) w w9) (ho : w9.ownsRow (Q + 1) 42 2 v zs.length (ic zs)) :
    Bd w0 R Q hv out v zs (w9.setCell ⟨Q, 0, none⟩ v) := by
  have hr := h.rq; have h0 := h.r0
  have hm : Lies Q (mkC sv hv out) 25 w9 := (hb.block _ (by omega)).trans h.mks
  refine ⟨?_, hm.set 0 v, ?_, ?_, h0, hr⟩
  · exact Lies.other (show Lies R _ _ w9 from (hb.block _ (by omega)).trans h.res) (by omega) _ _
  · exact own_set ho ⟨Q, 0, none⟩ (fun e => by have h : Q + 1 ≤ Q := (ho.lt _ e).1; omega) v
  · exact Below.setCell ⟨hb.os.trans h.below.os, hb.tape.trans h.below.tape, hb.output.trans h.below.output, Nat.le_trans h.below.size hb.size, fun k hk => (hb.block k (by omega)).trans (h.below.block k hk)⟩ (by show w0.heap.size ≤ Q; omega) _
/-- The answer's block is written. -/
def setM3 (w : World) (R : Nat) (a b : Value) (out : Int) : World := ((w.setCell ⟨R, 0, none⟩ a).setCell ⟨R, 1, none⟩ b).setCell ⟨R, 2, none⟩ (.int .i64 out)
theorem lies_setM3 {R : Nat} {a0 b0 : Value} {o0 : Int} {w : World} (h : Lies R (mkC a0 b0 o0) 25 w) (a b : Value) (o : Int) : Lies R (mkC a b o) 25 (setM3 w R a b o) := ((h.set 0 _).set 1 _).set 2 _
theorem below_setM3 {w0 w : World} {R B : Nat} (h : Below B w0 w) (hB : B ≤ R) (a b : Value) (o : Int) : Below B w0 (setM3 w R a b o) :=
  ((h.setCell (p := ⟨R, 0, none⟩) hB _).setCell (p := ⟨R, 1, none⟩) hB _).setCell (p := ⟨R, 2, none⟩) hB _
theorem Bd.done {w0 : World} {R Q : Nat} {hv : Value} {out : Int} {sv : Value} {ys : List In} {w : World} (h : Bd w0 R Q hv out sv ys w) (a b : Value) (o : Int) :
    Lies R (mkC a b o) 25 (setM3 w R a b o) ∧ (setM3 w R a b o).ownsRow (Q + 1) 42 2 sv ys.length (ic ys) ∧ Below w0.heap.size w0 (setM3 w R a b o) := by
  have hne : sv.ownBlock ≠ some R := fun e => by have h1 := (h.own.lt _ e).1; have := h.rq; omega
  exact ⟨lies_setM3 h.res _ _ _, own_set (own_set (own_set h.own ⟨R, 0, none⟩ hne _) ⟨R, 1, none⟩ hne _) ⟨R, 2, none⟩ hne _, below_setM3 h.below h.r0 _ _ _⟩
theorem new_ret {w wF : World} {R : Nat} {o : Mk × Nat} {A : Option Addr} {c : Nat} {B : Option Addr} {d : Nat} {act : Act} (ht : act.tmps.getD 2 undef = .pointer (some ⟨R, 0, none⟩)) (hs : act.tmps.getD 3 undef = .int .i64 (o.2 : Nat)) (hd : act.defers = [])
    (hL : Lies R (mkC (.slice A o.1.ins.length c) (.slice B o.1.holds.length d) o.1.out) 25 wF) (hH : Has o.1 A c B d wF) (hB : Below w.heap.size w wF) :
    bodyPost Try.prog Try.f10 (GivesM o w) .ret act wF := by
  have c0 := hL.cell (j := 0) rfl
  have c1 := hL.cell (j := 1) rfl
  have c2 := hL.cell (j := 2) rfl
  refine bodyPost_ret (v := .tuple #[mv o.1 A c B d, .int .i64 (o.2 : Nat)]) ?_ hd ⟨A, c, B, d, rfl, hH, hB⟩
  have ht2 : act.tmps[2]?.getD undef = .pointer (some ⟨R, 0, none⟩) := by simpa using ht
  have hs2 : act.tmps[3]?.getD undef = .int .i64 (o.2 : Nat) := by simpa using hs
  simp [results, Try.results10, go_sem, ht2, hs2, c0, c1, c2]
set_option maxRecDepth 100000 in
set_option maxHeartbeats 2000000 in
theorem rfNewM (n : Int) (w : World) : Calls Try.prog 10 #[.int .i64 n] w (GivesM (new n) w) := by
  by_cases hn : 1 ≤ n ∧ n ≤ 8
  · obtain ⟨N, rfl⟩ : ∃ N : Nat, n = N := ⟨n.toNat, by omega⟩
    have HO := Lib.hid (show new (N : Int) = (⟨List.replicate N ⟨0, false⟩, [], 0⟩, 0) from if_pos hn)
    have B0 := Lib.hid (show Bd w w.heap.size (w.heap.size + 1) (.slice none 0 0) 0 (.slice none 0 0) [] ((w.alloc (.cells (mkC (.slice none 0 0) (.slice none 0 0) 0) 25)).alloc (.cells (mkC (.slice none 0 0) (.slice none 0 0) 0) 25)) from
      ⟨(Lies.new w _ _).al, by have h := Lies.new (w.alloc (.cells (mkC (.slice none 0 0) (.slice none 0 0) 0) 25)) (mkC (.slice none 0 0) (.slice none 0 0) 0) 25; rw [World.size_alloc] at h; exact h, own_none, below_al (al_below _ _), Nat.le_refl _, by omega⟩)
    have a1 : ¬ (N : Int) < 1 := by omega
    have a2 : ¬ (8 : Int) < N := by omega
    have hN : N ≤ 8 := by omega
    clear hn
    go_enter Try.func10, Try.ntmps10
    go_wp2_with fail
    clear a1 a2
    go_loopw [5] (fun i wr => ∃ (k : Nat) (sv : Value), i = .int .i64 k ∧ k ≤ N ∧ Bd w w.heap.size (w.heap.size + 1) (.slice none 0 0) 0 sv (List.replicate k ⟨0, false⟩) wr) (fun i _ => N - (intOf i).toNat)
    case atStart => exact ⟨0, _, rfl, Nat.zero_le _, B0.out⟩
    case round =>
      obtain ⟨k, sv, rfl, hk, hB⟩ := hrel
      obtain ⟨A, c, rfl, h1, h2, hl6, h3, _⟩ := own_form hB.own (by omega)
      have BD := Lib.hid hB
      have m0 := hB.mks.cell (j := 0) rfl
      have m1 := hB.mks.cell (j := 1) rfl
      have m2 := hB.mks.cell (j := 2) rfl
      have r0 := hB.res.cell (j := 0) rfl; have r1 := hB.res.cell (j := 1) rfl; have r2 := hB.res.cell (j := 2) rfl
      have f0 := hB.res.free 0; have f1 := hB.res.free 1; have f2 := hB.res.free 2
      have HL := Lib.hid (And.intro h1 h2)
      clear hB h1 h2 h3 hl6
      simp only [List.length_replicate] at m0
      by_cases hlt : k < N
      · obtain ⟨i0, hi0, hz0, hz1, hz2⟩ := info_parts inInfo
        have HI0 := Lib.hid hi0; have HZ0 := Lib.hid hz0; have HZ1 := Lib.hid hz1; have HZ2 := Lib.hid hz2
        have ew : IntKind.i64.wrap ((k : Int) + 1) = (k : Int) + 1 := wrap64_in (by omega) (by omega)
        clear hi0 hz0 hz1 hz2 r0 r1 r2 f0 f1 f2
        go_wp2_with (at_builtin; refine hold_mk ?_)
        refine hold_out ?_
        obtain ⟨ys, hys⟩ : ∃ ys, ys = List.replicate k (⟨0, false⟩ : In) := ⟨_, rfl⟩
        have hyl : ys.length = k := by rw [hys]; simp
        have BD2 := Lib.hid (show Bd w w.heap.size (w.heap.size + 1) (.slice none 0 0) 0 (.slice A ys.length c) ys wr from by rw [hys]; exact BD.out)
        have HYS := Lib.hid hys
        refine wpApp rfl _ _ 22 rfl (w.heap.size + 1 + 1) 42 i0 _ 2 16 Try.underlying22 HI0.out HZ0.out HZ1.out HZ2.out rfl (by omega) _ ys.length (ic ys) (by rw [hyl]; rfl) (own_up BD2.out.own (al_below _ _)) _ 1 1 (ic [⟨0, false⟩]) rfl (one_in _ _) (by simp [ic_len]) (ic_ones _)
          (by unfold maxLen; omega) (by omega) (by have := lt_of_block BD2.out.mks; simp only [World.size_alloc] at this ⊢; omega) ?_
        intro v9 w9 hown9 hb9
        rw [← ic_app, show ys.length + 1 = (ys ++ [(⟨0, false⟩ : In)]).length by simp] at hown9
        have hb9' : Below (w.heap.size + 1 + 1) wr w9 := by
          have hlt := lt_of_block BD2.out.mks
          have ha := al_below wr (.cells (inC ⟨0, false⟩) 42)
          exact ⟨hb9.os.trans ha.os, hb9.tape.trans ha.tape, hb9.output.trans ha.output, Nat.le_trans ha.size hb9.size, fun k hk => (hb9.block k hk).trans (ha.block k (by omega))⟩
        obtain ⟨zs, hzs⟩ : ∃ zs, zs = ys ++ [(⟨0, false⟩ : In)] := ⟨_, rfl⟩
        rw [← hzs] at hown9
        have hrep : zs = List.replicate (k + 1) ⟨0, false⟩ := by rw [hzs, hys, List.replicate_succ']
        obtain ⟨A9, c9, rfl, _, _, _, _, _⟩ := own_form hown9 (by omega)
        have BD3 := Lib.hid (show Bd w w.heap.size (w.heap.size + 1) (.slice none 0 0) 0 (.slice A9 zs.length c9) (List.replicate (k + 1) ⟨0, false⟩) (w9.setCell ⟨w.heap.size + 1, 0, none⟩ (.slice A9 zs.length c9)) from hrep ▸ BD2.out.app hb9' hown9)
        have M9 := Lib.hid (show Lies (w.heap.size + 1) (mkC (.slice A ys.length c) (.slice none 0 0) 0) 25 w9 from (hb9'.block _ (by omega)).trans BD2.out.mks)
        have q0 := M9.out.cell (j := 0) rfl; have fq := M9.out.free 0
        clear hown9 hb9 hb9' hrep hyl hys hzs m0 m1 m2
        go_wp2_with fail
        go_roundw
        case rel => exact ⟨k + 1, _, by go_num, by omega, BD3.out⟩
        case measure => simp [intOf]; omega
      · have hkn : k = N := by omega
        subst hkn
        go_wp2_with fail
        obtain ⟨d1, d2, d3⟩ := BD.out.done (.slice A k c) (.slice none 0 0) 0
        rw [HO.out]
        obtain ⟨A', c', e', l1, l2, _, l3, _⟩ := own_form d2 (by omega)
        cases e'
        refine new_ret (o := (⟨List.replicate k ⟨0, false⟩, [], 0⟩, 0)) (A := A) (c := c) (B := none) (d := 0) rfl rfl rfl ?_ ⟨l3, Row.nil, by simpa using HL.out.1, HL.out.2, Nat.le_refl _, by simp [maxLen]⟩ d3
        simp only [List.length_replicate]
        exact d1
  · have HO := Lib.hid (show new n = (none_, 1) from if_neg hn)
    have hway : n < 1 ∨ (¬ n < 1 ∧ 8 < n) := by omega
    clear hn
    rcases hway with a1 | ⟨a1, a2⟩
    all_goals (
      go_enter Try.func10, Try.ntmps10
      go_wp2_with fail
      rw [HO.out]
      exact new_ret (o := (none_, 1)) (A := none) (c := 0) (B := none) (d := 0) rfl rfl rfl (Lies.new w _ _) (Has.zero _) (al_below _ _))
end Wm
end Go.Proofs.Ytciagbeamphihaa
