/- with of the reference: an input in its place. -/
import Derived.Test.YtciagbeamphihaaMarkNewR
namespace Go.Proofs.Ytciagbeamphihaa
open Go.RowKit
set_option linter.unusedVariables false
set_option maxRecDepth 8000
namespace Wm
/-- Hands back marks whose holds are the ones that came in. -/
def GivesW (ys : List In) (B : Option Addr) (n d : Nat) (out : Int) (w : World) (e : Ending) (w' : World) : Prop :=
  ∃ A c, e = .returned (mkV (.slice A ys.length c) (.slice B n d) out) ∧ Row w' A (ic ys) ∧ ys.length ≤ c ∧ c ≤ maxLen ∧ (∀ a, A = some a → w.heap.size ≤ a.block) ∧ Below w.heap.size w w'
theorem with_ret {w wF : World} {R : Nat} {ys : List In} {A B : Option Addr} {c n d : Nat} {out : Int} {act : Act} (ht : act.tmps.getD 6 undef = .pointer (some ⟨R, 0, none⟩)) (hd : act.defers = [])
    (hL : Lies R (mkC (.slice A ys.length c) (.slice B n d) out) 25 wF) (hA : Row wF A (ic ys)) (h1 : ys.length ≤ c) (h2 : c ≤ maxLen) (hn : ∀ a, A = some a → w.heap.size ≤ a.block) (hB : Below w.heap.size w wF) :
    bodyPost Try.prog Try.f39 (GivesW ys B n d out w) .ret act wF := by
  have c0 := hL.cell (j := 0) rfl
  have c1 := hL.cell (j := 1) rfl
  have c2 := hL.cell (j := 2) rfl
  refine bodyPost_ret (v := mkV (.slice A ys.length c) (.slice B n d) out) ?_ hd ⟨A, c, rfl, hA, h1, h2, hn, hB⟩
  have ht2 : act.tmps[6]?.getD undef = .pointer (some ⟨R, 0, none⟩) := by simpa using ht
  simp [results, Try.results39, go_sem, ht2, c0, c1, c2]
/-- The call's blocks. -/
structure Wi (w0 : World) (m : Mk) (A : Option Addr) (c : Nat) (B : Option Addr) (d : Nat) (x : In) (sv : Value) (ys : List In) (w : World) : Prop where
  bd : Bd w0 (w0.heap.size + 1 + 1) (w0.heap.size + 1 + 1 + 1) (.slice B m.holds.length d) m.out sv ys w
  ma : MkAt w0.heap.size m A c B d w
  xa : Lies (w0.heap.size + 1) (inC x) 42 w
theorem Wi.next {w0 : World} {m : Mk} {A : Option Addr} {c : Nat} {B : Option Addr} {d : Nat} {x : In} {sv : Value} {ys : List In} {w w' : World} (h : Wi w0 m A c B d x sv ys w) (hb : Below w.heap.size w w') : Wi w0 m A c B d x sv ys w' :=
  ⟨h.bd.next hb, h.ma.next hb, (hb.block _ (lt_of_block h.xa)).trans h.xa⟩
theorem Wi.app {w0 : World} {m : Mk} {A : Option Addr} {c : Nat} {B : Option Addr} {d : Nat} {x : In} {sv v : Value} {ys zs : List In} {w w9 : World} (h : Wi w0 m A c B d x sv ys w) (hb : Below (w0.heap.size + 1 + 1 + 1 + 1) w w9)
    (ho : w9.ownsRow (w0.heap.size + 1 + 1 + 1 + 1) 42 2 v zs.length (ic zs)) : Wi w0 m A c B d x v zs (w9.setCell ⟨w0.heap.size + 1 + 1 + 1, 0, none⟩ v) := by
  refine ⟨h.bd.app hb ho, ?_, ?_⟩
  · exact Lies.other (show Lies w0.heap.size (mkC (.slice A m.ins.length c) (.slice B m.holds.length d) m.out) 25 w9 from (hb.block _ (by omega)).trans h.ma) (by omega) _ _
  · exact Lies.other (show Lies (w0.heap.size + 1) (inC x) 42 w9 from (hb.block _ (by omega)).trans h.xa) (by omega) _ _
theorem lies_at {w : World} {R : Nat} (h : R = w.heap.size) (C : Array Value) (T : TypeId) : Lies R C T (w.alloc (.cells C T)) := h ▸ Lies.new w C T
theorem al_apart {w w9 : World} {B : Nat} {o : Obj} (hb : Below B (w.alloc o) w9) (hB : B ≤ w.heap.size) : Below B w w9 := by
  have ha := al_below w o
  exact ⟨hb.os.trans ha.os, hb.tape.trans ha.tape, hb.output.trans ha.output, Nat.le_trans ha.size hb.size, fun k hk => (hb.block k hk).trans (ha.block k (by omega))⟩
set_option maxRecDepth 100000 in
set_option maxHeartbeats 2000000 in
theorem rfWithM (m : Mk) (A : Option Addr) (c : Nat) (B : Option Addr) (d : Nat) (n : Nat) (x : In) (w : World) (h : Has m A c B d w) (hlen : m.ins.length ≤ 8) (hn : n < m.ins.length) :
    Calls Try.prog 39 #[mv m A c B d, .int .i64 (n : Nat), inV x] w (GivesW (m.ins.set n x) B m.holds.length d m.out w) := by
  obtain ⟨ins, hs, out⟩ := m
  simp only at hlen hn ⊢
  obtain ⟨us, hus⟩ : ∃ us, us = ins.set n x := ⟨_, rfl⟩
  have hul : us.length = ins.length := by rw [hus]; simp
  have HU := Lib.hid (And.intro hus hul)
  rw [← hus]
  have H := Lib.hid h
  have W0 := Lib.hid (show Wi w ⟨ins, hs, out⟩ A c B d x (.slice none 0 0) [] ((((w.alloc (.cells (mkC (.slice A ins.length c) (.slice B hs.length d) out) 25)).alloc (.cells (inC x) 42)).alloc (.cells (mkC (.slice none 0 0) (.slice none 0 0) 0) 25)).alloc (.cells (mkC (.slice none 0 0) (.slice B hs.length d) out) 25)) from
    ⟨⟨(lies_at (by simp) _ _).al, lies_at (by simp) _ _, own_none, below_al (below_al (below_al (al_below _ _))), by omega, by omega⟩, (((Lies.new w _ _).al).al).al, ((lies_at (by simp) _ _).al).al⟩)
  clear h hus hul
  go_enter Try.func39, Try.ntmps39
  go_wp2_with fail
  go_loopw [18] (fun i wr => ∃ (k : Nat) (sv : Value), i = .int .i64 k ∧ k ≤ ins.length ∧ Wi w ⟨ins, hs, out⟩ A c B d x sv (us.take k) wr) (fun i _ => ins.length - (intOf i).toNat)
  case atStart => exact ⟨0, _, rfl, Nat.zero_le _, W0.out⟩
  case round =>
    obtain ⟨k, sv, rfl, hk, hW⟩ := hrel
    obtain ⟨ys, hys⟩ : ∃ ys, ys = us.take k := ⟨_, rfl⟩
    rw [← hys] at hW
    have HYS := Lib.hid hys
    have hyl : ys.length = k := by rw [hys, List.length_take, HU.out.2]; omega
    obtain ⟨A1, d1, rfl, h1, h2, hl6, h3, _⟩ := own_form hW.bd.own (by omega)
    have WI := Lib.hid hW
    have m0 := hW.bd.mks.cell (j := 0) rfl; have m1 := hW.bd.mks.cell (j := 1) rfl; have m2 := hW.bd.mks.cell (j := 2) rfl
    have r0 := hW.bd.res.cell (j := 0) rfl; have r1 := hW.bd.res.cell (j := 1) rfl; have r2 := hW.bd.res.cell (j := 2) rfl
    have f0 := hW.bd.res.free 0; have f1 := hW.bd.res.free 1; have f2 := hW.bd.res.free 2
    have x0 := hW.xa.cell (j := 0) rfl; have x1 := hW.xa.cell (j := 1) rfl
    have HL := Lib.hid (And.intro h1 h2)
    have HYL := Lib.hid hyl
    clear hW h1 h2 h3 hl6 hys hyl
    by_cases hlt : k < ins.length
    · obtain ⟨y, hy⟩ : ∃ y, ins[k]? = some y := ⟨_, List.getElem?_eq_getElem hlt⟩
      obtain ⟨b, off, rfl, c0, c1⟩ := row_in (H.out.ri.below WI.out.bd.below) hy
      obtain ⟨z, hz⟩ : ∃ z, z = if n = k then x else y := ⟨_, rfl⟩
      have HZ := Lib.hid (show us.take (k + 1) = ys ++ [z] from by
        rw [List.take_add_one, ← HYS.out, HU.out.1, List.getElem?_set, hz]
        by_cases e : n = k
        · rw [if_pos e, if_pos e, if_pos (by omega)]; rfl
        · rw [if_neg e, if_neg e, hy]; rfl)
      obtain ⟨i0, hi0, hz0, hz1, hz2⟩ := info_parts inInfo
      have HI0 := Lib.hid hi0; have HZ0 := Lib.hid hz0; have HZ1 := Lib.hid hz1; have HZ2 := Lib.hid hz2
      have ew : IntKind.i64.wrap ((k : Int) + 1) = (k : Int) + 1 := wrap64_in (by omega) (by omega)
      have q1 : w.heap.size + 1 + 1 + 1 < wr.heap.size := lt_of_block WI.out.bd.mks
      have q2 : w.heap.size + 1 < wr.heap.size := by omega
      have hcase : (((n : Int) == (k : Int)) = true ∧ z = x) ∨ (((n : Int) == (k : Int)) = false ∧ z = y) := by
        by_cases e : n = k
        · left; exact ⟨eq_b (by omega), by rw [hz, if_pos e]⟩
        · right; exact ⟨ne_b (by omega), by rw [hz, if_neg e]⟩
      clear hy hz hi0 hz0 hz1 hz2 r0 r1 r2 f0 f1 f2
      rcases hcase with ⟨e0, rfl⟩ | ⟨e0, rfl⟩
      all_goals (
        go_wp2_with (at_builtin; refine hold_mk ?_)
        refine hold_out ?_
        have hyk := HYL.out
        refine wpApp rfl _ _ 22 rfl (w.heap.size + 1 + 1 + 1 + 1) 42 i0 _ 2 16 Try.underlying22 HI0.out HZ0.out HZ1.out HZ2.out rfl (by omega) _ ys.length (ic ys) rfl (own_up WI.out.bd.own (below_al (al_below _ _))) _ 1 1 (ic [z]) rfl (by have h := one_in (wr.alloc (.cells (inC z) 42)) z; rw [World.size_alloc] at h; exact h) (by simp [ic_len]) (ic_ones _)
          (by unfold maxLen; omega) (by omega) (by simp only [World.size_alloc]; omega) ?_
        intro v9 w9 hown9 hb9
        rw [← ic_app, show ys.length + 1 = (ys ++ [z]).length by simp] at hown9
        obtain ⟨zs, hzs⟩ : ∃ zs, zs = ys ++ [z] := ⟨_, rfl⟩
        rw [← hzs] at hown9
        have hb9' := al_apart (al_apart hb9 (by simp only [World.size_alloc]; omega)) (by omega)
        obtain ⟨A9, c9, rfl, _, _, _, _, _⟩ := own_form hown9 (by omega)
        have W9 := Lib.hid (show Wi w ⟨ins, hs, out⟩ (some ⟨b, off, none⟩) c B d _ (.slice A9 zs.length c9) (us.take (k + 1)) (w9.setCell ⟨w.heap.size + 1 + 1 + 1, 0, none⟩ (.slice A9 zs.length c9)) from by
          rw [HZ.out, ← hzs]; exact WI.out.app hb9' hown9)
        have M9 := Lib.hid (show Lies (w.heap.size + 1 + 1 + 1) (mkC (.slice A1 ys.length d1) (.slice B hs.length d) out) 25 w9 from (hb9'.block _ (by omega)).trans WI.out.bd.mks)
        have u0 := M9.out.cell (j := 0) rfl; have fu := M9.out.free 0
        clear hown9 hb9 hb9' hzs m0 m1 m2 x0 x1 hyk
        go_wp2_with fail
        go_roundw
        case rel => exact ⟨k + 1, _, by go_num, by omega, W9.out⟩
        case measure => simp [intOf]; omega)
    · have hkn : ins.length ≤ k := by omega
      have hyu : us = ys := by rw [HYS.out, List.take_of_length_le]; rw [HU.out.2]; exact hkn
      have HYU := Lib.hid hyu
      have q1 : w.heap.size + 1 + 1 + 1 < wr.heap.size := lt_of_block WI.out.bd.mks
      have q2 : w.heap.size + 1 < wr.heap.size := by omega
      clear hyu
      go_wp2_with fail
      obtain ⟨g1, g2, g3⟩ := WI.out.bd.done (.slice A1 ys.length d1) (.slice B hs.length d) out
      obtain ⟨A', c', e', l1, l2, _, l3, l4⟩ := own_form g2 (by omega)
      cases e'
      rw [HYU.out]
      exact with_ret rfl rfl g1 l3 HL.out.1 HL.out.2 (fun a ha => by have := (l4 a ha).1; omega) g3
end Wm
end Go.Proofs.Ytciagbeamphihaa
