/- A queue's Len, Push, Pop. -/
import Derived.Test.YtklgehfbfokdlaaTimDown
import Derived.Maps.OwnIn
import Derived.Maps.AppendAt
import Derived.Deep.RegionLaw
namespace Go.Proofs.Ytklgehfbfokdlaa
open Go.RowKit
set_option linter.unusedVariables false
/-- append onto a row of the call's own, as one step of a region that draws its order. -/
theorem step_append_own {P : Program} {ops : Array Oper} {o : Oper} {a : Act} {w : World} {K : Act → World → Prop} {Q : Exit → Act → World → Prop} {E : Prop}
    (hg : o.guard = none) (s x : Operand) (t : TypeId) (hop : o.op = Op.call { callee := Callee.builtin Builtin.append, args := #[s, x], argTypes := #[t, t] })
    (base : Nat) (e : TypeId) (i : TypeInfo) (z : Value) (size bytes : Nat) (ht : P.underlying t = some (.slice e)) (hi : P.info? e = some i) (hz : i.zero = some z)
    (hsize : i.size = size) (hby : i.bytes = bytes) (hzs : z.cells.size = size) (hsz : 0 < size)
    (v : Value) (n : Nat) (xs : List Value) (hs : a.eval s = v) (hown : w.ownsRow base e size v n xs)
    (ad : Addr) (m c : Nat) (news : List Value) (hx : a.eval x = .slice (some ad) m c) (hl : news.length = m * size) (hnews : ∀ j u, news[j]? = some u → w.cell? (ad.add j) = some u) (h1 : ∀ u ∈ news, u.oneCell' = true)
    (h63 : n + m ≤ maxLen) (hbytes : (n + m) * bytes ≤ 140737488355328) (hbase : base ≤ w.heap.size)
    (hK : ∀ v' w', w'.ownsRow base e size v' (n + m) (xs ++ news) → w.grownBy w' v.ownBlock → (v'.ownBlock = v.ownBlock ∨ v'.ownBlock = some w.heap.size) → K (a.put o.dst v') w') :
    if Region.wanted o (yielded ops a.tmps) = true then Oper.wp P o a w K Q else E := by
  have hw : Region.wanted o (yielded ops a.tmps) = true := by simp [Region.wanted, hg]
  rw [if_pos hw]
  obtain ⟨v', w', hrun, r1, r2, r3, r4⟩ := run_append_own_at (P := P) w base t o.type e i z size bytes ht hi hz hsize hby hzs hsz v n xs hown ad m c news hl hnews h1 h63 hbytes hbase
  unfold Oper.wp
  simp [execOp, hop, resolve, invoke, builtin, hs, hx, hrun, Result.andThen]
  exact hK v' w' r1 r2 r4
namespace Tim
theorem qLen (A : Option Addr) (n c : Nat) (w : World) : Calls Try.prog 48 #[.slice A n c] w (SaysI n w) := by
  go_enter Try.func48, Try.ntmps48
  go_wp2_with fail
  go_ret
  exact ⟨rfl, rfl⟩
theorem asTimer (v : Value) (w : World) : (Instr.typeAssert (.iface 27 v) 20 27 false).run Try.prog w = .ok v w := by kernel_rfl
theorem tmInfo : (Try.prog.info? 27).map (fun i => (i.zero, i.size, i.bytes)) = some (some (.agg #[.int .i64 0, .string ByteArray.empty]), 2, 24) := by kernel_rfl
theorem Mine.grown {M : Nat → Prop} {W W' : World} {row : Option Nat} (hg : W.grownBy W' row) (h : ∀ k, row = some k → M k) : Mine M W W' :=
  ⟨hg.os, hg.tape, hg.output, hg.size, fun k hk hm => hg.block k hk fun e => hm (h k e.symm)⟩
/-- A row grown by one, taken apart. -/
theorem grown_form {w w' : World} {h n : Nat} {v v' : Value} {xs : List Value} {M : Nat → Prop} (hown : w'.ownsRow 0 27 2 v' (n + 1) xs) (hgrow : w.grownBy w' v.ownBlock) (hloc : v'.ownBlock = v.ownBlock ∨ v'.ownBlock = some w.heap.size)
    (hb : ∀ k, v.ownBlock = some k → M k ∧ k ≠ h) (hh : h < w.heap.size) :
    ∃ g c, v' = .slice (some ⟨g, 0, none⟩) (n + 1) c ∧ ((M g ∧ g ≠ h) ∨ g = w.heap.size) ∧ g ≠ h := by
  obtain ⟨_, ⟨rfl, e⟩ | ⟨g, cap, cur, rfl, hg, hh', hn, hm, hc, hx⟩⟩ := hown
  · omega
  · refine ⟨g, cap, rfl, ?_, ?_⟩
    · rcases hloc with e | e
      · exact .inl (hb g e.symm)
      · exact .inr (by simpa [Value.ownBlock] using e)
    · rcases hloc with e | e
      · exact (hb g e.symm).2
      · have : g = w.heap.size := by simpa [Value.ownBlock] using e
        omega
theorem tL_ones (x : Tm) : ∀ u ∈ tL x, u.oneCell' = true := by simpa [tc] using tc_ones [x]
theorem cell_new (w : World) (x : Tm) (T : TypeId) : ∀ j u, (tL x)[j]? = some u → (w.alloc (.cells (tmC x) T)).cell? ((⟨w.heap.size, 0, none⟩ : Addr).add j) = some u := by
  intro j u hu
  rw [Go.WideShapes.add_plain, Nat.zero_add]
  exact (Lies.new w (tmC x) T).cell (by simpa [tL] using hu)
theorem lies_grown {w w' : World} {h : Nat} {v : Value} {C : Array Value} {T : TypeId} {o : Obj} {M : Nat → Prop} (hl : Lies h C T w) (hg : (w.drew.alloc o).grownBy w' v.ownBlock) (hb : ∀ k, v.ownBlock = some k → M k ∧ k ≠ h) : Lies h C T w' := by
  have hlt := lt_of_block hl
  have h1 := hg.block h (by simp; omega) fun e => (hb h e.symm).2 rfl
  exact h1.trans ((Below.heap_alloc w.drew o h hlt).trans hl)
theorem pushed_heap {M : Nat → Prop} {w w' : World} {h g c : Nat} {d : List Tm} {x : Tm} {v : Value} {o : Obj} (H : HeapAt M w h d) (hl : Lies h #[v] 50 w')
    (ho : w'.ownsRow 0 27 2 (.slice (some ⟨g, 0, none⟩) (d.length + 1) c) (d.length + 1) (tc d ++ tL x)) (hg : (M g ∧ g ≠ h) ∨ g = (w.alloc o).drew.heap.size) (hgr : (w.alloc o).drew.grownBy w' v.ownBlock)
    (hb : ∀ k, v.ownBlock = some k → M k ∧ k ≠ h) (hgh : g ≠ h) :
    ∃ M', HeapAt M' (w'.setCell ⟨h, 0, none⟩ (.slice (some ⟨g, 0, none⟩) (d.length + 1) c)) h (d ++ [x]) ∧ Mine M w (w'.setCell ⟨h, 0, none⟩ (.slice (some ⟨g, 0, none⟩) (d.length + 1) c)) ∧ (∀ k, M k → M' k) ∧ ∀ k, M' k → M k ∨ w.heap.size ≤ k := by
  have m1 : Mine M w (w.alloc o).drew := (Mine.alloc M w o).trans (Mine.drew M _)
  have m2 : Mine M w w' := m1.trans (Mine.grown hgr fun k hk => (hb k hk).1)
  have hs : w.heap.size + 1 ≤ w'.heap.size := by have := hgr.size; simpa using this
  have hg' : M g ∨ w.heap.size ≤ g := hg.imp (·.1) fun e => by rw [e]; simp
  have hglt : g < w'.heap.size := by
    obtain ⟨_, ⟨e, _⟩ | ⟨g1, cap, cur, e, _, hh, _⟩⟩ := ho
    · cases e
    · cases e; exact lt_of_block hh
  refine ⟨fun k => M k ∨ k = g, ⟨.inl H.own, fun k hk => ?_, _, hl.set 0 _, ?_, fun k hk => by cases hk; exact ⟨.inr rfl, hgh⟩⟩, m2.trans (Mine.set _ (a := ⟨h, 0, none⟩) _ H.own), fun k hk => .inl hk, fun k hk => hk.elim .inl fun e => by subst e; exact hg'⟩
  · show k < (w'.heap.modify _ _).size
    rw [Array.size_modify]
    rcases hk with hk | rfl
    · have := H.lt k hk; omega
    · exact hglt
  · rw [List.length_append, List.length_singleton, tc_app, tc_one]
    refine ownsRow_block ho fun k hk _ => ?_
    cases hk
    exact Below.heap_setCell _ _ _ _ hgh
set_option maxHeartbeats 2000000 in
theorem qPush (M : Nat → Prop) (h : Nat) (d : List Tm) (x : Tm) (w : World) (H : HeapAt M w h d) (hl : d.length ≤ 100000) :
    Calls Try.prog 57 #[.pointer (some ⟨h, 0, none⟩), .iface 27 (tmV x)] w fun e w' => e = .returned (.tuple #[]) ∧
      ∃ M', HeapAt M' w' h (d ++ [x]) ∧ Mine M w w' ∧ (∀ k, M k → M' k) ∧ ∀ k, M' k → M k ∨ w.heap.size ≤ k := by
  obtain ⟨v, hlie, hown, hblk⟩ := H.at_
  obtain ⟨i0, hi0, hz0, hz1, hz2⟩ := info_parts tmInfo
  have HI0 := Lib.hid hi0; have HZ0 := Lib.hid hz0; have HZ1 := Lib.hid hz1; have HZ2 := Lib.hid hz2
  have HH := Lib.hid H
  have HLie := Lib.hid hlie
  have HO := Lib.hid hown
  have HB := Lib.hid hblk
  have hc := hlie.cell (j := 0) rfl
  have hfz := hlie.free 0
  have hlt := lt_of_block hlie
  have ea := fun w => asTimer (tmV x) w
  clear H hlie hown hblk hi0 hz0 hz1 hz2
  go_enter Try.func57, Try.ntmps57
  go_wp2_with fail
  go_region_law (refine step_append_own rfl (.tmp 7) (.tmp 10) 48 rfl 0 27 i0 _ 2 24 Try.underlying48 HI0.out HZ0.out HZ1.out HZ2.out rfl (by omega) v d.length (tc d) (by simp [Act.eval]) (ownsRow_block HO.out fun k _ hk => Below.heap_alloc w.drew _ k hk) ⟨w.drew.heap.size, 0, none⟩ 1 1 (tL x) (by simp [Act.eval]) rfl (cell_new w.drew x _) (tL_ones x) (by unfold maxLen; omega) (by omega) (Nat.zero_le _) ?_; intro v' w' hown' hgrow hloc; obtain ⟨g', c', rfl, hg', hgh'⟩ := grown_form hown' hgrow hloc HB.out (by simp; omega); have HL' := Lib.hid (lies_grown HLie.out hgrow HB.out); have hc' := HL'.out.cell (j := 0) rfl; have hfz' := HL'.out.free 0; have HO' := Lib.hid hown'; have HG' := Lib.hid hg'; have HGR := Lib.hid hgrow; clear hown' hg' hgrow hloc)
  all_goals
    go_end0
    exact ⟨rfl, pushed_heap HH.out HL'.out HO'.out HG'.out HGR.out HB.out hgh'⟩
theorem own_cut {w : World} {B g m n cap : Nat} {e : TypeId} {xs : List Value} (h : w.ownsRow B e 2 (.slice (some ⟨g, 0, none⟩) m cap) m xs) (hn : n ≤ m) : w.ownsRow B e 2 (.slice (some ⟨g, 0, none⟩) n cap) n (xs.take (n * 2)) := by
  obtain ⟨hl, ⟨e1, e2⟩ | ⟨g1, cap1, cur, e1, hg, hh, hn1, hm, hc, hx⟩⟩ := h
  · cases e1
  · cases e1
    refine ⟨by rw [List.length_take]; omega, .inr ⟨g, cap, cur, rfl, hg, hh, by omega, hm, hc, ?_⟩⟩
    rw [← hx, List.take_take, Nat.min_eq_left (by omega)]
theorem popped_heap {M : Nat → Prop} {w : World} {h g cap n : Nat} {d : List Tm} {x : Tm} {o : Obj} (H : HeapAt M w h d) (hl : Lies h #[.slice (some ⟨g, 0, none⟩) (n + 1) cap] 50 w)
    (ho : w.ownsRow 0 27 2 (.slice (some ⟨g, 0, none⟩) (n + 1) cap) (n + 1) (tc d)) (hg : M g) (hgh : g ≠ h) (hx : d[n]? = some x) (hn : d.length = n + 1) :
    HeapAt M ((((w.setCell ⟨g, n * 2, none⟩ (.int .i64 0)).setCell ⟨g, n * 2 + 1, none⟩ (.string ⟨#[]⟩)).setCell ⟨h, 0, none⟩ (.slice (some ⟨g, 0, none⟩) n cap)).alloc o) h (d.take n) ∧
      Mine M w ((((w.setCell ⟨g, n * 2, none⟩ (.int .i64 0)).setCell ⟨g, n * 2 + 1, none⟩ (.string ⟨#[]⟩)).setCell ⟨h, 0, none⟩ (.slice (some ⟨g, 0, none⟩) n cap)).alloc o) := by
  have h1 := own_cut (own_setT ho ⟨0, []⟩ (i := n) (by omega)) (Nat.le_succ n)
  rw [tc_take, List.take_set_of_le (Nat.le_refl _)] at h1
  have hl1 := ((hl.other (b := h) (c := g) (fun e => hgh e.symm) (n * 2) (.int .i64 0)).other (c := g) (fun e => hgh e.symm) (n * 2 + 1) (.string ⟨#[]⟩)).set 0 (.slice (some ⟨g, 0, none⟩) n cap)
  have m1 : Mine M w (((w.setCell ⟨g, n * 2, none⟩ (.int .i64 0)).setCell ⟨g, n * 2 + 1, none⟩ (.string ⟨#[]⟩)).setCell ⟨h, 0, none⟩ (.slice (some ⟨g, 0, none⟩) n cap)) :=
    ((Mine.set w (a := ⟨g, n * 2, none⟩) _ hg).trans (Mine.set _ (a := ⟨g, n * 2 + 1, none⟩) _ hg)).trans (Mine.set _ (a := ⟨h, 0, none⟩) _ H.own)
  have m2 := m1.trans (Mine.alloc M _ o)
  have hlen : (d.take n).length = n := by rw [List.length_take]; omega
  refine ⟨⟨H.own, fun k hk => Nat.lt_of_lt_of_le (H.lt k hk) m2.size, _, hl1.al, ?_, fun k hk => by cases hk; exact ⟨hg, hgh⟩⟩, m2⟩
  rw [hlen]
  refine ownsRow_block h1 fun k hk hlt => ?_
  cases hk
  refine (Below.heap_alloc _ _ _ ?_).trans (Below.heap_setCell _ _ _ _ hgh)
  show g < (Array.modify _ _ _).size
  rw [Array.size_modify]; exact hlt
set_option maxHeartbeats 2000000 in
theorem qPop (M : Nat → Prop) (h n : Nat) (d : List Tm) (x : Tm) (w : World) (H : HeapAt M w h d) (hn : d.length = n + 1) (hx : d[n]? = some x) (hl : d.length ≤ 100000) :
    Calls Try.prog 56 #[.pointer (some ⟨h, 0, none⟩)] w fun e w' => e = .returned (.iface 27 (tmV x)) ∧ HeapAt M w' h (d.take n) ∧ Mine M w w' := by
  obtain ⟨g, cap, hlie, hown, hMg, hgh, hnc, hcm⟩ := H.open_ (by omega)
  rw [hn] at hlie hown hnc
  obtain ⟨i1, i2, i3, i4⟩ := own_cellsT hown hx
  have HH := Lib.hid H
  have HO := Lib.hid hown
  have HLie := Lib.hid hlie
  have hc := hlie.cell (j := 0) rfl
  have hfz := hlie.free 0
  have hlt := lt_of_block hlie
  have hgt : g < w.heap.size := lt_of_cell i1
  have hlen : ((n + 1 : Nat) : Int) - 1 = (n : Int) := by omega
  have hn1 : n + 1 ≤ 100000 := by omega
  have HM := Lib.hid hMg
  have HG := Lib.hid hgh
  have HX := Lib.hid hx
  have HN := Lib.hid hn
  clear H hlie hown hx hn hl
  go_enter Try.func56, Try.ntmps56
  go_wp2_with fail
  go_ret
  exact ⟨rfl, popped_heap HH.out HLie.out HO.out HM.out HG.out HX.out HN.out⟩
end Tim
end Go.Proofs.Ytklgehfbfokdlaa
