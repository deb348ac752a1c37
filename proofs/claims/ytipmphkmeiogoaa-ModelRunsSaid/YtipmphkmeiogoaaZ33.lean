/- ModVals, put together. -/
import Derived.Test.YtipmphkmeiogoaaZ30
import Derived.Test.YtipmphkmeiogoaaZ28
import Derived.Test.YtipmphkmeiogoaaZ31
import Derived.Test.YtipmphkmeiogoaaZ32
import Derived.Test.YtipmphkmeiogoaaZ18
/- The reference's vals. -/
namespace Go.Proofs.Ytipmphkmeiogoaa
open Go.RowKit Go.Shelf Tick
set_option linter.unusedVariables false
set_option maxRecDepth 8000
namespace Mo
open Gen (TellsI TellsB SaysI lies_new1)
open Jo (Jb Ev Sr evIs srcOk insOk jbC jbV srV evL Srs)
open Pan (Pl Pn Rs adds)
theorem kb_list (s : ByteArray) : s.toList = kb s := by rw [ByteArray.toList_eq]; rfl
theorem key_test (a b : ByteArray) : (a.toList == b.toList) = decide (a = b) := by
  by_cases h : a = b
  · subst h; simp
  · rw [decide_eq_false h, kb_list, kb_list, beq_eq_false_iff_ne]
    exact fun e => h (kb_inj e)
/-- Numbers being put together. -/
structure BuiltN (w0 w : World) (v : Value) (zs : List Int) : Prop where
  own : w.ownsRow w0.heap.size 2 1 v zs.length (zs.map (Value.int .i64))
  below : Below w0.heap.size w0 w
theorem BuiltN.up {w0 a b : World} {v : Value} {zs : List Int} (h : BuiltN w0 a v zs) (hb : Below a.heap.size a b) : BuiltN w0 b v zs := ⟨own_up h.own hb, below_next h.below hb⟩
theorem BuiltN.far {w0 a : World} {v : Value} {zs : List Int} (h : BuiltN w0 a v zs) {q : Nat} (hq : v.ownBlock = some q) : w0.heap.size ≤ q ∧ q < a.heap.size := h.own.lt q hq
theorem cell_grown {w w' : World} {row : Option Nat} {b o : Nat} {u : Value} (hc : w.cell? ⟨b, o, none⟩ = some u) (hg : w.grownBy w' row) (hne : row ≠ some b) : w'.cell? ⟨b, o, none⟩ = some u := by
  have := hg.block b (lt_of_cell hc) (fun e => hne e.symm)
  unfold World.cell? at hc ⊢
  rw [this]; exact hc
theorem i64Info : (Try.prog.info? 2).map (fun i => (i.zero, i.size, i.bytes)) = some (some (.int .i64 0), 1, 8) := by kernel_rfl
theorem wpPushN {ops : Array Oper} {rest : List Oper} {o : Oper} {a : Act} {Q : Exit → Act → World → Prop} {w0 w : World} (hgd : o.guard = none) (s x : Operand)
    (ho : o.op = .call { callee := .builtin .append, args := #[s, x], argTypes := #[79, 79] }) (v : Value) (ms : List Int) (hs : a.eval s = v) (h : BuiltN w0 w v ms)
    (A : Option Addr) (m c : Nat) (ys : List Int) (hx : a.eval x = .slice A m c) (hr : Row w A (ys.map (Value.int .i64))) (hm : m = ys.length) (hlen : ms.length + ys.length ≤ 100000)
    (hk : ∀ v' w', BuiltN w0 w' v' (ms ++ ys) → w.grownBy w' v.ownBlock → (v'.ownBlock = v.ownBlock ∨ v'.ownBlock = some w.heap.size) → wpList Try.prog ops Q rest (a.put o.dst v') w') :
    wpList Try.prog ops Q (o :: rest) a w := by
  subst hm
  obtain ⟨i0, hi0, hz0, hz1, hz2⟩ := info_parts i64Info
  rcases A with _ | ad
  · have hn : ys = [] := by
      rcases hr with hr | ⟨_, _, hr, _⟩
      · simpa using hr
      · cases hr
    subst hn
    have hrun : (Builtin.append_ #[79, 79] o.type #[v, .slice none 0 c]).run Try.prog w = .ok v w := by
      rcases h.own.2 with ⟨rfl, _⟩ | ⟨g, cap, cur, rfl, _, _, hnc, _⟩
      · simp [Builtin.append_, run_underlying Try.underlying79, sizeOf, typeInfo, hi0, Builtin.lenOf, Builtin.firstCells]
      · simp [Builtin.append_, run_underlying Try.underlying79, sizeOf, typeInfo, hi0, Builtin.lenOf, Builtin.firstCells, hnc, storeCells]
    refine wpList_plain hgd fun K hK => ?_
    unfold Oper.wp
    simp only [execOp, ho, resolve, invoke, builtin, Sem.run_bind, Sem.run_pure, Result.andThen_ok, List.map_toArray, List.map_cons, List.map_nil, hs, hx, hrun, List.length_nil]
    exact hK _ _ (hk v w (by simpa using h) (World.grownBy.refl _ _) (.inl rfl))
  · have hcells : ∀ j u, (ys.map (Value.int .i64))[j]? = some u → w.cell? (ad.add j) = some u := by
      rcases hr with hr | ⟨b, off, hr, hc⟩
      · rw [hr]; intro j u hu; simp at hu
      · cases hr
        intro j u hu
        rw [Go.WideShapes.add_plain]
        exact hc j u hu
    refine wpList_append_own_at w hgd s x 79 ho w0.heap.size 2 i0 _ 1 8 Try.underlying79 hi0 hz0 hz1 hz2 rfl (by omega) v ms.length (ms.map (Value.int .i64)) hs h.own ad ys.length c (ys.map (Value.int .i64)) hx (by rw [List.length_map, Nat.mul_one]) hcells (ones)
      (by unfold maxLen; omega) (by omega) h.below.size ?_
    intro v' w' hown hg _ hat
    refine hk v' w' ⟨by rw [List.length_append, List.map_append]; exact hown, h.below.grown hg h.below.size fun q hq => (h.far hq).1⟩ hg hat
theorem one_rowN (w : World) (x : Int) : Row (w.alloc (.cells #[.int .i64 x] 2)) (some ⟨w.heap.size, 0, none⟩) ([x].map (Value.int .i64)) := by
  refine .inr ⟨w.heap.size, 0, rfl, fun j u hu => ?_⟩
  rw [Nat.zero_add]
  exact (Lies.new w #[.int .i64 x] 2).cell (by simpa using hu)
def GivesN (zs : List Int) (w : World) (e : Ending) (w' : World) : Prop := ∃ A c, e = .returned (.slice A zs.length c) ∧ Row w' A (zs.map (Value.int .i64)) ∧ Below w.heap.size w w'
theorem BuiltN.gives {w0 a : World} {v : Value} {zs : List Int} (h : BuiltN w0 a v zs) : GivesN zs w0 (.returned v) a := by
  obtain ⟨A, c, rfl, h1, h2, _, h3, _⟩ := own_form h.own (by omega)
  exact ⟨A, c, rfl, h3, h.below⟩
theorem valsOf_len (l : List Ev) (key : ByteArray) (lo hi : Int) : (valsOf l key lo hi).length ≤ l.length := by
  unfold valsOf
  rw [List.length_map]
  exact List.length_filter_le _ _
theorem has_iff {key : ByteArray} {lo hi : Int} {e : Ev} : has key lo hi e = (decide (e.key = key) && decide (lo ≤ e.at_) && decide (e.at_ < hi)) := by
  unfold has
  rw [Bool.eq_iff_iff]
  simp [and_assoc]
set_option maxRecDepth 100000 in
set_option maxHeartbeats 1000000 in
theorem rfVals (l : List Ev) (key : ByteArray) (lo hi : Int) (A : Option Addr) (c : Nat) (hl : l.length ≤ 10000) (w : World) (h : Row w A (ec l)) :
    Calls Try.prog 35 #[.slice A l.length c, .string key, .agg #[.int .i64 lo, .int .i64 hi]] w (GivesN (valsOf l key lo hi) w) := by
  have HR := Lib.hid h
  have HL := Lib.hid hl
  have LW := Lib.hid (show Lies w.heap.size #[.int .i64 lo, .int .i64 hi] 48 ((w.alloc (.cells #[.int .i64 lo, .int .i64 hi] 48)).alloc (.cells #[] 2)) from (Lies.new w _ _).al)
  have T0 : Hid (BuiltN w ((w.alloc (.cells #[.int .i64 lo, .int .i64 hi] 48)).alloc (.cells #[] 2)) (.slice (some ⟨w.heap.size + 1, 0, none⟩) 0 0) []) := Lib.hid ⟨by
    have h := own_new (B := w.heap.size) (e := 2) (size := 1) (w := w.alloc (.cells #[.int .i64 lo, .int .i64 hi] 48)) (by simp)
    rw [World.size_alloc] at h
    exact h, below_al (below_al (Below.refl _ _))⟩
  clear h hl
  go_enter Try.func35, Try.ntmps35
  go_wp2_with fail
  go_loopw [7, 13] (fun v i wr => ∃ k : Nat, i = .int .i64 k ∧ k ≤ l.length ∧ BuiltN w wr v (valsOf (l.take k) key lo hi) ∧ wr.cell? ⟨w.heap.size, 0, none⟩ = some (.int .i64 lo) ∧ wr.cell? ⟨w.heap.size, 1, none⟩ = some (.int .i64 hi) ∧ v.ownBlock ≠ some w.heap.size) (fun _ i _ => l.length - (intOf i).toNat)
  case atStart => exact ⟨0, rfl, Nat.zero_le _, T0.out, LW.out.cell (j := 0) rfl, LW.out.cell (j := 1) rfl, by intro e; have := Option.some.inj (show some (w.heap.size + 1) = some w.heap.size from e); omega⟩
  case round =>
    clear T0 LW
    obtain ⟨k, rfl, hk, hT, y0, y1, hne⟩ := hrel
    have HT := Lib.hid hT
    have HNE := Lib.hid hne
    have Y0 := Lib.hid y0
    have Y1 := Lib.hid y1
    clear hT hne
    by_cases hlt : k < l.length
    · obtain ⟨x, hx⟩ : ∃ x, l[k]? = some x := ⟨_, List.getElem?_eq_getElem hlt⟩
      have HPU : Hid (valsOf (l.take (k + 1)) key lo hi = if has key lo hi x then valsOf (l.take k) key lo hi ++ [x.val] else valsOf (l.take k) key lo hi) := Lib.hid (by rw [take_push hx, valsOf_push])
      have HVL : Hid ((valsOf (l.take k) key lo hi).length ≤ k) := Lib.hid (Nat.le_trans (valsOf_len _ _ _ _) (by rw [List.length_take]; omega))
      obtain ⟨b, off, rfl, d0, d1, d2⟩ := Jo.row_evC (HR.out.below HT.out.below) hx
      have hw := wrapM (k := k) (by have := HL.out; omega)
      have hlt0 := lt_of_cell y0
      simp only at hlt0
      have hkt := key_test x.key key
      obtain ⟨zs, hzs⟩ : ∃ zs, zs = valsOf (l.take k) key lo hi := ⟨_, rfl⟩
      rw [← hzs] at HT HPU HVL
      obtain ⟨q1, hq1⟩ : ∃ q1, q1 = decide (x.key = key) := ⟨_, rfl⟩
      have HH : Hid (has key lo hi x = (q1 && decide (lo ≤ x.at_) && decide (x.at_ < hi))) := Lib.hid (by rw [has_iff, hq1])
      rw [← hq1] at hkt
      clear hx hzs hq1
      have hway : (q1 = true ∧ lo ≤ x.at_ ∧ x.at_ < hi) ∨ (q1 = false ∨ q1 = true ∧ ¬ lo ≤ x.at_ ∨ q1 = true ∧ lo ≤ x.at_ ∧ ¬ x.at_ < hi) := by
        cases q1 <;> simp <;> omega
      rcases hway with ⟨rfl, g1, g2⟩ | hno
      · have HE : Hid (valsOf (l.take (k + 1)) key lo hi = zs ++ [x.val]) := Lib.hid (by
          have h2 : has key lo hi x = true := by rw [HH.out, decide_eq_true g1, decide_eq_true g2]; rfl
          have := HPU.out
          rwa [if_pos h2] at this)
        go_wp2_with (at_builtin; refine hold_mk ?_)
        refine hold_out ?_
        have hb2 := below_al (o := .cells #[.int .i64 x.val] 2) (below_al (o := .cells (evC x) 45) (Below.refl wr.heap.size wr))
        have hro := one_rowN (wr.alloc (.cells (evC x) 45)) x.val
        rw [World.size_alloc] at hro
        refine wpPushN rfl _ _ rfl u7 zs rfl (HT.out.up hb2) _ 1 1 [x.val] rfl hro rfl (by have := HL.out; have := HVL.out; simp; omega) ?_
        intro v9 w9 bt9 hg9 hat9
        have HB9 := Lib.hid bt9
        have Z : Hid (w9.cell? ⟨w.heap.size, 0, none⟩ = some (.int .i64 lo) ∧ w9.cell? ⟨w.heap.size, 1, none⟩ = some (.int .i64 hi)) := Lib.hid ⟨(cell_grown (cell_below Y0.out hb2) hg9 HNE.out), cell_grown (cell_below Y1.out hb2) hg9 HNE.out⟩
        have HN9 : Hid (v9.ownBlock ≠ some w.heap.size) := Lib.hid (by
          rcases hat9 with e | e
          · rw [e]; exact HNE.out
          · rw [e]; intro e2; have h1 := Option.some.inj e2; have h2 := HT.out.below.size; simp at h1; omega)
        clear bt9 hg9 hat9 hb2 hro y0 y1
        go_wp2_with fail
        go_roundw
        case rel => exact ⟨k + 1, rfl, by omega, by rw [HE.out]; exact HB9.out, Z.out.1, Z.out.2, HN9.out⟩
        case measure => simp [intOf]; omega
      · have HE : Hid (valsOf (l.take (k + 1)) key lo hi = zs) := Lib.hid (by
          have h := HPU.out
          have h2 : has key lo hi x = false := by
            rw [HH.out]
            rcases hno with rfl | ⟨rfl, g1⟩ | ⟨rfl, g1, g2⟩
            · simp
            · rw [decide_eq_false g1]; simp
            · rw [decide_eq_false g2]; simp
          rwa [if_neg (by rw [h2]; simp)] at h)
        rcases hno with rfl | ⟨rfl, g1⟩ | ⟨rfl, g1, g2⟩
        all_goals
          go_wp2_with fail
          go_roundw
          case rel => exact ⟨k + 1, rfl, by omega, by rw [HE.out]; exact HT.out.up (below_al (Below.refl _ _)), cell_below Y0.out (below_al (Below.refl _ _)), cell_below Y1.out (below_al (Below.refl _ _)), HNE.out⟩
          case measure => simp [intOf]; omega
    · have hkl : k = l.length := by omega
      have HD : Hid (valsOf (l.take k) key lo hi = valsOf l key lo hi) := Lib.hid (by rw [hkl, List.take_length])
      clear hkl
      go_wp2_with fail
      go_ret
      have := HT.out.gives
      rwa [HD.out] at this
end Mo
end Go.Proofs.Ytipmphkmeiogoaa
