/- Moves of the reference. -/
import Derived.Test.YtnmhacjokjcpfaaRingMovesR
import Derived.Test.YtnmhacjokjcpfaaWide1
import Derived.Test.YtnmhacjokjcpfaaHold
import Derived.Maps.AppendAt
namespace Go.Proofs.Ytnmhacjokjcpfaa
open Go.RowKit
set_option linter.unusedVariables false
set_option maxRecDepth 8000
namespace Rg
theorem al_belowM (w : World) (o : Obj) : Below w.heap.size w (w.alloc o) := below_al (Below.refl _ _)
theorem own_upM {w w' : World} {B size n : Nat} {e : TypeId} {v : Value} {xs : List Value} (h : w.ownsRow B e size v n xs) (hb : Below w.heap.size w w') : w'.ownsRow B e size v n xs := by
  obtain ⟨hl, ⟨rfl, rfl⟩ | ⟨g, cap, cur, rfl, hg, hh, hn, hm, hc, hx⟩⟩ := h
  · exact ⟨hl, .inl ⟨rfl, rfl⟩⟩
  · exact ⟨hl, .inr ⟨g, cap, cur, rfl, hg, (hb.block g (Array.getElem?_eq_some_iff.1 hh).1).trans hh, hn, hm, hc, hx⟩⟩
theorem movesFrom_len : ∀ (g : Nat) (l m : List Int), (movesFrom g l m).length ≤ l.length ∧ (movesFrom g l m).length ≤ m.length
  | _, [], m => by cases m <;> simp [movesFrom]
  | _, _ :: _, [] => by simp [movesFrom]
  | g, x :: l, y :: m => by
    have ih := movesFrom_len (g + 1) l m
    simp only [movesFrom, List.length_cons]
    split
    · omega
    · simp only [List.length_cons]; omega
theorem moves_len (l m : List Int) : (moves l m).length ≤ l.length ∧ (moves l m).length ≤ m.length := movesFrom_len 0 l m
theorem moves_take_len (l m : List Int) (k : Nat) : (moves (l.take k) (m.take k)).length ≤ l.length ∧ (moves (l.take k) (m.take k)).length ≤ m.length ∧ (moves (l.take k) (m.take k)).length ≤ k := by
  have h := moves_len (l.take k) (m.take k)
  simp only [List.length_take] at h
  omega
theorem moves_skip {l m : List Int} {k : Nat} (h : m.length ≤ k) : moves (l.take (k + 1)) (m.take (k + 1)) = moves (l.take k) (m.take k) := by
  rw [moves_end (.inr (by omega)), moves_end (.inr h)]
theorem mvInfo : (Try.prog.info? 33).map (fun i => (i.zero, i.size, i.bytes)) = some (some (.agg #[.int .i64 0, .int .i64 0, .int .i64 0]), 3, 24) := by kernel_rfl
def GivesMv (xs : List Mv) (w : World) (e : Ending) (w' : World) : Prop :=
  ∃ A c, e = .returned (.slice A xs.length c) ∧ xs.length ≤ c ∧ c ≤ maxLen ∧ Row w' A (mc xs) ∧ Below w.heap.size w w'
structure BuiltM (w0 w : World) (v : Value) (ms : List Mv) : Prop where
  own : w.ownsRow w0.heap.size 33 3 v ms.length (mc ms)
  below : Below w0.heap.size w0 w
namespace BuiltM
variable {w0 a b : World} {v : Value} {ms : List Mv}
theorem far (h : BuiltM w0 a v ms) {q : Nat} (hq : v.ownBlock = some q) : w0.heap.size ≤ q ∧ q < a.heap.size := h.own.lt q hq
theorem up (h : BuiltM w0 a v ms) (hb : Below a.heap.size a b) : BuiltM w0 b v ms := ⟨own_upM h.own hb, below_next h.below hb⟩
theorem drew (h : BuiltM w0 a v ms) : BuiltM w0 a.drew v ms := ⟨h.own.drew, below_drewOf h.below⟩
theorem drewN (h : BuiltM w0 a v ms) (n : Nat) : BuiltM w0 (a.drewN n) v ms := h.up (below_drewN (Below.refl _ _))
theorem gives (h : BuiltM w0 a v ms) : GivesMv ms w0 (.returned v) a := by
  obtain ⟨A, c, rfl, h1, h2, _, h3, _⟩ := own_form h.own (by omega)
  exact ⟨A, c, rfl, h1, h2, h3, h.below⟩
end BuiltM
theorem wpPushM {ops : Array Oper} {rest : List Oper} {o : Oper} {a : Act} {Q : Exit → Act → World → Prop} {w0 w : World} (hgd : o.guard = none) (s x : Operand)
    (ho : o.op = .call { callee := .builtin .append, args := #[s, x], argTypes := #[29, 29] }) (v : Value) (ms : List Mv) (hs : a.eval s = v) (h : BuiltM w0 w v ms)
    (ad : Addr) (m c : Nat) (ys : List Mv) (hx : a.eval x = .slice (some ad) m c) (hr : Row w (some ad) (mc ys)) (hm : m = ys.length) (hlen : (ms.length + ys.length) * 24 ≤ 140737488355328)
    (hk : ∀ v' w', BuiltM w0 w' v' (ms ++ ys) → w.grownBy w' v.ownBlock → wpList Try.prog ops Q rest (a.put o.dst v') w') :
    wpList Try.prog ops Q (o :: rest) a w := by
  subst hm
  obtain ⟨i0, hi0, hz0, hz1, hz2⟩ := info_parts mvInfo
  have hcells : ∀ j u, (mc ys)[j]? = some u → w.cell? (ad.add j) = some u := by
    rcases hr with hr | ⟨b, off, hr, hc⟩
    · rw [hr]; intro j u hu; simp at hu
    · cases hr
      intro j u hu
      rw [Go.WideShapes.add_plain]
      exact hc j u hu
  refine wpList_append_own_at w hgd s x 29 ho w0.heap.size 33 i0 _ 3 24 Try.underlying29 hi0 hz0 hz1 hz2 rfl (by omega) v ms.length (mc ms) hs h.own ad ys.length c (mc ys) hx (mc_len ys) hcells (mc_ones ys)
    (by unfold maxLen; omega) (by omega) h.below.size ?_
  intro v' w' hown hg _ hat
  exact hk v' w' ⟨by rw [List.length_append, mc_app]; exact hown, h.below.grown hg h.below.size fun q hq => (h.far hq).1⟩ hg
theorem one_mv (w : World) (x : Mv) : Row (w.alloc (.cells (mC x) 33)) (some ⟨w.heap.size, 0, none⟩) (mc [x]) := by
  refine .inr ⟨w.heap.size, 0, rfl, fun j u hu => ?_⟩
  rw [mc_one] at hu
  rw [Nat.zero_add]
  refine (Lies.new w (mC x) 33).cell ?_
  rw [← hu]
  simp [mL]
set_option maxRecDepth 100000 in
set_option maxHeartbeats 2000000 in
theorem rfMoves (l m : List Int) (A B : Option Addr) (c d : Nat) (w : World) (hA : Row w A (iv l)) (hB : Row w B (iv m)) (hl : l.length ≤ 9223372036854775807) (hm : m.length ≤ 9223372036854775807)
    (hn : l.length * 24 ≤ 140737488355328 ∨ m.length * 24 ≤ 140737488355328) :
    Calls Try.prog 13 #[.slice A l.length c, .slice B m.length d] w (GivesMv (moves l m) w) := by
  have HA := Lib.hid hA; have HB := Lib.hid hB
  have HL := Lib.hid hn
  have HB0 : Hid (BuiltM w (w.alloc (.cells #[] 33)) (.slice (some ⟨w.heap.size, 0, none⟩) 0 0) []) := Lib.hid ⟨own_new (Nat.le_refl _), al_belowM _ _⟩
  obtain ⟨us, hus⟩ : ∃ us, us = moves l m := ⟨_, rfl⟩
  have HU := Lib.hid hus
  rw [← hus]
  clear hA hB hn hus
  go_enter Try.func13, Try.ntmps13
  go_wp2_with fail
  go_loopw [5, 10] (fun v i wr => ∃ k : Nat, i = .int .i64 k ∧ k ≤ l.length ∧ BuiltM w wr v (moves (l.take k) (m.take k))) (fun _ i _ => l.length - (intOf i).toNat)
  case atStart => exact ⟨0, rfl, Nat.zero_le _, HB0.out⟩
  case round =>
    obtain ⟨k, rfl, hk, hbt⟩ := hrel
    have HBT := Lib.hid hbt
    clear hbt
    by_cases hlt : k < l.length
    · obtain ⟨x, hx⟩ : ∃ x, l[k]? = some x := ⟨_, List.getElem?_eq_getElem hlt⟩
      obtain ⟨b, off, rfl, c0⟩ := row_int (HA.out.below HBT.out.below) hx
      have HX := Lib.hid hx
      have HMS := Lib.hid (moves_take_len l m k)
      clear hx
      by_cases hkm : k < m.length
      · obtain ⟨y, hy⟩ : ∃ y, m[k]? = some y := ⟨_, List.getElem?_eq_getElem hkm⟩
        obtain ⟨b', off', rfl, d0⟩ := row_int (HB.out.below HBT.out.below) hy
        have HN := Lib.hid (moves_next HX.out hy)
        clear hy
        by_cases exy : x = y
        · subst exy
          have HN2 := Lib.hid (show moves (l.take (k + 1)) (m.take (k + 1)) = moves (l.take k) (m.take k) by rw [HN.out, if_pos rfl, List.append_nil])
          clear HN
          go_wp2_with fail
          go_quiet (fail)
          go_wp2_with fail
          go_roundw
          case rel => exact ⟨k + 1, by go_num, by omega, by rw [HN2.out]; exact HBT.out.drewN _⟩
          case measure => simp [intOf]; omega
        · have c1 : ∀ n, ((wr.drewN n).drew).cell? ⟨b, off + k, none⟩ = some (.int .i64 x) := fun n => c0
          have d1 : ∀ n, ((wr.drewN n).drew).cell? ⟨b', off' + k, none⟩ = some (.int .i64 y) := fun n => d0
          obtain ⟨ms, hms⟩ : ∃ ms, ms = moves (l.take k) (m.take k) := ⟨_, rfl⟩
          have hml : (ms.length + 1) * 24 ≤ 140737488355328 := by rw [hms]; have := HMS.out; have := HL.out; omega
          have HNE := Lib.hid (show moves (l.take (k + 1)) (m.take (k + 1)) = ms ++ [⟨(k : Int), x, y⟩] by rw [HN.out, if_neg exy, hms])
          rw [← hms] at HBT
          have HML := Lib.hid hml
          clear hms hml HN HMS
          go_wp2_with fail
          go_quiet (fail)
          go_wp2_with fail
          refine wide_tail1 11 (fun w5 => w5 = (wr.drewN nq).drew) _ u5 rfl rfl rfl (by kernel_rfl) (by kernel_rfl) (fun _ _ _ _ h => h) rfl ?_
          simp only [Nat.add_one_sub_one, List.take_succ_cons, List.take_zero, List.drop_succ_cons, List.drop_zero, Act.put, List.setIfInBounds_toArray, List.set_cons_zero, List.set_cons_succ]
          repeat (first
            | go_big_quiet_skip
            | (go_big_quiet_want
               apply wide_op
               · (intro w5 h5; subst h5; go_simp; first | done | with_reducible rfl | exact ⟨rfl, rfl⟩)
               (try simp only [Act.put, List.setIfInBounds_toArray, List.set_cons_zero, List.set_cons_succ])
               go_big_quiet_on))
          refine wpQuiet_nil ?_
          intro w7 h7
          subst h7
          go_wp2_with (at_builtin; refine hold_mk ?_)
          refine hold_out ?_
          refine wpPushM rfl _ _ rfl u5 ms rfl (((HBT.out.drewN nq).drew).up (al_belowM _ (.cells (mC ⟨(k : Int), x, y⟩) 33))) _ 1 1 [⟨(k : Int), x, y⟩] rfl (one_mv _ _) rfl HML.out ?_
          intro v8 w8 bt8 _
          have HBT8 := Lib.hid bt8
          clear bt8
          go_wp2_with fail
          go_roundw
          case rel => exact ⟨k + 1, by go_num, by omega, by rw [HNE.out]; exact HBT8.out⟩
          case measure => simp [intOf]; omega
      · have hge : m.length ≤ k := by omega
        have HN := Lib.hid (moves_skip (l := l) hge)
        go_wp2_with fail
        go_quiet (fail)
        go_wp2_with fail
        go_roundw
        case rel => exact ⟨k + 1, by go_num, by omega, by rw [HN.out]; exact HBT.out.drewN _⟩
        case measure => simp [intOf]; omega
    · have hge : l.length ≤ k := by omega
      have HE := Lib.hid (show moves (l.take k) (m.take k) = us from by rw [moves_end (.inl hge), HU.out])
      clear hlt
      go_wp2_with fail
      go_ret
      rw [← HE.out]
      exact HBT.out.gives
end Rg
end Go.Proofs.Ytnmhacjokjcpfaa
