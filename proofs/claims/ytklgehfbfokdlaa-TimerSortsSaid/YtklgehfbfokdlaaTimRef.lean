/- The reference of the timers: Ahead, With, Parts, Without, Like. -/
import Derived.Test.YtklgehfbfokdlaaTimAll
import Derived.Test.YtklgehfbfokdlaaTimDel
namespace Go.Proofs.Ytklgehfbfokdlaa
open Go.RowKit
set_option linter.unusedVariables false
namespace Tim
/-- What is being built, since the world w0. -/
structure Built (w0 w : World) (v : Value) (ms : List Tm) : Prop where
  own : w.ownsRow w0.heap.size 27 2 v ms.length (tc ms)
  below : Below w0.heap.size w0 w
namespace Built
variable {w0 a b : World} {v : Value} {ms : List Tm}
theorem far (h : Built w0 a v ms) {q : Nat} (hq : v.ownBlock = some q) : w0.heap.size ≤ q ∧ q < a.heap.size := own_lt h.own q hq
theorem up (h : Built w0 a v ms) (hb : Below a.heap.size a b) : Built w0 b v ms := ⟨ownsRow_block h.own fun k _ hlt => hb.block k hlt, below_next h.below hb⟩
theorem none_ (w : World) : Built w w (.slice none 0 0) [] := ⟨own_none, Below.refl _ _⟩
theorem keep {row : Option Nat} (h : Built w0 a v ms) (hg : a.grownBy b row) (hne : ∀ q, v.ownBlock = some q → row ≠ some q) (hb : Below w0.heap.size w0 b) : Built w0 b v ms :=
  ⟨ownsRow_block h.own fun k hk hlt => hg.block k hlt fun e => hne k hk e.symm, hb⟩
end Built
/-- An append to it. -/
theorem wpPush {ops : Array Oper} {rest : List Oper} {o : Oper} {a : Act} {Q : Exit → Act → World → Prop} {w0 w : World} (hgd : o.guard = none) (s x : Operand)
    (ho : o.op = .call { callee := .builtin .append, args := #[s, x], argTypes := #[25, 25] }) (v : Value) (ms : List Tm) (hs : a.eval s = v) (h : Built w0 w v ms)
    (ad : Addr) (m c : Nat) (ys : List Tm) (hx : a.eval x = .slice (some ad) m c) (hr : Row w (some ad) (tc ys)) (hm : m = ys.length) (hlen : ms.length + ys.length ≤ 100000)
    (hk : ∀ v' w', Built w0 w' v' (ms ++ ys) → w.grownBy w' v.ownBlock → (v'.ownBlock = v.ownBlock ∨ v'.ownBlock = some w.heap.size) → wpList Try.prog ops Q rest (a.put o.dst v') w') :
    wpList Try.prog ops Q (o :: rest) a w := by
  subst hm
  obtain ⟨i0, hi0, hz0, hz1, hz2⟩ := info_parts tmInfo
  have hcells : ∀ j u, (tc ys)[j]? = some u → w.cell? (ad.add j) = some u := by
    rcases hr with hr | ⟨b, off, hr, hc⟩
    · rw [hr]; intro j u hu; simp at hu
    · cases hr
      intro j u hu
      rw [Go.WideShapes.add_plain]
      exact hc j u hu
  refine wpList_append_own_at w hgd s x 25 ho w0.heap.size 27 i0 _ 2 24 Try.underlying25 hi0 hz0 hz1 hz2 rfl (by omega) v ms.length (tc ms) hs h.own ad ys.length c (tc ys) hx (tc_len ys) hcells (tc_ones ys)
    (by unfold maxLen; omega) (by omega) h.below.size ?_
  intro v' w' hown hg _ hat
  refine hk v' w' ⟨by rw [List.length_append, tc_app]; exact hown, h.below.grown hg h.below.size fun q hq => (h.far hq).1⟩ hg hat
theorem lies_grownR {w w' : World} {row : Option Nat} {b : Nat} {C : Array Value} {T : TypeId} (h : Lies b C T w) (hg : w.grownBy w' row) (hne : row ≠ some b) : Lies b C T w' :=
  (hg.block b (lt_of_block h) (fun e => hne e.symm)).trans h
theorem one_row (w : World) (x : Tm) : Row (w.alloc (.cells (tmC x) 27)) (some ⟨w.heap.size, 0, none⟩) (tc [x]) := by
  refine .inr ⟨w.heap.size, 0, rfl, fun j u hu => ?_⟩
  rw [tc_one] at hu
  rw [Nat.zero_add]
  exact (Lies.new w (tmC x) 27).cell (by simpa [tL] using hu)
theorem rfAhead (x y : Tm) (w : World) : Calls Try.prog 20 #[tmV x, tmV y] w (TellsB (ahead x y) w) := by
  have hb := Lib.hid (below_al (o := .cells (tmC y) 27) (below_al (o := .cells (tmC x) 27) (Below.refl w.heap.size w)))
  by_cases h1 : x.at_ < y.at_
  · have he := Lib.hid (show ahead x y = true from (ahead_iff x y).2 (.inl h1))
    go_enter Try.func20, Try.ntmps20
    go_wp2_with fail
    go_ret
    exact ⟨by rw [he.out]; rfl, hb.out⟩
  · by_cases h2 : x.at_ = y.at_
    · have h3 : (x.at_ == y.at_) = true := eq_b h2
      have h4 : Op.bytesLess (kS x.name).toList (kS y.name).toList = less x.name y.name := by rw [kS_list, kS_list]
      have he := Lib.hid (show ahead x y = less x.name y.name by unfold ahead; simp [h2])
      have hd : decide (x.at_ < y.at_) = false := decide_eq_false h1
      obtain ⟨b, hbb⟩ : ∃ b, b = less x.name y.name := ⟨_, rfl⟩
      rw [← hbb] at h4 he
      clear hbb h1 h2
      go_enter Try.func20, Try.ntmps20
      go_wp2_with fail
      go_ret
      exact ⟨by rw [he.out]; rfl, hb.out⟩
    · have h3 : (x.at_ == y.at_) = false := ne_b h2
      have he := Lib.hid (show ahead x y = false by unfold ahead; simp [h1, h2])
      have hd : decide (x.at_ < y.at_) = false := decide_eq_false h1
      clear h1 h2
      go_enter Try.func20, Try.ntmps20
      go_wp2_with fail
      go_ret
      exact ⟨by rw [he.out]; rfl, hb.out⟩
theorem tfields : Try.prog.underlying 27 = some (.struct (Try.prog.fieldsOf 27)) := by kernel_rfl
theorem tstood : Try.prog.stoodInHeld 27 = false := by kernel_rfl
theorem run_sameTm (x : Tm) (w : World) : (binOp .neq 27 (tmV x) (tmV x)).run Try.prog w = .ok (.bool false) w := by
  have h1 := Try.underlying9
  have h2 := Try.underlying2
  rw [run_neq_struct, show (10000 : Nat) = 9999 + 1 from rfl, run_equalIn_agg w _ _ _ _ tfields tstood]
  simp [Program.fieldsOf, Try.underlying27, Op.eqFields, part, isAgg, run_underlying h1, run_underlying h2, run_equalIn_string w 9998 _ _ _ h1, run_equalIn_int w 9998 _ .i64 .i64 _ _ h2]
set_option maxHeartbeats 1000000 in
/-- The same timers in two rows. -/
theorem rfLike (xs : List Tm) (hl : xs.length ≤ 100000) (A A' : Option Addr) (c c' : Nat) (w : World) (hA : Row w A (tc xs)) (hA' : Row w A' (tc xs)) :
    Calls Try.prog 14 #[.slice A xs.length c, .slice A' xs.length c'] w (TellsB true w) := by
  have HA := Lib.hid hA
  have HA' := Lib.hid hA'
  clear hA hA'
  go_enter Try.func14, Try.ntmps14
  go_wp2_with fail
  go_loopw [13] (fun i wr => ∃ k : Nat, i = .int .i64 k ∧ k ≤ xs.length ∧ ∃ n, wr = w.drewN n) (fun i _ => xs.length - (intOf i).toNat)
  case atStart => exact ⟨0, rfl, Nat.zero_le _, 0, rfl⟩
  case round =>
    obtain ⟨k, rfl, hk, n, rfl⟩ := hrel
    by_cases hlt : k < xs.length
    · obtain ⟨x, hx⟩ : ∃ x, xs[k]? = some x := ⟨_, List.getElem?_eq_getElem hlt⟩
      obtain ⟨b, off, rfl, c0, c1⟩ := row_at HA.out hx
      obtain ⟨b', off', rfl, d0, d1⟩ := row_at HA'.out hx
      have he : ∀ w : World, (binOp .neq 27 (tmV x) (tmV x)).run Try.prog w = .ok (.bool false) w := fun w => run_sameTm x w
      have HX := Lib.hid hx
      clear hx
      go_wp2_with fail
      go_quiet (fail)
      go_wp2_with fail
      go_roundw
      case rel => exact ⟨k + 1, by go_num, by omega, _, rfl⟩
      case measure => simp [intOf]; omega
    · have hge : xs.length ≤ k := by omega
      go_wp2_with fail
      go_ret
      exact ⟨rfl, below_drewN (Below.refl _ _)⟩
theorem own_to_row {w : World} {B : Nat} {v : Value} {xs : List Tm} (h : w.ownsRow B 27 2 v xs.length (tc xs)) : ∃ A c, v = .slice A xs.length c ∧ xs.length ≤ c ∧ c ≤ maxLen ∧ Row w A (tc xs) ∧ (∀ a, A = some a → B ≤ a.block ∧ a.block < w.heap.size) := by
  obtain ⟨A, c, e, h1, h2, _, h3, h4⟩ := own_form h (by omega)
  exact ⟨A, c, e, h1, h2, h3, h4⟩
end Tim
end Go.Proofs.Ytklgehfbfokdlaa
