/- The law's lose. -/
import Derived.Test.YtbdlmokgmgpbfaaLinkTell
namespace Go.Proofs.Ytbdlmokgmgpbfaa
open Go.ChangeShapes Go.WideShapes Go.ChangeAt Go.RowKit
set_option linter.unusedVariables false
set_option maxRecDepth 8000
namespace Lk
open Gen (TellsB TellsI Mine flat_len flat_get)
theorem step_pushK {ops : Array Oper} {o : Oper} {a : Act} {w w0 : World} {K : Act → World → Prop} {Q : Exit → Act → World → Prop} {E : Prop}
    (hg : o.guard = none) (s x : Operand) (hop : o.op = Op.call { callee := Callee.builtin Builtin.append, args := #[s, x], argTypes := #[35, 35] })
    (v : Value) (ms : List Pk) (hs : a.eval s = v) (h : BuiltP w0 w v ms)
    (ad : Addr) (m c : Nat) (ys : List Pk) (hx : a.eval x = .slice (some ad) m c) (hm : ys.length = m) (hr : ∀ j u, (pcs ys)[j]? = some u → w.cell? (ad.add j) = some u) (hlen : ms.length + m ≤ 100000)
    (hK : ∀ v' w', BuiltP w0 w' v' (ms ++ ys) → K (a.put o.dst v') w') :
    if Region.wanted o (yielded ops a.tmps) = true then Oper.wp Try.prog o a w K Q else E := by
  obtain ⟨i0, hi0, hz0, hz1, hz2⟩ := info_partsL PInfo
  refine step_app hg s x 35 hop w0.heap.size 26 i0 _ 3 32 Try.underlying35 hi0 hz0 hz1 hz2 rfl (by omega) v ms.length (pcs ms) hs h.own ad m c (pcs ys) hx (by rw [pcs_len, hm]) hr (pcs_ones ys) (by unfold maxLen; omega) (by omega) h.below.size ?_
  intro v' w' r1 r2 _
  exact hK v' w' ⟨by rw [List.length_append, hm, pcs_app]; exact r1, h.below.grown r2 h.below.size fun q hq => (h.far hq).1⟩
theorem row_cellsL {w : World} {b off : Nat} {cs : List Value} (h : Row w (some ⟨b, off, none⟩) cs) {j : Nat} {u : Value} (hu : cs[j]? = some u) : w.cell? ⟨b, off + j, none⟩ = some u := by
  rcases h with h | ⟨b', off', h1, h2⟩
  · rw [h] at hu; simp at hu
  · cases h1; exact h2 j u hu
theorem pcs_take (l : List Pk) (m : Nat) : pcs (l.take m) = (pcs l).take (m * 3) := (Gen.flat_take pkL pkL_len l m).symm
theorem pcs_drop (l : List Pk) (m : Nat) : pcs (l.drop m) = (pcs l).drop (m * 3) := by
  rcases Nat.lt_or_ge m l.length with h | h
  · have e : pcs l = pcs (l.take m) ++ pcs (l.drop m) := by rw [← pcs_app, List.take_append_drop]
    have hl : (pcs (l.take m)).length = m * 3 := by rw [pcs_len, List.length_take, Nat.min_eq_left (by omega)]
    rw [e, ← hl, List.drop_left]
  · rw [List.drop_eq_nil_of_le h, List.drop_eq_nil_of_le (by rw [pcs_len]; exact Nat.mul_le_mul_right 3 h)]
    rfl
set_option maxRecDepth 100000 in
set_option maxHeartbeats 4000000 in
theorem lawLose (w0 : World) (b : Nat) (p : Wy) (k : Nat) (hk : k < p.way.length) (hl : p.way.length ≤ 10000) (w : World) (h : Plays w0 b p w) :
    Calls Try.prog 39 #[.pointer (some ⟨b, 0, none⟩), .int .i64 k] w (DidP w0 b { p with way := p.way.eraseIdx k }) := by
  obtain ⟨vb, vw, vp, vg, vs, hP⟩ := h
  obtain ⟨n, hn⟩ : ∃ n, n = p.way.length := ⟨_, rfl⟩
  have hway := hP.way
  rw [← hn] at hway hk hl
  obtain ⟨WA, c, rfl, hc, hcm, _, hrow, _⟩ := own_form hway (by omega)
  obtain ⟨g, off, rfl, hd⟩ := row_pk hrow (k := k) (List.getElem?_eq_getElem (by rw [← hn]; exact hk))
  clear hd
  obtain ⟨l, hle⟩ : ∃ l, l = p.way := ⟨_, rfl⟩
  rw [← hle] at hn hrow
  rw [← hle]
  have B0 := Lib.hid (show BuiltP w (w.drew.alloc (.cells #[] 26)) (.slice (some ⟨w.drew.heap.size, 0, none⟩) 0 0) [] from ⟨own_new (Nat.le_refl _), below_al (below_drewOf (Below.refl _ _))⟩)
  have C0 := Lib.hid (show ∀ j u, (pcs (l.take k))[j]? = some u → (w.drew.alloc (.cells #[] 26)).cell? ((⟨g, off, none⟩ : Addr).add j) = some u from fun j u hu => by
    rw [Go.WideShapes.add_plain]
    rw [pcs_take, List.getElem?_take] at hu
    split at hu
    · exact row_cellsL (hrow.below (below_al (below_drewOf (Below.refl _ _)))) hu
    · cases hu)
  have hway2 : (c = k + 1 ∧ n = k + 1) ∨ (¬ c = k + 1 ∧ k + 1 ≤ c) := by omega
  have D1 := Lib.hid (show ∀ (w1 : World), Below w.heap.size w w1 → ∀ j u, (pcs (l.drop (k + 1)))[j]? = some u → w1.cell? ((⟨g, off + (k + 1) * 3, none⟩ : Addr).add j) = some u from fun w1 hb j u hu => by
    rw [Go.WideShapes.add_plain]
    rw [pcs_drop, List.getElem?_drop] at hu
    have := row_cellsL (hrow.below hb) hu
    rwa [← Nat.add_assoc] at this)
  have HE := Lib.hid (show l.eraseIdx k = l.take k ++ l.drop (k + 1) from List.eraseIdx_eq_take_drop_succ ..)
  have L1 := Lib.hid (show (l.take k).length = k by rw [List.length_take]; omega)
  have L2 := Lib.hid (show (l.drop (k + 1)).length = n - (k + 1) by rw [List.length_drop, hn])
  have HP := Lib.hid hP
  have HN := Lib.hid hn
  have HKN := Lib.hid (And.intro hk hl)
  have x6 : w.cell? ⟨b, 6, none⟩ = some (.slice (some ⟨g, off, none⟩) n c) := hP.at_.cell (j := 6) rfl
  have t1 : k ≤ c := by omega
  have t2 : k + 1 ≤ n := by omega
  have t3 : (k : Int) + 1 ≤ (n : Int) := by omega
  have t4 : (k : Int) ≤ (c : Int) := by omega
  have t5 : (0 : Int) ≤ (k : Int) := by omega
  have t6 : (0 : Int) ≤ (k : Int) + 1 := by omega
  have t7 : IntKind.i64.wrap ((k : Int) + 1) = (k : Int) + 1 := wrap64L (by omega) (by omega)
  have t8 : ((k : Int) + 1).toNat = k + 1 := by omega
  have t9 : (n : Int) ≤ (c : Int) := by omega
  have t10 : (k : Int) ≤ (n : Int) := by omega
  have hbb := lies_lt hP.at_
  clear hP hway hc hcm hrow hn hle hk hl
  rcases hway2 with ⟨h1, h2⟩ | ⟨h1, h2⟩
  · have L3 := Lib.hid (show l.drop (k + 1) = [] from List.drop_of_length_le (by rw [← HN.out]; omega))
    subst h1
    subst h2
    have t11 : (k : Int) ≤ (k : Int) + 1 := by omega
    have t12 : ¬ k + 1 = k := by omega
    have t13 : (k : Int).toNat = k := by omega
    go_enter Try.func39, Try.ntmps39
    go_wp2_with fail
    go_region_law (first | (refine step_pushK rfl (.tmp 5) (.tmp 11) rfl _ [] (by simp [Act.eval, Act.put]) B0.out ⟨g, off, none⟩ k (k + 1) (l.take k) (by simp [Act.eval, Act.put]) L1.out C0.out (by have := HKN.out; simp; omega) ?_; intro v1 w1 b1; have B1 := Lib.hid b1; have z6 := (HP.out.next b1.below).at_.cell (j := 6) rfl; clear b1) | (refine step_pushK rfl (.tmp 12) (.tmp 19) rfl _ _ (by simp [Act.eval, Act.put]) B1.out ⟨g, off, none⟩ 0 0 [] (by simp [Act.eval, Act.put]) rfl (by intro j u hu; simp at hu) (by have := HKN.out; rw [List.nil_append, L1.out]; omega) ?_; intro v2 w2 b2; have HF := Lib.hid (show [] ++ l.take k ++ [] = l.eraseIdx k by rw [HE.out, L3.out, List.nil_append]); rw [HF.out] at b2; obtain ⟨ln, hln⟩ : ∃ ln, ln = (l.eraseIdx k).length := ⟨_, rfl⟩; have ho2 := b2.own; rw [← hln] at ho2; obtain ⟨D, dd, rfl, _⟩ := own_form ho2 (by omega); have B2 := Lib.hid b2; have HLN := Lib.hid hln; have O2 := Lib.hid ho2; have PX := Lib.hid (HP.out.next b2.below); have y6 := PX.out.at_.cell (j := 6) rfl; have g6 := PX.out.at_.free 6; clear b2 hln ho2))
    all_goals
      go_end0
      exact ⟨rfl, _, _, _, _, _, PX.out.wy (World.grownBy.refl _ none) (fun q hq => by cases hq) (l.eraseIdx k) (.slice D ln dd) ln HLN.out (own_baseL O2.out HP.out.below.size)⟩
  · go_enter Try.func39, Try.ntmps39
    go_wp2_with fail
    go_region_law (first | (refine step_pushK rfl (.tmp 5) (.tmp 11) rfl _ [] (by simp [Act.eval, Act.put]) B0.out ⟨g, off, none⟩ k c (l.take k) (by simp [Act.eval, Act.put]) L1.out C0.out (by have := HKN.out; simp; omega) ?_; intro v1 w1 b1; have B1 := Lib.hid b1; have z6 := (HP.out.next b1.below).at_.cell (j := 6) rfl; clear b1) | (refine step_pushK rfl (.tmp 12) (.tmp 19) rfl _ _ (by simp [Act.eval, Act.put]) B1.out ⟨g, off + (k + 1) * 3, none⟩ (n - (k + 1)) (c - (k + 1)) (l.drop (k + 1)) (by simp [Act.eval, Act.put]) L2.out (D1.out _ B1.out.below) (by have := HKN.out; rw [List.nil_append, L1.out]; omega) ?_; intro v2 w2 b2; have HF := Lib.hid (show [] ++ l.take k ++ l.drop (k + 1) = l.eraseIdx k by rw [HE.out, List.nil_append]); rw [HF.out] at b2; obtain ⟨ln, hln⟩ : ∃ ln, ln = (l.eraseIdx k).length := ⟨_, rfl⟩; have ho2 := b2.own; rw [← hln] at ho2; obtain ⟨D, dd, rfl, _⟩ := own_form ho2 (by omega); have B2 := Lib.hid b2; have HLN := Lib.hid hln; have O2 := Lib.hid ho2; have PX := Lib.hid (HP.out.next b2.below); have y6 := PX.out.at_.cell (j := 6) rfl; have g6 := PX.out.at_.free 6; clear b2 hln ho2))
    all_goals
      go_end0
      exact ⟨rfl, _, _, _, _, _, PX.out.wy (World.grownBy.refl _ none) (fun q hq => by cases hq) (l.eraseIdx k) (.slice D ln dd) ln HLN.out (own_baseL O2.out HP.out.below.size)⟩
end Lk
end Go.Proofs.Ytbdlmokgmgpbfaa
