/- PaneRes, put together. -/
import Derived.Test.YtipmphkmeiogoaaZ12
import Derived.Test.YtipmphkmeiogoaaZ11
/- Results: of package pane, of the reference; rows of results compared. -/
namespace Go.Proofs.Ytipmphkmeiogoaa
open Go.RowKit
open Pan
set_option linter.unusedVariables false
set_option maxRecDepth 8000
namespace Pan
/-- A result. -/
structure Rs where
  p : Pl
  n : Int
  v : Int
def resOf (k : Int) (x : Pn) : Rs := ⟨x.p, x.acc.n, Acm.val k x.acc⟩
def resO (k : Int) (xs : List Pn) : List Rs := if right xs && Acm.isK k then xs.map (resOf k) else []
end Pan
abbrev rsC (x : Rs) : Array Value := #[.int .i64 x.p.lo, .int .i64 x.p.hi, .string (kS x.p.key), .int .i64 x.n, .int .i64 x.v]
abbrev rsV (x : Rs) : Value := .agg (rsC x)
def rL (x : Rs) : List Value := [.int .i64 x.p.lo, .int .i64 x.p.hi, .string (kS x.p.key), .int .i64 x.n, .int .i64 x.v]
def rc (xs : List Rs) : List Value := xs.flatMap rL
theorem rL_len (x : Rs) : (rL x).length = 5 := rfl
theorem rc_len (xs : List Rs) : (rc xs).length = xs.length * 5 := flat_len rL rL_len xs
theorem rc_app (xs ys : List Rs) : rc (xs ++ ys) = rc xs ++ rc ys := by simp [rc]
theorem rc_one (x : Rs) : rc [x] = rL x := by simp [rc]
theorem rc_ones (xs : List Rs) : ∀ u ∈ rc xs, u.oneCell' = true := by
  intro u hu
  obtain ⟨p, _, hp⟩ := List.mem_flatMap.1 hu
  simp only [rL, List.mem_cons, List.not_mem_nil, or_false] at hp
  rcases hp with rfl | rfl | rfl | rfl | rfl <;> rfl
structure RsAt (w : World) (b o : Nat) (x : Rs) : Prop where
  c0 : w.cell? ⟨b, o, none⟩ = some (.int .i64 x.p.lo)
  c1 : w.cell? ⟨b, o + 1, none⟩ = some (.int .i64 x.p.hi)
  c2 : w.cell? ⟨b, o + 2, none⟩ = some (.string (kS x.p.key))
  c3 : w.cell? ⟨b, o + 3, none⟩ = some (.int .i64 x.n)
  c4 : w.cell? ⟨b, o + 4, none⟩ = some (.int .i64 x.v)
theorem Row.rs {w : World} {A : Option Addr} {xs : List Rs} (h : Row w A (rc xs)) {k : Nat} {x : Rs} (hk : xs[k]? = some x) : ∃ b off, A = some ⟨b, off, none⟩ ∧ RsAt w b (off + k * 5) x := by
  have g : ∀ j, j < 5 → (rc xs)[k * 5 + j]? = (rL x)[j]? := fun j hj => flat_get rL rL_len hk hj
  have g0 := g 0 (by omega); have g1 := g 1 (by omega); have g2 := g 2 (by omega); have g3 := g 3 (by omega); have g4 := g 4 (by omega)
  rcases h with h | ⟨b, off, rfl, h⟩
  · rw [h] at g0; simp [rL] at g0
  · refine ⟨b, off, rfl, ?_, ?_, ?_, ?_, ?_⟩
    · exact h _ _ g0
    · rw [Nat.add_assoc]; exact h _ _ g1
    · rw [Nat.add_assoc]; exact h _ _ g2
    · rw [Nat.add_assoc]; exact h _ _ g3
    · rw [Nat.add_assoc]; exact h _ _ g4
theorem rsInfo : (Try.prog.info? 50).map (fun i => (i.zero, i.size, i.bytes)) = some (some (.agg #[.int .i64 0, .int .i64 0, .string ByteArray.empty, .int .i64 0, .int .i64 0]), 5, 48) := by kernel_rfl
def GivesR (xs : List Rs) (w : World) (e : Ending) (w' : World) : Prop :=
  ∃ A c, e = .returned (.slice A xs.length c) ∧ xs.length ≤ c ∧ c ≤ maxLen ∧ Row w' A (rc xs) ∧ Below w.heap.size w w'
structure BuiltR (w0 w : World) (v : Value) (ms : List Rs) : Prop where
  own : w.ownsRow w0.heap.size 50 5 v ms.length (rc ms)
  below : Below w0.heap.size w0 w
namespace BuiltR
variable {w0 a b : World} {v : Value} {ms : List Rs}
theorem far (h : BuiltR w0 a v ms) {q : Nat} (hq : v.ownBlock = some q) : w0.heap.size ≤ q ∧ q < a.heap.size := h.own.lt q hq
theorem up (h : BuiltR w0 a v ms) (hb : Below a.heap.size a b) : BuiltR w0 b v ms := ⟨own_up h.own hb, below_next h.below hb⟩
theorem drew (h : BuiltR w0 a v ms) : BuiltR w0 a.drew v ms := ⟨h.own.drew, below_drewOf h.below⟩
theorem none_ (w : World) : BuiltR w w (.slice none 0 0) [] := ⟨own_none, Below.refl _ _⟩
theorem gives (h : BuiltR w0 a v ms) : GivesR ms w0 (.returned v) a := by
  obtain ⟨A, c, rfl, h1, h2, _, h3, _⟩ := own_form h.own (by omega)
  exact ⟨A, c, rfl, h1, h2, h3, h.below⟩
end BuiltR
theorem wpPushR {ops : Array Oper} {rest : List Oper} {o : Oper} {a : Act} {Q : Exit → Act → World → Prop} {w0 w : World} (hgd : o.guard = none) (s x : Operand)
    (ho : o.op = .call { callee := .builtin .append, args := #[s, x], argTypes := #[37, 37] }) (v : Value) (ms : List Rs) (hs : a.eval s = v) (h : BuiltR w0 w v ms)
    (ad : Addr) (m c : Nat) (ys : List Rs) (hx : a.eval x = .slice (some ad) m c) (hr : Row w (some ad) (rc ys)) (hm : m = ys.length) (hlen : ms.length + ys.length ≤ 100000)
    (hk : ∀ v' w', BuiltR w0 w' v' (ms ++ ys) → w.grownBy w' v.ownBlock → wpList Try.prog ops Q rest (a.put o.dst v') w') :
    wpList Try.prog ops Q (o :: rest) a w := by
  subst hm
  obtain ⟨i0, hi0, hz0, hz1, hz2⟩ := info_parts rsInfo
  have hcells : ∀ j u, (rc ys)[j]? = some u → w.cell? (ad.add j) = some u := by
    rcases hr with hr | ⟨b, off, hr, hc⟩
    · rw [hr]; intro j u hu; simp at hu
    · cases hr
      intro j u hu
      rw [Go.WideShapes.add_plain]
      exact hc j u hu
  refine wpList_append_own_at w hgd s x 37 ho w0.heap.size 50 i0 _ 5 48 Try.underlying37 hi0 hz0 hz1 hz2 rfl (by omega) v ms.length (rc ms) hs h.own ad ys.length c (rc ys) hx (rc_len ys) hcells (rc_ones ys)
    (by unfold maxLen; omega) (by omega) h.below.size ?_
  intro v' w' hown hg _ hat
  exact hk v' w' ⟨by rw [List.length_append, rc_app]; exact hown, h.below.grown hg h.below.size fun q hq => (h.far hq).1⟩ hg
theorem one_rowR (w : World) (x : Rs) : Row (w.alloc (.cells (rsC x) 50)) (some ⟨w.heap.size, 0, none⟩) (rc [x]) := by
  refine .inr ⟨w.heap.size, 0, rfl, fun j u hu => ?_⟩
  rw [rc_one] at hu
  rw [Nat.zero_add]
  refine (Lies.new w (rsC x) 50).cell ?_
  rw [← hu]
  unfold rL rsC
  simp
theorem foldValB (k : Int) (x : Acm.Ac) (w : World) : Calls Try.prog 54 #[.int .i64 k, Acm.acV x] w (TellsI (Acm.val k x) w) :=
  (foldVal k x w).mono fun e w' ⟨h1, h2⟩ => ⟨h1, by rw [h2]; exact below_al (Below.refl _ _)⟩
theorem refValB (k : Int) (x : Acm.Ac) (w : World) : Calls Try.prog 62 #[.int .i64 k, Acm.acV x] w (TellsI (Acm.val k x) w) :=
  (refVal k x w).mono fun e w' ⟨h1, h2⟩ => ⟨h1, by rw [h2]; exact below_al (Below.refl _ _)⟩
def RC (bx : Nat) (x : Pn) (w0 : World) (v : Value) (ms : List Rs) (w : World) : Prop := PnAt w bx 0 x ∧ BuiltR w0 w v ms
theorem RC.next {bx : Nat} {x : Pn} {w0 : World} {v : Value} {ms : List Rs} {a b : World} (h : RC bx x w0 v ms a) (hb : Below a.heap.size a b) : RC bx x w0 v ms b := ⟨h.1.below hb, h.2.up hb⟩

set_option maxRecDepth 100000 in
set_option maxHeartbeats 2000000 in
theorem paResults (k : Int) (xs : List Pn) (A : Option Addr) (c : Nat) (w : World) (hA : Row w A (pc xs)) (hl : xs.length ≤ 9223372036854775807) :
    Calls Try.prog 32 #[.int .i64 k, .slice A xs.length c] w (GivesR (resO k xs) w) := by
  have HR := Lib.hid (fun w' (hb : Below w.heap.size w w') => paRight xs A c w' (hA.below hb) hl)
  have HK := Lib.hid (foldRight k)
  have HA := Lib.hid hA
  obtain ⟨b1, h1⟩ : ∃ b, b = right xs := ⟨_, rfl⟩
  obtain ⟨b2, h2⟩ : ∃ b, b = Acm.isK k := ⟨_, rfl⟩
  have hres : resO k xs = if b1 && b2 then xs.map (resOf k) else [] := by rw [h1, h2]; rfl
  have hx20 : b1 = true → xs.length ≤ 2000 := fun h => ((right_iff xs).1 (h1 ▸ h)).1
  rw [← h1] at HR
  rw [← h2] at HK
  rw [hres]
  clear h1 h2 hA hres
  cases b1
  · clear hx20
    go_enter Try.func32, Try.ntmps32
    go_wp2_with fail
    refine (HR.out _ (by first | exact Below.refl _ _ | exact below_al (Below.refl _ _))).mono ?_
    rintro e w1 ⟨rfl, hb1⟩
    have HB1 := Lib.hid hb1
    clear hb1
    go_wp2_with fail
    go_ret
    exact ⟨none, 0, rfl, Nat.le_refl _, by simp [maxLen], .inl rfl, HB1.out⟩
  · have hx20 := hx20 rfl
    cases b2
    · go_enter Try.func32, Try.ntmps32
      go_wp2_with fail
      refine (HR.out _ (by first | exact Below.refl _ _ | exact below_al (Below.refl _ _))).mono ?_
      rintro e w1 ⟨rfl, hb1⟩
      have HB1 := Lib.hid hb1
      clear hb1
      go_wp2_with fail
      refine (HK.out _).mono ?_
      rintro e w2 ⟨rfl, rfl⟩
      go_wp2_with fail
      go_ret
      exact ⟨none, 0, rfl, Nat.le_refl _, by simp [maxLen], .inl rfl, HB1.out⟩
    · go_enter Try.func32, Try.ntmps32
      go_wp2_with fail
      refine (HR.out _ (by first | exact Below.refl _ _ | exact below_al (Below.refl _ _))).mono ?_
      rintro e w1 ⟨rfl, hb1⟩
      have HB0 : Hid (BuiltR w w1 (.slice none 0 0) []) := Lib.hid ((BuiltR.none_ w).up hb1)
      clear hb1
      go_wp2_with fail
      refine (HK.out _).mono ?_
      rintro e w2 ⟨rfl, rfl⟩
      go_wp2_with fail
      go_loopw [5, 18] (fun v i wr => ∃ j : Nat, i = .int .i64 j ∧ j ≤ xs.length ∧ BuiltR w wr v ((xs.take j).map (resOf k))) (fun _ i _ => xs.length - (intOf i).toNat)
      case atStart => exact ⟨0, rfl, Nat.zero_le _, HB0.out⟩
      case round =>
        obtain ⟨j, rfl, hj, hbt⟩ := hrel
        have HBT := Lib.hid hbt
        clear hbt
        by_cases hlt : j < xs.length
        · obtain ⟨x, hx⟩ : ∃ x, xs[j]? = some x := ⟨_, List.getElem?_eq_getElem hlt⟩
          obtain ⟨b, off, rfl, c0, c1, c2, c3, c4, c5⟩ := (HA.out.below HBT.out.below).pn hx
          have HN := Lib.hid (show (xs.take (j + 1)).map (resOf k) = (xs.take j).map (resOf k) ++ [resOf k x] from by rw [take_snoc hx, List.map_append]; rfl)
          have hml : ((xs.take j).map (resOf k)).length ≤ 2000 := by rw [List.length_map, List.length_take]; omega
          have HV := Lib.hid (fun w => foldValB k x.acc w)
          obtain ⟨ms, hms⟩ : ∃ ms, ms = (xs.take j).map (resOf k) := ⟨_, rfl⟩
          rw [← hms] at HN hml HBT
          clear hx hms
          go_wp2_with fail
          have W0 := Lib.hid (show RC wr.heap.size x w u5 ms (wr.alloc (.cells (paC x) 82)).drew from ⟨(PnAt.of_lies (Lies.new wr _ _)).drew, (HBT.out.up (below_al (Below.refl _ _))).drew⟩)
          refine wide_tail1 13 (RC wr.heap.size x w u5 ms) _ u5 rfl rfl rfl (by kernel_rfl) (by kernel_rfl) (fun _ _ _ _ h => h) W0.out ?_
          simp only [Nat.add_one_sub_one, List.take_succ_cons, List.take_zero, List.drop_succ_cons, List.drop_zero, Act.put, List.setIfInBounds_toArray, List.set_cons_zero, List.set_cons_succ]
          repeat (first
            | go_big_quiet_skip
            | (go_big_quiet_want
               apply wide_op
               · (intro w5 h5; obtain ⟨⟨c0,c1,c2,c3,c4,c5⟩,hB5⟩ := id h5; go_simp; first | done | with_reducible rfl | ((refine (HV.out _).mono ?_; rintro e w6 ⟨rfl, hb6⟩; exact ⟨rfl, h5.next hb6⟩)))
               (try simp only [Act.put, List.setIfInBounds_toArray, List.set_cons_zero, List.set_cons_succ])
               go_big_quiet_on))
          refine wpQuiet_nil ?_
          intro w7 h7
          have HBT7 := Lib.hid h7.2
          clear h7
          go_wp2_with (at_builtin; refine hold_mk ?_)
          refine hold_out ?_
          refine wpPushR rfl _ _ rfl u5 ms rfl (HBT7.out.up (below_al (o := .cells (rsC (resOf k x)) 50) (Below.refl _ _))) _ 1 1 [resOf k x] rfl (one_rowR _ (resOf k x)) rfl (by simp; omega) ?_
          intro v8 w8 bt8 _
          have HBT8 := Lib.hid bt8
          clear bt8
          go_wp2_with fail
          go_roundw
          case rel => exact ⟨j + 1, by go_num, by omega, by rw [HN.out]; exact HBT8.out⟩
          case measure => simp [intOf]; omega
        · have hge : xs.length ≤ j := by omega
          have HE := Lib.hid (show (xs.take j).map (resOf k) = xs.map (resOf k) from by rw [List.take_of_length_le hge])
          clear hlt
          go_wp2_with fail
          go_ret
          exact (by have h := HBT.out; rw [HE.out] at h; exact h.gives)

set_option maxRecDepth 100000 in
set_option maxHeartbeats 2000000 in
theorem rfResults (k : Int) (xs : List Pn) (A : Option Addr) (c : Nat) (w : World) (hA : Row w A (pc xs)) (hl : xs.length ≤ 9223372036854775807) :
    Calls Try.prog 37 #[.int .i64 k, .slice A xs.length c] w (GivesR (resO k xs) w) := by
  have HR := Lib.hid (fun w' (hb : Below w.heap.size w w') => rfRightL xs A c w' (hA.below hb) hl)
  have HK := Lib.hid (rfFold k)
  have HA := Lib.hid hA
  obtain ⟨b1, h1⟩ : ∃ b, b = right xs := ⟨_, rfl⟩
  obtain ⟨b2, h2⟩ : ∃ b, b = Acm.isK k := ⟨_, rfl⟩
  have hres : resO k xs = if b1 && b2 then xs.map (resOf k) else [] := by rw [h1, h2]; rfl
  have hx20 : b1 = true → xs.length ≤ 2000 := fun h => ((right_iff xs).1 (h1 ▸ h)).1
  rw [← h1] at HR
  rw [← h2] at HK
  rw [hres]
  clear h1 h2 hA hres
  cases b1
  · clear hx20
    go_enter Try.func37, Try.ntmps37
    go_wp2_with fail
    refine (HR.out _ (by first | exact Below.refl _ _ | exact below_al (Below.refl _ _))).mono ?_
    rintro e w1 ⟨rfl, hb1⟩
    have HB1 := Lib.hid hb1
    clear hb1
    go_wp2_with fail
    go_ret
    exact ⟨_, 0, rfl, Nat.le_refl _, by simp [maxLen], .inl rfl, below_next (below_al (Below.refl _ _)) HB1.out⟩
  · have hx20 := hx20 rfl
    cases b2
    · go_enter Try.func37, Try.ntmps37
      go_wp2_with fail
      refine (HR.out _ (by first | exact Below.refl _ _ | exact below_al (Below.refl _ _))).mono ?_
      rintro e w1 ⟨rfl, hb1⟩
      have HB1 := Lib.hid hb1
      clear hb1
      go_wp2_with fail
      refine (HK.out _).mono ?_
      rintro e w2 ⟨rfl, rfl⟩
      go_wp2_with fail
      go_ret
      exact ⟨_, 0, rfl, Nat.le_refl _, by simp [maxLen], .inl rfl, below_next (below_al (Below.refl _ _)) HB1.out⟩
    · go_enter Try.func37, Try.ntmps37
      go_wp2_with fail
      refine (HR.out _ (by first | exact Below.refl _ _ | exact below_al (Below.refl _ _))).mono ?_
      rintro e w1 ⟨rfl, hb1⟩
      have HB0 : Hid (BuiltR w w1 (.slice (some ⟨w.heap.size, 0, none⟩) 0 0) []) := Lib.hid ((⟨own_new (Nat.le_refl _), below_al (Below.refl _ _)⟩ : BuiltR w (w.alloc (.cells #[] 50)) _ []).up hb1)
      clear hb1
      go_wp2_with fail
      refine (HK.out _).mono ?_
      rintro e w2 ⟨rfl, rfl⟩
      go_wp2_with fail
      go_loopw [5, 20] (fun v i wr => ∃ j : Nat, i = .int .i64 j ∧ j ≤ xs.length ∧ BuiltR w wr v ((xs.take j).map (resOf k))) (fun _ i _ => xs.length - (intOf i).toNat)
      case atStart => exact ⟨0, rfl, Nat.zero_le _, HB0.out⟩
      case round =>
        obtain ⟨j, rfl, hj, hbt⟩ := hrel
        have HBT := Lib.hid hbt
        clear hbt
        by_cases hlt : j < xs.length
        · obtain ⟨x, hx⟩ : ∃ x, xs[j]? = some x := ⟨_, List.getElem?_eq_getElem hlt⟩
          obtain ⟨b, off, rfl, c0, c1, c2, c3, c4, c5⟩ := (HA.out.below HBT.out.below).pn hx
          have HN := Lib.hid (show (xs.take (j + 1)).map (resOf k) = (xs.take j).map (resOf k) ++ [resOf k x] from by rw [take_snoc hx, List.map_append]; rfl)
          have hml : ((xs.take j).map (resOf k)).length ≤ 2000 := by rw [List.length_map, List.length_take]; omega
          have HV := Lib.hid (fun w => refValB k x.acc w)
          obtain ⟨ms, hms⟩ : ∃ ms, ms = (xs.take j).map (resOf k) := ⟨_, rfl⟩
          rw [← hms] at HN hml HBT
          clear hx hms
          go_wp2_with fail
          have W0 := Lib.hid (show RC wr.heap.size x w u5 ms (wr.alloc (.cells (paC x) 82)).drew from ⟨(PnAt.of_lies (Lies.new wr _ _)).drew, (HBT.out.up (below_al (Below.refl _ _))).drew⟩)
          refine wide_tail1 13 (RC wr.heap.size x w u5 ms) _ u5 rfl rfl rfl (by kernel_rfl) (by kernel_rfl) (fun _ _ _ _ h => h) W0.out ?_
          simp only [Nat.add_one_sub_one, List.take_succ_cons, List.take_zero, List.drop_succ_cons, List.drop_zero, Act.put, List.setIfInBounds_toArray, List.set_cons_zero, List.set_cons_succ]
          repeat (first
            | go_big_quiet_skip
            | (go_big_quiet_want
               apply wide_op
               · (intro w5 h5; obtain ⟨⟨c0,c1,c2,c3,c4,c5⟩,hB5⟩ := id h5; go_simp; first | done | with_reducible rfl | ((refine (HV.out _).mono ?_; rintro e w6 ⟨rfl, hb6⟩; exact ⟨rfl, h5.next hb6⟩)))
               (try simp only [Act.put, List.setIfInBounds_toArray, List.set_cons_zero, List.set_cons_succ])
               go_big_quiet_on))
          refine wpQuiet_nil ?_
          intro w7 h7
          have HBT7 := Lib.hid h7.2
          clear h7
          go_wp2_with (at_builtin; refine hold_mk ?_)
          refine hold_out ?_
          refine wpPushR rfl _ _ rfl u5 ms rfl (HBT7.out.up (below_al (o := .cells (rsC (resOf k x)) 50) (Below.refl _ _))) _ 1 1 [resOf k x] rfl (one_rowR _ (resOf k x)) rfl (by simp; omega) ?_
          intro v8 w8 bt8 _
          have HBT8 := Lib.hid bt8
          clear bt8
          go_wp2_with fail
          go_roundw
          case rel => exact ⟨j + 1, by go_num, by omega, by rw [HN.out]; exact HBT8.out⟩
          case measure => simp [intOf]; omega
        · have hge : xs.length ≤ j := by omega
          have HE := Lib.hid (show (xs.take j).map (resOf k) = xs.map (resOf k) from by rw [List.take_of_length_le hge])
          clear hlt
          go_wp2_with fail
          go_ret
          exact (by have h := HBT.out; rw [HE.out] at h; exact h.gives)

theorem pfields_rs : Try.prog.underlying 50 = some (.struct (Try.prog.fieldsOf 50)) := by kernel_rfl
theorem pstood_rs : Try.prog.stoodInHeld 50 = false := by kernel_rfl
theorem run_sameRs (x : Rs) (w : World) : (binOp .neq 50 (rsV x) (rsV x)).run Try.prog w = .ok (.bool false) w := by
  have h1 := Try.underlying9
  have h2 := Try.underlying2
  obtain ⟨i0, hi0, hs0⟩ := Option.map_eq_some_iff.1 psize_win
  have hszW : ∀ w, (sizeOf 48).run Try.prog w = .ok 2 w := fun w => by simp [sizeOf, typeInfo, hi0, hs0]
  have hW := run_peqW 9997 x.p.lo x.p.hi x.p.lo x.p.hi w
  rw [run_neq_struct, show (10000 : Nat) = 9999 + 1 from rfl, run_equalIn_agg w _ _ _ _ pfields_rs pstood_rs]
  simp [Program.fieldsOf, Try.underlying50, Op.eqFields, part, isAgg, run_underlying h1, run_underlying h2, run_underlying Try.underlying48, hszW, hW, run_equalIn_int w 9998 _ .i64 .i64 _ _ h2, run_equalIn_string w 9998 _ _ _ h1]
set_option maxRecDepth 100000 in
set_option maxHeartbeats 1000000 in
theorem paLikeR (xs : List Rs) (hl : xs.length ≤ 9223372036854775807) (A A' : Option Addr) (c c' : Nat) (w : World) (hA : Row w A (rc xs)) (hA' : Row w A' (rc xs)) :
    Calls Try.prog 20 #[.slice A xs.length c, .slice A' xs.length c'] w (TellsB true w) := by
  have HA := Lib.hid hA
  have HA' := Lib.hid hA'
  clear hA hA'
  go_enter Try.func20, Try.ntmps20
  go_wp2_with fail
  go_loopw [13] (fun i wr => ∃ k : Nat, i = .int .i64 k ∧ k ≤ xs.length ∧ ∃ n, wr = w.drewN n) (fun i _ => xs.length - (intOf i).toNat)
  case atStart => exact ⟨0, rfl, Nat.zero_le _, 0, rfl⟩
  case round =>
    obtain ⟨k, rfl, hk, n, rfl⟩ := hrel
    by_cases hlt : k < xs.length
    · obtain ⟨x, hx⟩ : ∃ x, xs[k]? = some x := ⟨_, List.getElem?_eq_getElem hlt⟩
      obtain ⟨b, off, rfl, c0, c1, c2, c3, c4⟩ := HA.out.rs hx
      obtain ⟨b', off', rfl, d0, d1, d2, d3, d4⟩ := HA'.out.rs hx
      have he : ∀ w : World, (binOp .neq 50 (rsV x) (rsV x)).run Try.prog w = .ok (.bool false) w := fun w => run_sameRs x w
      have HX := Lib.hid hx
      clear hx
      go_wp2_with fail
      go_quiet (fail)
      go_wp2_with fail
      go_roundw
      case rel => exact ⟨k + 1, by go_num, by omega, _, rfl⟩
      case measure => simp [intOf]; omega
    · have hge : xs.length ≤ k := by omega
      go_wp2_with fail
      go_ret
      exact ⟨rfl, below_drewN (Below.refl _ _)⟩
end Go.Proofs.Ytipmphkmeiogoaa
