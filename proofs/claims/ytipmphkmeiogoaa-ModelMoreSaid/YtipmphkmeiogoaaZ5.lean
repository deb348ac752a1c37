/- JobIns2, JobOpen, Hold, put together. -/
import Derived.Test.YtipmphkmeiogoaaZ4
import Derived.Laws.StructEq
import Derived.StillTailTactics
/- Inputs of the code and of the reference. -/
namespace Go.Proofs.Ytipmphkmeiogoaa
open Go.ChangeShapes Go.WideShapes Go.ChangeAt Go.RowKit
set_option linter.unusedVariables false
set_option maxRecDepth 8000
namespace Jo
open Gen
open Itm
theorem row_sr {w : World} {A : Option Addr} {l : List Sr} (h : Row w A (l.flatMap fun s => [srV s])) {k : Nat} {x : Sr} (hk : l[k]? = some x) : ∃ b off, A = some ⟨b, off, none⟩ ∧ w.cell? ⟨b, off + k, none⟩ = some (srV x) := by
  obtain ⟨b, off, rfl, g⟩ := row_one (n := 1) (fun _ => rfl) (by omega) h hk
  exact ⟨b, off, rfl, by have := g 0 _ rfl; simpa using this⟩
/-- Every source's events lie. -/
def Srs (w : World) (l : List Sr) : Prop := ∀ (k : Nat) x, l[k]? = some x → Row w x.A (x.l.flatMap evL) ∧ x.l.length ≤ 9223372036854775807
theorem Srs.below {w w' : World} {l : List Sr} (h : Srs w l) (hb : Below w.heap.size w w') : Srs w' l := fun k x hx => ⟨(h k x hx).1.below hb, (h k x hx).2⟩
theorem wrapB {k : Nat} (h : k + 1 ≤ 9223372036854775807) : IntKind.i64.wrap ((k : Int) + 1) = ((k + 1 : Nat) : Int) := by
  simp [IntKind.wrap, IntKind.bits, IntKind.signed]; omega
theorem insOk_false {l : List Sr} {k : Nat} {x : Sr} (h : l[k]? = some x) (hx : srcOk x.l = false) : insOk l = false := by
  unfold insOk
  rw [all_false (p := fun s : Sr => srcOk s.l) h hx, Bool.and_false]
theorem insOk_all {l : List Sr} (h : ∀ (j : Nat) x, l[j]? = some x → j < l.length → srcOk x.l = true) : insOk l = decide (1 ≤ l.length ∧ l.length ≤ 4) := by
  unfold insOk
  rw [all_true (p := fun s : Sr => srcOk s.l) h, Bool.and_true]
set_option maxHeartbeats 600000 in
theorem jInputs (l : List Sr) (A : Option Addr) (c : Nat) (w : World) (h : Row w A (l.flatMap fun s => [srV s])) (hi : Srs w l) :
    Calls Try.prog 39 #[.slice A l.length c] w (TellsB (insOk l) w) := by
  by_cases h1 : l.length < 1
  · have e0 : insOk l = false := by unfold insOk; rw [decide_eq_false (by omega), Bool.false_and]
    rw [e0]
    have g0 : (l.length : Int) < 1 := by omega
    clear h hi e0 h1
    go_enter Try.func39, Try.ntmps39
    go_wp2_with fail
    go_ret
    exact ⟨rfl, Below.refl _ _⟩
  · by_cases h4 : l.length ≤ 4
    · have HR := Lib.hid h
      have HI := Lib.hid hi
      have H4 := Lib.hid h4
      have H1 := Lib.hid h1
      have g1 : ¬ (l.length : Int) < 1 := by omega
      have g2 : ¬ (4 : Int) < l.length := by omega
      clear h hi h4 h1
      go_enter Try.func39, Try.ntmps39
      go_wp2_with fail
      clear g1 g2
      go_loopw [15] (fun i wr => ∃ k : Nat, i = .int .i64 k ∧ k ≤ l.length ∧ (∀ j x, l[j]? = some x → j < k → srcOk x.l = true) ∧ Below w.heap.size w wr) (fun i _ => l.length - (intOf i).toNat)
      case atStart => exact ⟨0, rfl, Nat.zero_le _, fun j x h h2 => by omega, Below.refl _ _⟩
      case round =>
        obtain ⟨k, rfl, hk, hto, hb⟩ := hrel
        have HB := Lib.hid hb
        have HT := Lib.hid hto
        clear hb hto
        by_cases hlt : k < l.length
        · obtain ⟨x, hx⟩ : ∃ x, l[k]? = some x := ⟨_, List.getElem?_eq_getElem hlt⟩
          obtain ⟨b, off, rfl, c0⟩ := row_sr (HR.out.below HB.out) hx
          have HX := Lib.hid hx
          have hw := wrapJ (k := k) (by have := H4.out; omega)
          obtain ⟨q, hq⟩ : ∃ q, q = srcOk x.l := ⟨_, rfl⟩
          obtain ⟨r1, r2⟩ := (HI.out.below HB.out) k x hx
          have HE1 := Lib.hid (show Calls Try.prog 65 #[.slice x.A x.l.length x.c] wr (TellsB q wr) from by rw [hq]; exact jSource x.l x.A x.c wr r1 r2)
          have HQ := Lib.hid hq
          clear hx hq r1 r2
          go_wp2_with fail
          refine HE1.out.mono ?_
          rintro e w2 ⟨rfl, hb2⟩
          have HB2 := Lib.hid (below_next HB.out hb2)
          clear hb2
          cases q
          · go_wp2_with fail
            go_ret
            exact ⟨jret (insOk_false HX.out HQ.out.symm).symm, HB2.out⟩
          · go_wp2_with fail
            go_roundw
            case rel =>
              refine ⟨k + 1, rfl, by omega, fun j y hy hj => ?_, HB2.out⟩
              rcases Nat.lt_succ_iff_lt_or_eq.1 hj with h | rfl
              · exact HT.out j y hy h
              · rw [HX.out] at hy; cases hy; exact HQ.out.symm
            case measure => simp [intOf]; omega
        · have hge : l.length ≤ k := by omega
          have er : insOk l = true := by
            rw [insOk_all fun j x h1 h2 => HT.out j x h1 (by omega)]
            exact decide_eq_true ⟨by have := H1.out; omega, H4.out⟩
          have HR2 := Lib.hid er
          clear er
          go_wp2_with fail
          go_ret
          exact ⟨jret HR2.out.symm, HB.out⟩
    · have e0 : insOk l = false := by unfold insOk; rw [decide_eq_false (by omega), Bool.false_and]
      rw [e0]
      have g1 : ¬ (l.length : Int) < 1 := by omega
      have g2 : (4 : Int) < l.length := by omega
      clear h hi e0 h1 h4
      go_enter Try.func39, Try.ntmps39
      go_wp2_with fail
      go_ret
      exact ⟨rfl, Below.refl _ _⟩
set_option maxHeartbeats 1000000 in
theorem rInputs (l : List Sr) (A : Option Addr) (c : Nat) (w : World) (h : Row w A (l.flatMap fun s => [srV s])) (hi : Srs w l) (hl : l.length ≤ 9223372036854775807) :
    Calls Try.prog 25 #[.slice A l.length c] w (TellsB (insOk l) w) := by
  have HE := Lib.hid (fun k a v w => rfEvent k a v w)
  have HR := Lib.hid h
  have HI := Lib.hid hi
  have HL := Lib.hid hl
  clear h hi hl
  go_enter Try.func25, Try.ntmps25
  go_wp2_with fail
  go_loopw [9] (fun i wr => ∃ k : Nat, i = .int .i64 k ∧ k ≤ l.length ∧ (∀ j x, l[j]? = some x → j < k → srcOk x.l = true) ∧ Below w.heap.size w wr) (fun i _ => l.length - (intOf i).toNat)
  case atStart => exact ⟨0, rfl, Nat.zero_le _, fun j x h h2 => by omega, Below.refl _ _⟩
  case round =>
    obtain ⟨wo, hwo⟩ : ∃ wo, wo = wr := ⟨_, rfl⟩
    subst hwo
    obtain ⟨k, rfl, hk, hto, hb⟩ := hrel
    have HB := Lib.hid hb
    have HT := Lib.hid hto
    clear hb hto
    by_cases hlt : k < l.length
    · obtain ⟨x, hx⟩ : ∃ x, l[k]? = some x := ⟨_, List.getElem?_eq_getElem hlt⟩
      obtain ⟨XA, xc, xl⟩ := x
      obtain ⟨b, off, rfl, c0⟩ := row_sr (HR.out.below HB.out) hx
      simp only [srV] at c0
      have HX := Lib.hid hx
      have hw := wrapB (k := k) (by have := HL.out; omega)
      obtain ⟨r1, r2⟩ := (HI.out.below HB.out) k _ hx
      have HR1 := Lib.hid r1
      clear hx r1
      by_cases h200 : xl.length ≤ 200
      · have g0 : ¬ (200 : Int) < xl.length := by omega
        have H2 := Lib.hid h200
        clear h200 r2
        go_wp2_with fail
        clear g0
        go_loopw [18] (fun i wr => ∃ m : Nat, i = .int .i64 m ∧ m ≤ xl.length ∧ (∀ j y, xl[j]? = some y → j < m → evIs y = true) ∧ Below wo.heap.size wo wr) (fun i _ => xl.length - (intOf i).toNat)
        case atStart => exact ⟨0, rfl, Nat.zero_le _, fun j x h h2 => by omega, Below.refl _ _⟩
        case round =>
          obtain ⟨m, rfl, hm, htm, hbm⟩ := hrel
          have HBM := Lib.hid hbm
          have HTM := Lib.hid htm
          clear hbm htm
          by_cases hlm : m < xl.length
          · obtain ⟨y, hy⟩ : ∃ y, xl[m]? = some y := ⟨_, List.getElem?_eq_getElem hlm⟩
            obtain ⟨b2, off2, rfl, d0, d1, d2⟩ := row_evC (HR1.out.below HBM.out) hy
            have HY := Lib.hid hy
            have hw2 := wrapJ (k := m) (by have := H2.out; omega)
            obtain ⟨q, hq⟩ : ∃ q, q = evIs y := ⟨_, rfl⟩
            have HE1 := Lib.hid (fun w => show Calls Try.prog 44 #[evV y.key y.at_ y.val] w (TellsA q (.cells (evC y.key y.at_ y.val) 45) w) from by rw [hq]; exact HE.out y.key y.at_ y.val w)
            have HQ := Lib.hid hq
            clear hy hq
            go_wp2_with fail
            refine (HE1.out _).mono ?_
            rintro e w2 ⟨rfl, rfl⟩
            have hb2 := Lib.hid (below_al (o := .cells (evC y.key y.at_ y.val) 45) (below_al (o := .cells (evC y.key y.at_ y.val) 45) HBM.out))
            cases q
            · have es : srcOk xl = false := by unfold srcOk; rw [all_false HY.out HQ.out.symm, Bool.and_false]
              have ES := Lib.hid es
              clear es
              go_wp2_with fail
              go_ret
              exact ⟨jret (insOk_false HX.out ES.out).symm, below_next HB.out hb2.out⟩
            · go_wp2_with fail
              go_roundw
              case rel =>
                refine ⟨m + 1, rfl, by omega, fun j z hz hj => ?_, hb2.out⟩
                rcases Nat.lt_succ_iff_lt_or_eq.1 hj with h | rfl
                · exact HTM.out j z hz h
                · rw [HY.out] at hz; cases hz; exact HQ.out.symm
              case measure => simp [intOf]; omega
          · have hge : xl.length ≤ m := by omega
            have es : srcOk xl = true := by
              unfold srcOk
              rw [all_true (p := evIs) (fun j y h1 h2 => HTM.out j y h1 (by omega)), Bool.and_true]
              exact decide_eq_true H2.out
            have ES := Lib.hid es
            clear es
            go_wp2_with fail
            go_roundw
            case rel =>
              refine ⟨k + 1, rfl, by omega, fun j z hz hj => ?_, below_next HB.out HBM.out⟩
              rcases Nat.lt_succ_iff_lt_or_eq.1 hj with h | rfl
              · exact HT.out j z hz h
              · rw [HX.out] at hz; cases hz; exact ES.out
            case measure => simp [intOf]; omega
      · have es : srcOk xl = false := by unfold srcOk; rw [decide_eq_false h200, Bool.false_and]
        have ES := Lib.hid es
        have g0 : (200 : Int) < xl.length := by omega
        clear h200 r2 es
        go_wp2_with fail
        go_ret
        exact ⟨jret (insOk_false HX.out ES.out).symm, HB.out⟩
    · have hge : l.length ≤ k := by omega
      have er := insOk_all fun j x h1 h2 => HT.out j x h1 (by omega)
      by_cases h1 : 1 ≤ l.length
      · have g1 : (1 : Int) ≤ l.length := by omega
        by_cases h4 : l.length ≤ 4
        · have g2 : (l.length : Int) ≤ 4 := by omega
          have E := Lib.hid (er.trans (decide_eq_true (show 1 ≤ l.length ∧ l.length ≤ 4 from ⟨h1, h4⟩)))
          clear h1 h4 er
          go_wp2_with fail
          go_ret
          exact ⟨jret E.out.symm, HB.out⟩
        · have g2 : decide ((l.length : Int) ≤ 4) = false := decide_eq_false (by omega)
          have E := Lib.hid (er.trans (decide_eq_false (show ¬ (1 ≤ l.length ∧ l.length ≤ 4) from by omega)))
          clear h1 h4 er
          go_wp2_with fail
          go_ret
          exact ⟨jret E.out.symm, HB.out⟩
      · have g1 : ¬ (1 : Int) ≤ l.length := by omega
        have E := Lib.hid (er.trans (decide_eq_false (show ¬ (1 ≤ l.length ∧ l.length ≤ 4) from by omega)))
        clear h1 er
        go_wp2_with fail
        go_ret
        exact ⟨jret E.out.symm, HB.out⟩
end Jo
end Go.Proofs.Ytipmphkmeiogoaa
/- A job and its inputs that came in. -/
namespace Go.Proofs.Ytipmphkmeiogoaa
open Go.ChangeShapes Go.WideShapes Go.ChangeAt Go.RowKit
set_option linter.unusedVariables false
set_option maxRecDepth 8000
namespace Jo
open Gen
/-- A job whose numbers fit. -/
def inI (n : Int) : Prop := -9223372036854775808 ≤ n ∧ n ≤ 9223372036854775807
theorem wf_inI {n : Int} (h : (Lit.int .i64 n).wf = true) : inI n := by
  simp [Lit.wf, IntKind.min, IntKind.max, IntKind.bits, IntKind.signed] at h
  unfold inI
  omega
theorem cells_jb : Try.prog.cellsOf 23 = 8 := by kernel_rfl
theorem cells_jint : Try.prog.cellsOf 3 = 1 := by kernel_rfl
theorem cells_ji64 : Try.prog.cellsOf 2 = 1 := by kernel_rfl
section
variable {H : Type} {enc : TypeId × Value → H} {w : World} {base : Nat} {spare : Nat → Bool} {held : Bool}
theorem jone_int {fuel : Nat} {c : Value} {x : DataW H × List MemPlace} (h : DataW.trod enc Try.prog w base spare held fuel 3 [c] = some x) : ∃ z : Int, c = .int .i64 z ∧ inI z := by
  obtain ⟨z, h1, _, h3⟩ := DataW.trod_int Try.underlying3 h
  exact ⟨z, by simpa using h1, wf_inI h3⟩
theorem jone_i64 {fuel : Nat} {c : Value} {x : DataW H × List MemPlace} (h : DataW.trod enc Try.prog w base spare held fuel 2 [c] = some x) : ∃ z : Int, c = .int .i64 z ∧ inI z := by
  obtain ⟨z, h1, _, h3⟩ := DataW.trod_int Try.underlying2 h
  exact ⟨z, by simpa using h1, wf_inI h3⟩
theorem openJb {r : Reach} {b0 : Nat} {v : Value} {d : DataW H} {p : List MemPlace} (hv : Value.okWide Try.prog w r b0 23 v) (h : DataW.Trod enc Try.prog w base spare held 23 v d p) : ∃ j : Jb, v = jbV j ∧ inI j.limit := by
  obtain ⟨cs, rfl, hsz⟩ := okWide_struct Try.underlying23 hv
  obtain ⟨l⟩ := cs
  match l, hsz.trans cells_jb with
  | [c0, c1, c2, c3, c4, c5, c6, c7], _ =>
    obtain ⟨fuel, hf⟩ := h
    have h : DataW.trod enc Try.prog w base spare held fuel 23 [c0, c1, c2, c3, c4, c5, c6, c7] = some (d, p) := by simpa [Value.cells] using hf
    obtain ⟨xs, n, _, _, _, hlen, hg⟩ := DataW.trod_struct Try.underlying23 h
    have hl : xs.length = 8 := hlen
    match xs, hl with
    | [y0, y1, y2, y3, y4, y5, y6, y7], _ =>
      obtain ⟨a0, rfl, _⟩ := jone_int (x := y0) (by simpa [cells_jint, cells_ji64] using hg 0 _ rfl)
      obtain ⟨a1, rfl, _⟩ := jone_i64 (x := y1) (by simpa [cells_jint, cells_ji64] using hg 1 _ rfl)
      obtain ⟨a2, rfl, _⟩ := jone_i64 (x := y2) (by simpa [cells_jint, cells_ji64] using hg 2 _ rfl)
      obtain ⟨a3, rfl, _⟩ := jone_int (x := y3) (by simpa [cells_jint, cells_ji64] using hg 3 _ rfl)
      obtain ⟨a4, rfl, _⟩ := jone_int (x := y4) (by simpa [cells_jint, cells_ji64] using hg 4 _ rfl)
      obtain ⟨a5, rfl, h5⟩ := jone_i64 (x := y5) (by simpa [cells_jint, cells_ji64] using hg 5 _ rfl)
      obtain ⟨a6, rfl, _⟩ := jone_i64 (x := y6) (by simpa [cells_jint, cells_ji64] using hg 6 _ rfl)
      obtain ⟨a7, rfl, _⟩ := jone_int (x := y7) (by simpa [cells_jint, cells_ji64] using hg 7 _ rfl)
      exact ⟨⟨a0, a1, a2, a3, a4, a5, a6, a7⟩, rfl, h5⟩
/-- A row of things of n cells that came in, as it is found in a cell. -/
theorem openRowC {α : Type} [Inhabited α] {P : Program} {t e : TypeId} {n : Nat} {f : α → List Value} {fuel : Nat} {c0 : Value} {x : DataW H × List MemPlace} (ht : P.underlying t = some (.slice e)) (hc : P.cellsOf e = n) (h0 : 0 < n) (hf : ∀ x, (f x).length = n)
    (hone : ∀ (fuel : Nat) (cs : List Value) (x : DataW H × List MemPlace), cs.length = n → DataW.trod enc P w base spare held fuel e cs = some x → ∃ p : α, cs = f p)
    (hfu : DataW.trod enc P w base spare held fuel t [c0] = some x) :
    ∃ (A : Option Addr) (c : Nat) (xs : List α), c0 = .slice A xs.length c ∧ xs.length ≤ c ∧ c ≤ maxLen ∧ Row w A (xs.flatMap f) := by
  rcases Deep.open_slice ht hfu with ⟨h1, h2⟩ | ⟨a, len, cap, m, k, D, Pl, h1, hb, hl, hm, hmm, h2, hx⟩
  · simp only [List.cons.injEq, and_true] at h1
    subst h1
    exact ⟨none, 0, [], rfl, Nat.le_refl _, by simp [maxLen], .inl rfl⟩
  · simp only [List.cons.injEq, and_true] at h1
    subst h1
    have hlm : len ≤ m := by rw [hmm]; split <;> omega
    have each : ∀ i, i < m → ∃ q : α, ∀ j u, (f q)[j]? = some u → w.cell? ((a.add (i * n)).add j) = some u := by
      intro i hi
      obtain ⟨cs', g1, g2⟩ := hx i hi
      rw [hc] at g1
      obtain ⟨_, hlen, hcell⟩ := World.cells?_some g1
      obtain ⟨q, rfl⟩ := hone _ _ _ hlen g2
      refine ⟨q, fun j u hu => ?_⟩
      have hj : j < n := by rw [← hf q]; exact (List.getElem?_eq_some_iff.1 hu).1
      have := hcell j hj
      rw [this]
      simpa using hu
    obtain ⟨q, hq⟩ := Deep.choose_lt each
    obtain ⟨xs, hxs⟩ : ∃ xs : List α, xs = (List.range len).map q := ⟨_, rfl⟩
    have hlx : xs.length = len := by rw [hxs]; simp
    refine ⟨some a, cap, xs, by rw [hlx], by rw [hlx]; exact hl, hm, ?_⟩
    rcases Nat.eq_zero_or_pos len with hz | hz
    · subst hz; rw [List.eq_nil_of_length_eq_zero hlx]; exact .inl rfl
    · obtain ⟨b, off, spot⟩ := a
      have hspot : spot = none := by
        have hfl := hf (q 0)
        obtain ⟨u, hu⟩ : ∃ u, (f (q 0))[0]? = some u := ⟨_, List.getElem?_eq_getElem (by omega)⟩
        have g := hq 0 (by omega) 0 u hu
        have g2 : w.cell? (⟨b, off, spot⟩ : Addr) = some u := by simpa [Addr.add] using g
        simpa using World.cell?_spot g2
      subst hspot
      refine .inr ⟨b, off, rfl, fun j u hu => ?_⟩
      have hj : j < len * n := by
        have := (List.getElem?_eq_some_iff.1 hu).1
        rwa [flat_len f hf, hlx] at this
      have hdiv : j / n < len := Nat.div_lt_of_lt_mul (by rwa [Nat.mul_comm] at hj)
      have hmod : j % n < n := Nat.mod_lt _ h0
      have hsum : j / n * n + j % n = j := by rw [Nat.mul_comm]; exact Nat.div_add_mod j n
      have hget : xs[j / n]? = some (q (j / n)) := by rw [hxs]; simp [hdiv]
      have := flat_get f hf hget hmod
      rw [hsum, hu] at this
      have g := hq (j / n) (by omega) (j % n) u this.symm
      rw [Go.WideShapes.add_plain, Go.WideShapes.add_plain] at g
      rw [← hsum, ← Nat.add_assoc]
      exact g
theorem cells_jstr : Try.prog.cellsOf 9 = 1 := by kernel_rfl
theorem cells_jev : Try.prog.cellsOf 45 = 3 := by kernel_rfl
theorem cells_jevs : Try.prog.cellsOf 24 = 1 := by kernel_rfl
theorem jone_str {fuel : Nat} {c : Value} {x : DataW H × List MemPlace} (h : DataW.trod enc Try.prog w base spare held fuel 9 [c] = some x) : ∃ s : ByteArray, c = .string s := by
  obtain ⟨s, h1, _, h3⟩ := DataW.trod_string Try.underlying9 h
  exact ⟨s, by simpa using h1⟩
theorem jtrod_ev {fuel : Nat} {c0 c1 c2 : Value} {x : DataW H × List MemPlace} (h : DataW.trod enc Try.prog w base spare held fuel 45 [c0, c1, c2] = some x) : ∃ e : Ev, [c0, c1, c2] = evL e := by
  obtain ⟨xs, n, _, _, _, hlen, hg⟩ := DataW.trod_struct Try.underlying45 h
  have hl : xs.length = 3 := hlen
  match xs, hl with
  | [y0, y1, y2], _ =>
    obtain ⟨k, rfl⟩ := jone_str (x := y0) (by simpa [cells_jstr] using hg 0 _ rfl)
    obtain ⟨a, rfl, h1⟩ := jone_i64 (x := y1) (by simpa [cells_ji64] using hg 1 _ rfl)
    obtain ⟨v, rfl, h2⟩ := jone_i64 (x := y2) (by simpa [cells_ji64] using hg 2 _ rfl)
    exact ⟨⟨k, a, v⟩, rfl⟩
theorem openEvsC {fuel : Nat} {c0 : Value} {x : DataW H × List MemPlace} (h : DataW.trod enc Try.prog w base spare held fuel 24 [c0] = some x) :
    ∃ s : Sr, [c0] = [srV s] ∧ Row w s.A (s.l.flatMap evL) ∧ s.l.length ≤ 9223372036854775807 := by
  obtain ⟨A, c, xs, h1, h2, h3, h4⟩ := openRowC (f := evL) Try.underlying24 cells_jev (by omega) evL_len (fun fuel cs x hl hx => by
    match cs, hl with
    | [c0, c1, c2], _ => exact jtrod_ev hx) h
  unfold maxLen at h3
  exact ⟨⟨A, c, xs⟩, by rw [h1], h4, by simp only; omega⟩
instance : Inhabited {s : Sr // Row w s.A (s.l.flatMap evL) ∧ s.l.length ≤ 9223372036854775807} := ⟨⟨none, 0, []⟩, .inl rfl, by simp⟩
/-- Rows of rows of events that came in. -/
theorem openIns {v : Value} {d : DataW H} {ps : List MemPlace} {r : Reach} {b0 : Nat} (hval : Value.okWide Try.prog w r b0 29 v) (h : DataW.Trod enc Try.prog w base spare held 29 v d ps) :
    ∃ (A : Option Addr) (c : Nat) (l : List Sr), v = .slice A l.length c ∧ l.length ≤ 9223372036854775807 ∧ Row w A (l.flatMap fun s => [srV s]) ∧ Srs w l := by
  obtain ⟨A, c, xs, h1, h2, h3, h4⟩ := openRow (f := fun p : {s : Sr // Row w s.A (s.l.flatMap evL) ∧ s.l.length ≤ 9223372036854775807} => [srV p.1]) Try.underlying29 cells_jevs (by omega) (fun _ => rfl) (fun fuel cs x hl hx => by
    match cs, hl with
    | [c0], _ =>
      obtain ⟨s, e, hs⟩ := openEvsC hx
      exact ⟨⟨s, hs⟩, e⟩) hval h
  unfold maxLen at h3
  refine ⟨A, c, xs.map (·.1), by rw [List.length_map]; exact h1, by rw [List.length_map]; omega, ?_, fun k y hy => ?_⟩
  · rw [List.flatMap_map]
    exact h4
  · rw [List.getElem?_map] at hy
    obtain ⟨p, _, rfl⟩ := Option.map_eq_some_iff.1 hy
    exact p.2
end
end Jo
end Go.Proofs.Ytipmphkmeiogoaa
/- A goal kept whole. -/
namespace Go.Proofs.Ytipmphkmeiogoaa
/-- A proposition that no tactic opens. -/
def Hold (p : Prop) : Prop := p
theorem hold_mk {p : Prop} (h : Hold p) : p := h
theorem hold_out {p : Prop} (h : p) : Hold p := h
end Go.Proofs.Ytipmphkmeiogoaa
