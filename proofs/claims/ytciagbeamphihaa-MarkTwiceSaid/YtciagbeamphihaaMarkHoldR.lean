/- Hold of the reference. -/
import Derived.Test.YtciagbeamphihaaMarkFreeR
import Derived.Maps.AppendAt
namespace Go.Proofs.Ytciagbeamphihaa
open Go.RowKit
set_option linter.unusedVariables false
set_option linter.unusedSimpArgs false
set_option maxRecDepth 8000
namespace Wm
theorem insH_none {x : Ho} : ∀ {l : List Ho}, (∀ y ∈ l, ¬ x.no < y.no) → insH x l = l ++ [x]
  | [], _ => rfl
  | y :: r, h => by
    unfold insH
    rw [if_neg (h y List.mem_cons_self), insH_none fun z hz => h z (List.mem_cons_of_mem _ hz)]; rfl
theorem insH_put {x : Ho} (z : Ho) : ∀ {l : List Ho}, (∃ y ∈ l, x.no < y.no) → insH x (l ++ [z]) = insH x l ++ [z]
  | [], h => by obtain ⟨_, h, _⟩ := h; cases h
  | y :: r, h => by
    show insH x (y :: (r ++ [z])) = _
    unfold insH
    by_cases e : x.no < y.no
    · rw [if_pos e, if_pos e]; rfl
    · rw [if_neg e, if_neg e]
      have h2 : ∃ y ∈ r, x.no < y.no := by
        obtain ⟨u, hu, hlt⟩ := h
        rcases List.mem_cons.1 hu with rfl | hu
        · exact absurd hlt e
        · exact ⟨u, hu, hlt⟩
      rw [insH_put z h2]; rfl
theorem insH_first {x z : Ho} (hz : x.no < z.no) : ∀ {l : List Ho}, (∀ y ∈ l, ¬ x.no < y.no) → insH x (l ++ [z]) = l ++ [x] ++ [z]
  | [], _ => by show insH x [z] = [x, z]; unfold insH; rw [if_pos hz]
  | y :: r, h => by
    show insH x (y :: (r ++ [z])) = _
    unfold insH
    rw [if_neg (h y List.mem_cons_self), insH_first hz fun u hu => h u (List.mem_cons_of_mem _ hu)]; rfl
theorem holdR_ret {w wF : World} {R : Nat} {o : Mk × Nat} {A : Option Addr} {c : Nat} {B : Option Addr} {d : Nat} {act : Act} (ht : act.tmps.getD 6 undef = .pointer (some ⟨R, 0, none⟩)) (hs : act.tmps.getD 7 undef = .int .i64 (o.2 : Nat)) (hd : act.defers = [])
    (hL : Lies R (mkC (.slice A o.1.ins.length c) (.slice B o.1.holds.length d) o.1.out) 25 wF) (hH : Has o.1 A c B d wF) (hB : Below w.heap.size w wF) :
    bodyPost Try.prog Try.f28 (GivesM o w) .ret act wF := by
  have c0 := hL.cell (j := 0) rfl
  have c1 := hL.cell (j := 1) rfl
  have c2 := hL.cell (j := 2) rfl
  refine bodyPost_ret (v := .tuple #[mv o.1 A c B d, .int .i64 (o.2 : Nat)]) ?_ hd ⟨A, c, B, d, rfl, hH, hB⟩
  have ht2 : act.tmps[6]?.getD undef = .pointer (some ⟨R, 0, none⟩) := by simpa using ht
  have hs2 : act.tmps[7]?.getD undef = .int .i64 (o.2 : Nat) := by simpa using hs
  simp [results, Try.results28, go_sem, ht2, hs2, c0, c1, c2]
/-- Marks whose holds are built: their block, the hold that is put, the row. -/
structure Hb (w2 : World) (a : Value) (out : Int) (x : Ho) (sv : Value) (ys : List Ho) (w : World) : Prop where
  lo : Below w2.heap.size w2 w
  mks : Lies w2.heap.size (mkC a sv out) 25 w
  xa : Lies (w2.heap.size + 1) (hoC x) 44 w
  own : w.ownsRow (w2.heap.size + 1 + 1) 44 2 sv ys.length (hc ys)
theorem Hb.next {w2 : World} {a : Value} {out : Int} {x : Ho} {sv : Value} {ys : List Ho} {w w' : World} (h : Hb w2 a out x sv ys w) (hb : Below w.heap.size w w') : Hb w2 a out x sv ys w' :=
  ⟨below_next h.lo hb, (hb.block _ (lt_of_block h.mks)).trans h.mks, (hb.block _ (lt_of_block h.xa)).trans h.xa, own_up h.own hb⟩
theorem Hb.app {w2 : World} {a : Value} {out : Int} {x : Ho} {sv v : Value} {ys zs : List Ho} {w w9 : World} (h : Hb w2 a out x sv ys w) (hb : Below (w2.heap.size + 1 + 1) w w9) (ho : w9.ownsRow (w2.heap.size + 1 + 1) 44 2 v zs.length (hc zs)) :
    Hb w2 a out x v zs (w9.setCell ⟨w2.heap.size, 1, none⟩ v) := by
  have hm : Lies w2.heap.size (mkC a sv out) 25 w9 := (hb.block _ (by omega)).trans h.mks
  refine ⟨?_, hm.set 1 v, ?_, ?_⟩
  · exact Below.setCell ⟨hb.os.trans h.lo.os, hb.tape.trans h.lo.tape, hb.output.trans h.lo.output, Nat.le_trans h.lo.size hb.size, fun k hk => (hb.block k (by omega)).trans (h.lo.block k hk)⟩ (Nat.le_refl _) _
  · exact Lies.other (show Lies (w2.heap.size + 1) (hoC x) 44 w9 from (hb.block _ (by omega)).trans h.xa) (by omega) _ _
  · exact own_set ho ⟨w2.heap.size, 1, none⟩ (fun e => by have h : w2.heap.size + 1 + 1 ≤ w2.heap.size := (ho.lt _ e).1; omega) v
/-- As far as the loop is: the hold is put or not. -/
def Put (x : Ho) (us : List Ho) (k : Nat) (b : Bool) (ys : List Ho) : Prop :=
  (b = false ∧ ys = us.take k ∧ ∀ y ∈ us.take k, ¬ x.no < y.no) ∨ (b = true ∧ ys = insH x (us.take k) ∧ ∃ y ∈ us.take k, x.no < y.no)
theorem Put.len {x : Ho} {us : List Ho} {k : Nat} {b : Bool} {ys : List Ho} (h : Put x us k b ys) : ys.length ≤ us.length + 1 := by
  have ht : (us.take k).length ≤ us.length := by rw [List.length_take]; omega
  rcases h with ⟨_, rfl, _⟩ | ⟨_, rfl, _⟩
  · omega
  · rw [insH_len]; omega
theorem Put.same {x y : Ho} {us : List Ho} {k : Nat} {b : Bool} {ys : List Ho} (h : Put x us k b ys) (hy : us[k]? = some y) (hn : b = true ∨ ¬ x.no < y.no) : Put x us (k + 1) b (ys ++ [y]) := by
  have e : us.take (k + 1) = us.take k ++ [y] := by rw [List.take_add_one, hy]; rfl
  rcases h with ⟨rfl, rfl, h3⟩ | ⟨rfl, rfl, h3⟩
  · left
    refine ⟨rfl, e.symm, fun z hz => ?_⟩
    rw [e] at hz
    rcases List.mem_append.1 hz with hz | hz
    · exact h3 z hz
    · have : z = y := by simpa using hz
      rw [this]; rcases hn with hn | hn
      · cases hn
      · exact hn
  · right
    rw [e, insH_put y h3]
    obtain ⟨z, hz, hlt⟩ := h3
    exact ⟨rfl, rfl, z, List.mem_append_left _ hz, hlt⟩
theorem Put.now {x y : Ho} {us : List Ho} {k : Nat} {ys : List Ho} (h : Put x us k false ys) (hy : us[k]? = some y) (hn : x.no < y.no) : Put x us (k + 1) true (ys ++ [x] ++ [y]) := by
  have e : us.take (k + 1) = us.take k ++ [y] := by rw [List.take_add_one, hy]; rfl
  rcases h with ⟨_, rfl, h3⟩ | ⟨h, _⟩
  · right
    rw [e, insH_first hn h3]
    exact ⟨rfl, rfl, y, by simp, hn⟩
  · cases h
theorem Put.done {x : Ho} {us : List Ho} {b : Bool} {ys : List Ho} (h : Put x us us.length b ys) : (b = true ∧ ys = insH x us) ∨ (b = false ∧ ys ++ [x] = insH x us) := by
  unfold Put at h
  rw [List.take_length] at h
  rcases h with ⟨h1, h2, h3⟩ | ⟨h1, h2, _⟩
  · right; exact ⟨h1, by rw [h2, insH_none h3]⟩
  · left; exact ⟨h1, h2⟩
/-- An append of one hold to a row of the call's own: what has grown is told. -/
theorem appHo {ops : Array Oper} {rest : List Oper} {o : Oper} {a : Act} {Q : Exit → Act → World → Prop} {w : World} (hgd : o.guard = none) (s x : Operand)
    (ho : o.op = .call { callee := .builtin .append, args := #[s, x], argTypes := #[23, 23] }) (B : Nat) (v : Value) (ys : List Ho) (hs : a.eval s = v) (h : w.ownsRow B 44 2 v ys.length (hc ys))
    (z : Ho) (b : Nat) (hx : a.eval x = .slice (some ⟨b, 0, none⟩) 1 1) (hr : Row w (some ⟨b, 0, none⟩) (hc [z])) (hlen : ys.length ≤ 100000) (hB : B ≤ w.heap.size)
    (hk : ∀ v' w', w'.ownsRow B 44 2 v' (ys ++ [z]).length (hc (ys ++ [z])) → Below B w w' → w.grownBy w' v.ownBlock → wpList Try.prog ops Q rest (a.put o.dst v') w') :
    wpList Try.prog ops Q (o :: rest) a w := by
  obtain ⟨i0, hi0, hz0, hz1, hz2⟩ := info_parts hoInfo
  have hcells : ∀ j u, (hc [z])[j]? = some u → w.cell? ((⟨b, 0, none⟩ : Addr).add j) = some u := by
    rcases hr with hr | ⟨b', off, hr, hcc⟩
    · rw [hr]; intro j u hu; simp at hu
    · cases hr
      intro j u hu
      rw [Go.WideShapes.add_plain]
      exact hcc j u hu
  refine wpList_append_own_at w hgd s x 23 ho B 44 i0 _ 2 16 Try.underlying23 hi0 hz0 hz1 hz2 rfl (by omega) v ys.length (hc ys) hs h ⟨b, 0, none⟩ 1 1 (hc [z]) hx (by simp [hc_len]) hcells (hc_ones _)
    (by unfold maxLen; omega) (by omega) hB ?_
  intro v' w' hown hg _ _
  refine hk v' w' (by rw [List.length_append, hc_app]; exact hown) ((Below.refl B w).grown hg hB fun k hk => (h.lt k hk).1) hg
set_option maxRecDepth 100000 in
set_option maxHeartbeats 1200000 in
theorem rfHoldM (m : Mk) (A : Option Addr) (c : Nat) (B : Option Addr) (d : Nat) (no t : Int) (w : World) (h : Has m A c B d w) :
    Calls Try.prog 28 #[mv m A c B d, .int .i64 no, .int .i64 t] w (GivesM (holdM m no t) w) := by
  have HR := Lib.hid (fun w' (hb : Below w.heap.size w w') => rfRightM m A c B d w' (h.next hb))
  have S0 := Lib.hid (SeAt.start w m A c B d)
  have H := Lib.hid h
  have hway : (right m = false) ∨ (right m = true ∧ no < 0) ∨ (right m = true ∧ ¬ no < 0) := by
    cases right m <;> simp <;> omega
  rcases hway with h0 | ⟨h0, a1⟩ | ⟨h0, a1⟩
  iterate 2
    have HO := Lib.hid (show holdM m no t = (none_, 1) from by
      refine if_neg (fun hh => ?_)
      rw [Bool.and_eq_true, decide_eq_true_eq] at hh
      obtain ⟨q1, q2⟩ := hh
      first | omega | (rw [h0] at q1; cases q1))
    rw [h0] at HR
    clear h h0
    go_enter Try.func28, Try.ntmps28
    go_wp2_with fail
    refine (HR.out _ S0.out.below).mono ?_
    rintro e w1 ⟨rfl, hb1⟩
    have S1 := Lib.hid (S0.out.next hb1)
    obtain ⟨⟨r0, r1, r2⟩, f0, f1, f2⟩ := S1.out.frees
    obtain ⟨z0, z1, z2⟩ := S1.out.ma.cells
    clear hb1
    go_wp2_with fail
    obtain ⟨d1, d2⟩ := S1.out.none
    rw [HO.out]
    exact holdR_ret (o := (none_, 1)) (A := none) (c := 0) (B := none) (d := 0) rfl rfl rfl d1 (Has.zero _) d2
  · have hl32 := ((right_iff m).1 h0).1.2.2
    have HW := Lib.hid (fun w' (hb : Below w.heap.size w w') => rfWithout m.holds B d no w' (h.rh.below hb) (by omega))
    obtain ⟨us, hus⟩ : ∃ us, us = without m.holds no := ⟨_, rfl⟩
    have hul : us.length ≤ 32 := by rw [hus]; have := without_len m.holds no; omega
    obtain ⟨x, hx⟩ : ∃ x : Ho, x = ⟨no, clamp t⟩ := ⟨_, rfl⟩
    have hO : holdM m no t = if 32 < (insH x us).length then (none_, 3) else (⟨m.ins, insH x us, m.out⟩, 0) := by
      unfold holdM
      rw [if_pos (by rw [h0, Bool.true_and]; exact decide_eq_true (by omega)), ← hus, ← hx]
    have hxn : x.no = no := by rw [hx]
    have HCL := Lib.hid (fun w' => show Calls Try.prog 38 #[.int .i64 t] w' (fun e w'' => e = .returned (.int .i64 x.at_) ∧ w'' = w') from by rw [hx]; exact rfClampM t w')
    rw [← hus] at HW
    rw [h0] at HR
    have HO := Lib.hid hO
    have HXN := Lib.hid hxn
    have HUL := Lib.hid hul
    subst hxn
    clear h h0 hx hus hO hul hl32
    go_enter Try.func28, Try.ntmps28
    go_wp2_with fail
    refine (HR.out _ S0.out.below).mono ?_
    rintro e w1 ⟨rfl, hb1⟩
    have S1 := Lib.hid (S0.out.next hb1)
    obtain ⟨z0, z1, z2⟩ := S1.out.ma.cells
    clear hb1
    go_wp2_with fail
    refine (HW.out _ S1.out.below).mono ?_
    rintro e w2 ⟨B1, d1, rfl, R1, l1, m1, n1, hb2⟩
    have S2 := Lib.hid (S1.out.next hb2)
    have RU := Lib.hid R1
    clear hb2 z0 z1 z2 R1 l1 m1 n1
    obtain ⟨z0, z1, z2⟩ := S2.out.ma.cells
    go_wp2_with fail
    refine (HCL.out _).mono ?_
    rintro e w3 ⟨rfl, rfl⟩
    have H0 := Lib.hid (show Hb w2 (.slice A m.ins.length c) m.out x (.slice none 0 0) [] ((w2.alloc (.cells (mkC (.slice A m.ins.length c) (.slice none 0 0) m.out) 25)).alloc (.cells (hoC x) 44)) from
      ⟨below_al (al_below _ _), (Lies.new w2 _ _).al, lies_at (by simp) _ _, own_none⟩)
    have P0 := Lib.hid (show Put x us 0 false [] from .inl ⟨rfl, rfl, by simp⟩)
    clear z0 z1 z2
    go_wp2_with fail
    go_loopw [12, 41] (fun b i wr => ∃ (k : Nat) (p : Bool) (ys : List Ho) (sv : Value), i = .int .i64 k ∧ b = .bool p ∧ k ≤ us.length ∧ Put x us k p ys ∧ Hb w2 (.slice A m.ins.length c) m.out x sv ys wr) (fun _ i _ => us.length - (intOf i).toNat)
    case atStart => exact ⟨0, false, [], _, rfl, rfl, Nat.zero_le _, P0.out, H0.out⟩
    case round =>
      obtain ⟨k, p, ys, sv, rfl, rfl, hk, hP, hH⟩ := hrel
      have HYL := Lib.hid (show ys.length ≤ 33 from by have := hP.len; have := HUL.out; omega)
      obtain ⟨A1, d1, rfl, h1, h2, hl6, h3, h4⟩ := own_form hH.own (by omega)
      have HH := Lib.hid hH
      have PP := Lib.hid hP
      have m0 := hH.mks.cell (j := 0) rfl; have m1 := hH.mks.cell (j := 1) rfl; have m2 := hH.mks.cell (j := 2) rfl
      have x0 := hH.xa.cell (j := 0) rfl; have x1 := hH.xa.cell (j := 1) rfl
      have q1 : w2.heap.size < wr.heap.size := lt_of_block hH.mks
      have q2 : w2.heap.size + 1 < wr.heap.size := lt_of_block hH.xa
      have HL := Lib.hid (And.intro h1 (And.intro h2 (And.intro h3 h4)))
      obtain ⟨i0, hi0, hz0, hz1, hz2⟩ := info_parts hoInfo
      have HI0 := Lib.hid hi0; have HZ0 := Lib.hid hz0; have HZ1 := Lib.hid hz1; have HZ2 := Lib.hid hz2
      clear hP hH h1 h2 hl6 h3 h4 hi0 hz0 hz1 hz2
      by_cases hlt : k < us.length
      · obtain ⟨y, hy⟩ : ∃ y, us[k]? = some y := ⟨_, List.getElem?_eq_getElem hlt⟩
        obtain ⟨b, off, rfl, c0, c1⟩ := row_ho (RU.out.below HH.out.lo) hy
        have HYY := Lib.hid hy
        have HA1 := Lib.hid (HH.out.next (al_below wr (.cells (hoC y) 44)))
        have ew : IntKind.i64.wrap ((k : Int) + 1) = (k : Int) + 1 := wrap64_in (by have := HUL.out; omega) (by have := HUL.out; omega)
        clear hy
        have hway : (p = true) ∨ (p = false ∧ ¬ x.no < y.no) ∨ (p = false ∧ x.no < y.no) := by
          cases p <;> simp <;> omega
        rcases hway with rfl | ⟨rfl, a2⟩ | ⟨rfl, a2⟩
        · have PN := Lib.hid (PP.out.same HYY.out (.inl rfl))
          go_wp2_with (at_builtin; refine hold_mk ?_)
          refine hold_out ?_
          refine appHo rfl _ _ rfl (w2.heap.size + 1 + 1) _ ys rfl (own_up HA1.out.own (al_below _ _)) y _ rfl (by have h := one_ho (wr.alloc (.cells (hoC y) 44)) y; rw [World.size_alloc] at h; exact h) (by have := HYL.out; omega) (by have := lt_of_block HA1.out.xa; (try simp only [World.size_alloc, World.size_setCell] at this ⊢); omega) ?_
          intro v9 w9 hown9 hb9 hg9
          obtain ⟨zs, hzs⟩ : ∃ new_, new_ = ys ++ [y] := ⟨_, rfl⟩
          rw [← hzs] at hown9
          have hb9' := al_apart hb9 (by have := lt_of_block HA1.out.xa; (try simp only [World.size_alloc, World.size_setCell] at this ⊢); omega)
          obtain ⟨Azs, dzs, rfl, _, _, _, _, _⟩ := own_form hown9 (by omega)
          have Hzs := Lib.hid (show Hb w2 (.slice A m.ins.length c) m.out x (.slice Azs zs.length dzs) zs (w9.setCell ⟨w2.heap.size, 1, none⟩ (.slice Azs zs.length dzs)) from HA1.out.app hb9' hown9)
          have Mzs := Lib.hid (show Lies w2.heap.size (mkC (.slice A m.ins.length c) (.slice A1 ys.length d1) m.out) 25 w9 from (hb9'.block _ (by omega)).trans HA1.out.mks)
          have u1 := Mzs.out.cell (j := 1) rfl; have fu := Mzs.out.free 1
          have Ezs := Lib.hid hzs
          clear hown9 hb9 hb9' hzs hg9
          clear m0 m1 m2 x0 x1 c0 c1
          go_wp2_with fail
          go_roundw
          case rel => exact ⟨k + 1, true, _, _, by go_num, rfl, by omega, Ezs.out ▸ PN.out, Hzs.out⟩
          case measure => simp [intOf]; omega
        · have PN := Lib.hid (PP.out.same HYY.out (.inr a2))
          go_wp2_with (at_builtin; refine hold_mk ?_)
          refine hold_out ?_
          refine appHo rfl _ _ rfl (w2.heap.size + 1 + 1) _ ys rfl (own_up HA1.out.own (al_below _ _)) y _ rfl (by have h := one_ho (wr.alloc (.cells (hoC y) 44)) y; rw [World.size_alloc] at h; exact h) (by have := HYL.out; omega) (by have := lt_of_block HA1.out.xa; (try simp only [World.size_alloc, World.size_setCell] at this ⊢); omega) ?_
          intro v9 w9 hown9 hb9 hg9
          obtain ⟨zs, hzs⟩ : ∃ new_, new_ = ys ++ [y] := ⟨_, rfl⟩
          rw [← hzs] at hown9
          have hb9' := al_apart hb9 (by have := lt_of_block HA1.out.xa; (try simp only [World.size_alloc, World.size_setCell] at this ⊢); omega)
          obtain ⟨Azs, dzs, rfl, _, _, _, _, _⟩ := own_form hown9 (by omega)
          have Hzs := Lib.hid (show Hb w2 (.slice A m.ins.length c) m.out x (.slice Azs zs.length dzs) zs (w9.setCell ⟨w2.heap.size, 1, none⟩ (.slice Azs zs.length dzs)) from HA1.out.app hb9' hown9)
          have Mzs := Lib.hid (show Lies w2.heap.size (mkC (.slice A m.ins.length c) (.slice A1 ys.length d1) m.out) 25 w9 from (hb9'.block _ (by omega)).trans HA1.out.mks)
          have u1 := Mzs.out.cell (j := 1) rfl; have fu := Mzs.out.free 1
          have Ezs := Lib.hid hzs
          clear hown9 hb9 hb9' hzs hg9
          clear m0 m1 m2 x0 x1 c0 c1
          go_wp2_with fail
          go_roundw
          case rel => exact ⟨k + 1, false, _, _, by go_num, rfl, by omega, Ezs.out ▸ PN.out, Hzs.out⟩
          case measure => simp [intOf]; omega
        · have PN := Lib.hid (PP.out.now HYY.out a2)
          have Y1 := Lib.hid (show Lies wr.heap.size (hoC y) 44 (wr.alloc (.cells (hoC y) 44)) from Lies.new wr _ _)
          go_wp2_with (at_builtin; refine hold_mk ?_)
          refine hold_out ?_
          refine appHo rfl _ _ rfl (w2.heap.size + 1 + 1) _ ys rfl (own_up HA1.out.own (al_below _ _)) x _ rfl (by have h := one_ho (wr.alloc (.cells (hoC y) 44)) x; rw [World.size_alloc] at h; exact h) (by have := HYL.out; omega) (by have := lt_of_block HA1.out.xa; (try simp only [World.size_alloc, World.size_setCell] at this ⊢); omega) ?_
          intro v9 w9 hown9 hb9 hg9
          obtain ⟨zs, hzs⟩ : ∃ new_, new_ = ys ++ [x] := ⟨_, rfl⟩
          rw [← hzs] at hown9
          have hb9' := al_apart hb9 (by have := lt_of_block HA1.out.xa; (try simp only [World.size_alloc, World.size_setCell] at this ⊢); omega)
          obtain ⟨Azs, dzs, rfl, _, _, _, _, _⟩ := own_form hown9 (by omega)
          have Hzs := Lib.hid (show Hb w2 (.slice A m.ins.length c) m.out x (.slice Azs zs.length dzs) zs (w9.setCell ⟨w2.heap.size, 1, none⟩ (.slice Azs zs.length dzs)) from HA1.out.app hb9' hown9)
          have Mzs := Lib.hid (show Lies w2.heap.size (mkC (.slice A m.ins.length c) (.slice A1 ys.length d1) m.out) 25 w9 from (hb9'.block _ (by omega)).trans HA1.out.mks)
          have u1 := Mzs.out.cell (j := 1) rfl; have fu := Mzs.out.free 1
          have Ezs := Lib.hid hzs
          have Y9 := Lib.hid (show Lies wr.heap.size (hoC y) 44 w9 from (hg9.block _ (by have := lt_of_block Y1.out; simp only [World.size_alloc] at this ⊢; omega) (fun e => by have := (HH.out.own.lt _ e.symm).2; omega)).trans Y1.out.al)
          clear hown9 hb9 hb9' hzs hg9
          have Y2 := Lib.hid (show Lies wr.heap.size (hoC y) 44 w9 from Y9.out)
          have y0 := Y2.out.cell (j := 0) rfl; have y1 := Y2.out.cell (j := 1) rfl
          have q3 : wr.heap.size < w9.heap.size := lt_of_block Y2.out
          have q4 : w2.heap.size < w9.heap.size := by omega
          have HYL := Lib.hid (show zs.length ≤ 34 from by rw [Ezs.out, List.length_append]; have := HYL.out; simp; omega)
          clear m0 m1 m2 x0 x1 c0 c1
          go_wp2_with (at_builtin; refine hold_mk ?_)
          refine hold_out ?_
          refine appHo rfl _ _ rfl (w2.heap.size + 1 + 1) _ zs rfl (own_up Hzs.out.own (al_below _ _)) y _ rfl (by have h := one_ho (w9.setCell ⟨w2.heap.size, 1, none⟩ (.slice Azs zs.length dzs)) y; rw [World.size_setCell] at h; exact h) (by have := HYL.out; omega) (by have := lt_of_block Hzs.out.xa; (try simp only [World.size_alloc, World.size_setCell] at this ⊢); omega) ?_
          intro v9 w8 hown9 hb9 hg9
          obtain ⟨vs, hvs⟩ : ∃ new_, new_ = zs ++ [y] := ⟨_, rfl⟩
          rw [← hvs] at hown9
          have hb9' := al_apart hb9 (by have := lt_of_block Hzs.out.xa; (try simp only [World.size_alloc, World.size_setCell] at this ⊢); omega)
          obtain ⟨Avs, dvs, rfl, _, _, _, _, _⟩ := own_form hown9 (by omega)
          have Hvs := Lib.hid (show Hb w2 (.slice A m.ins.length c) m.out x (.slice Avs vs.length dvs) vs (w8.setCell ⟨w2.heap.size, 1, none⟩ (.slice Avs vs.length dvs)) from Hzs.out.app hb9' hown9)
          have Mvs := Lib.hid (show Lies w2.heap.size (mkC (.slice A m.ins.length c) (.slice Azs zs.length dzs) m.out) 25 w8 from (hb9'.block _ (by omega)).trans Hzs.out.mks)
          have u1 := Mvs.out.cell (j := 1) rfl; have fu := Mvs.out.free 1
          have Evs := Lib.hid hvs
          clear hown9 hb9 hb9' hvs hg9
          go_wp2_with fail
          go_roundw
          case rel => exact ⟨k + 1, true, _, _, by go_num, rfl, by omega, (show vs = ys ++ [x] ++ [y] from by rw [Evs.out, Ezs.out]) ▸ PN.out, Hvs.out⟩
          case measure => simp [intOf]; omega
      · have hkn : k = us.length := by omega
        have hD := PP.out
        rw [hkn] at hD
        have HD := Lib.hid hD.done

        clear hD hkn
        go_upto_if 67 with fail
        go_cut [] from 68 (fun wc => ∃ (sv : Value) (zs : List Ho), Hb w2 (.slice A m.ins.length c) m.out x sv zs wc ∧ zs = insH x us)
        case first =>
          rcases HD.out with ⟨rfl, e⟩ | ⟨rfl, e⟩
          · have E := Lib.hid e
            clear e
            go_wp2_with fail
            go_meet
            case rel => exact ⟨_, _, HH.out, E.out⟩
          · have E := Lib.hid e
            clear e
            go_wp2_with (at_builtin; refine hold_mk ?_)
            refine hold_out ?_
            refine appHo rfl _ _ rfl (w2.heap.size + 1 + 1) _ ys rfl (own_up HH.out.own (al_below _ _)) x _ rfl (by have h := one_ho wr x; exact h) (by have := HYL.out; omega) (by have := lt_of_block HH.out.xa; (try simp only [World.size_alloc, World.size_setCell] at this ⊢); omega) ?_
            intro v9 w9 hown9 hb9 hg9
            obtain ⟨zs, hzs⟩ : ∃ new_, new_ = ys ++ [x] := ⟨_, rfl⟩
            rw [← hzs] at hown9
            have hb9' := al_apart hb9 (by have := lt_of_block HH.out.xa; (try simp only [World.size_alloc, World.size_setCell] at this ⊢); omega)
            obtain ⟨Azs, dzs, rfl, _, _, _, _, _⟩ := own_form hown9 (by omega)
            have Hzs := Lib.hid (show Hb w2 (.slice A m.ins.length c) m.out x (.slice Azs zs.length dzs) zs (w9.setCell ⟨w2.heap.size, 1, none⟩ (.slice Azs zs.length dzs)) from HH.out.app hb9' hown9)
            have Mzs := Lib.hid (show Lies w2.heap.size (mkC (.slice A m.ins.length c) (.slice A1 ys.length d1) m.out) 25 w9 from (hb9'.block _ (by omega)).trans HH.out.mks)
            have u1 := Mzs.out.cell (j := 1) rfl; have fu := Mzs.out.free 1
            have Ezs := Lib.hid hzs
            clear hown9 hb9 hb9' hzs hg9
            clear m0 m1 m2 x0 x1
            go_wp2_with fail
            go_meet
            case rel => exact ⟨_, _, Hzs.out, by rw [Ezs.out]; exact E.out⟩
        case rest =>
          obtain ⟨sv, zs, hHc, hzs⟩ := hcut
          obtain ⟨A2, d2, rfl, l1, l2, _, l3, l4⟩ := own_form hHc.own (by omega)
          have HC := Lib.hid hHc
          have EZ := Lib.hid hzs
          have LZ := Lib.hid (And.intro l1 (And.intro l2 (And.intro l3 l4)))
          have SE := Lib.hid (S2.out.next hHc.lo)
          clear m0 m1 m2 x0 x1 hHc hzs l1 l2 l3 l4 q1 q2
          obtain ⟨⟨r0, r1, r2⟩, f0, f1, f2⟩ := SE.out.frees
          have m0 := HC.out.mks.cell (j := 0) rfl; have m1 := HC.out.mks.cell (j := 1) rfl; have m2 := HC.out.mks.cell (j := 2) rfl
          by_cases hbig : (32 : Int) < zs.length
          · have HO2 := Lib.hid (show holdM m x.no t = (none_, 3) from by rw [HO.out, ← EZ.out, if_pos (by omega)])
            go_wp2_with fail
            obtain ⟨k1, k2⟩ := SE.out.none
            rw [HO2.out]
            exact holdR_ret (o := (none_, 3)) (A := none) (c := 0) (B := none) (d := 0) rfl rfl rfl k1 (Has.zero _) k2
          · have HO2 := Lib.hid (show holdM m x.no t = (⟨m.ins, zs, m.out⟩, 0) from by rw [HO.out, ← EZ.out, if_neg (by omega)])
            go_wp2_with fail
            rw [HO2.out]
            have hbF := below_setM3 SE.out.below (R := w.heap.size + 1) (by omega) (.slice A m.ins.length c) (.slice A2 zs.length d2) m.out
            obtain ⟨l1, l2, l3, l4⟩ := LZ.out
            exact holdR_ret (o := (⟨m.ins, zs, m.out⟩, 0)) rfl rfl rfl (lies_setM3 SE.out.res (.slice A m.ins.length c) (.slice A2 zs.length d2) m.out) ⟨H.out.ri.below hbF, row_setM3 l3 (fun a ha => by have h1 := (l4 a ha).1; have h2 := lt_of_block S2.out.res; omega) (.slice A m.ins.length c) (.slice A2 zs.length d2) m.out, H.out.l1, H.out.l2, l1, l2⟩ hbF
end Wm
end Go.Proofs.Ytciagbeamphihaa
