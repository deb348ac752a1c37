/- ModRun, ModRef, put together. -/
import Derived.Test.YtipmphkmeiogoaaZ27
import Derived.Test.YtipmphkmeiogoaaZ13
import Derived.Test.YtipmphkmeiogoaaZ23
import Derived.Test.YtipmphkmeiogoaaZ3
import Derived.Test.YtipmphkmeiogoaaZ20
import Derived.Test.YtipmphkmeiogoaaZ21
import Derived.Test.YtipmphkmeiogoaaZ10
import Derived.Test.YtipmphkmeiogoaaZ12
/- Run, of package model. -/
namespace Go.Proofs.Ytipmphkmeiogoaa
open Go.RowKit Go.Shelf Tick
set_option linter.unusedVariables false
set_option maxRecDepth 8000
namespace Mo
open Gen (TellsI TellsB lies_new1)
open Jo (Jb Ev Sr evIs srcOk insOk jbC jbV srV evL Srs)
open Pan (Pl Pn Rs adds)
/-- Hands back results and an error; what was stays. -/
def GivesRE (r : List Rs × Int) (w : World) (e : Ending) (w' : World) : Prop :=
  ∃ A c, e = .returned (.tuple #[.slice A r.1.length c, .int .i64 r.2]) ∧ r.1.length ≤ c ∧ c ≤ maxLen ∧ Row w' A (rc r.1) ∧ Below w.heap.size w w'
def runOut (j : Jb) (ls : List Sr) : List Rs × Int := if chk j ls = 0 then (res j (keptAll j (ls.map (·.l))), 0) else ([], chk j ls)
theorem insOk_all4 {ls : List Sr} (h : insOk ls = true) : ls.length ≤ 4 ∧ ∀ s ∈ ls, s.l.length ≤ 200 ∧ ∀ e ∈ s.l, evIs e = true := by
  unfold Jo.insOk at h
  simp only [Bool.and_eq_true, decide_eq_true_eq, List.all_eq_true, Jo.srcOk] at h
  exact ⟨h.1.2, fun s hs => (h.2 s hs)⟩
set_option maxRecDepth 100000 in
set_option maxHeartbeats 600000 in
theorem mdRun (j : Jb) (hlim : Lp.inI j.limit) (ls : List Sr) (A : Option Addr) (c : Nat) (w : World) (h : Row w A (ls.flatMap fun s => [srV s])) (hi : Srs w ls) (hfit : ∀ s ∈ ls, ∀ e ∈ s.l, fit e)
    (hb : insOk ls = true → (keptAll j (ls.map (·.l))).length ≤ 120) : Calls Try.prog 18 #[jbV j, .slice A ls.length c] w (GivesRE (runOut j ls) w) := by
  have HC := Lib.hid (fun w h hi => mdCheck j ls A c w h hi)
  have hmf : ∀ (fn : Fn) (first cap : Array Value) (w : World), (Instr.makeFunc fn first cap).run Try.prog w = .ok (.func fn first cap) w := fun _ _ _ _ => rfl
  have hb0 := below_al (o := .cells (jbC j) 23) (Below.refl w.heap.size w)
  have HR1 := Lib.hid (h.below hb0)
  have HS1 := Lib.hid (hi.below hb0)
  have HR0 := Lib.hid h
  have HS0 := Lib.hid hi
  have HB0 := Lib.hid hb0
  have LJ := Lib.hid (Lies.new w (jbC j) 23)
  unfold runOut
  by_cases hz : chk j ls = 0
  · have hok := chk_ok hz
    have h4 := insOk_all4 hok.2
    have hbb := hb hok.2
    rw [if_pos hz]
    rw [hz] at HC
    have HSRC := Lib.hid (fun w => mdSources j A ls.length c w)
    have HEACH := Lib.hid (fun B jb ib D w h1 h2 h3 h4' h5 h6 => mdEach j hok.1 hlim ls (by omega) hfit (fun s hs => (h4.2 s hs).2) (fun s hs => by have := (h4.2 s hs).1; omega) hbb A c B jb ib D w h1 h2 h3 h4' h5 h6)
    have hall : ∀ z ∈ keptAll j (ls.map (·.l)), evIs z = true := by
      intro z hz2
      obtain ⟨t, ht, hzt⟩ := List.mem_flatMap.1 hz2
      obtain ⟨s, hs, rfl⟩ := List.mem_map.1 ht
      exact kept_is ((h4.2 s hs).2) z hzt
    have hres := res_eq hok.1 hall hbb
    have hplen := panes_len j (keptAll j (ls.map (·.l)))
    obtain ⟨ps, hps⟩ : ∃ ps, ps = panes j (keptAll j (ls.map (·.l))) := ⟨_, rfl⟩
    rw [← hps] at HEACH hres hplen
    have HRES := Lib.hid (fun A' c' w' hA => paResults j.fold ps A' c' w' hA (by omega))
    rw [hres] at HRES
    obtain ⟨rs, hrs⟩ : ∃ rs, rs = res j (keptAll j (ls.map (·.l))) := ⟨_, rfl⟩
    rw [← hrs] at HRES ⊢
    clear hz hok h4 hbb hall hres hplen hps hrs hb hfit hlim h hi hb0
    go_enter Try.func18, Try.ntmps18
    go_wp2_with fail
    refine (HC.out _ HR1.out HS1.out).mono ?_
    rintro e w1 ⟨rfl, hb1⟩
    have HB1 := Lib.hid (below_next HB0.out hb1)
    have LJ1 := Lib.hid (LJ.out.below hb1)
    have x0 := LJ1.out.cell (j := 0) rfl; have x1 := LJ1.out.cell (j := 1) rfl; have x2 := LJ1.out.cell (j := 2) rfl; have x3 := LJ1.out.cell (j := 3) rfl; have x4 := LJ1.out.cell (j := 4) rfl; have x5 := LJ1.out.cell (j := 5) rfl; have x6 := LJ1.out.cell (j := 6) rfl; have x7 := LJ1.out.cell (j := 7) rfl
    have hlt := lt_of_block LJ1.out
    clear hb1
    go_wp2_with fail
    obtain ⟨w2, hw2⟩ : ∃ w2, w2 = w1.alloc (.cells (coC j (.slice none 0 0) 0) 67) := ⟨_, rfl⟩
    rw [← hw2]
    have hz2 : w2.heap.size = w1.heap.size + 1 := by rw [hw2]; simp
    have hb2 : Below w1.heap.size w1 w2 := by rw [hw2]; exact below_al (Below.refl _ _)
    have hC2 : Lies w1.heap.size (coC j (.slice none 0 0) 0) 67 w2 := by rw [hw2]; exact Lies.new w1 _ _
    clear hw2 x0 x1 x2 x3 x4 x5 x6 x7
    refine (HSRC.out _).mono ?_
    rintro e w3 ⟨rfl, hw3⟩
    have hb3 : Below w2.heap.size w2 w3 := by rw [hw3]; exact below_al (below_al (Below.refl _ _))
    have hb13 := below_next hb2 hb3
    have hAt : SrcAt w1.heap.size w2.heap.size (w2.heap.size + 1) j ls A c w3 := by
      refine ⟨?_, ?_, (rowB_of (HR0.out.below HB1.out) (Nat.le_refl _)).same fun k hk => hb13.block k hk, fun s hs => ?_⟩
      · rw [hw3]; exact (Lies.new w2 _ _).al
      · rw [hw3]; exact lies_new1 w2 _ _ _
      · obtain ⟨k, hk⟩ := List.getElem?_of_mem hs
        exact (rowB_of ((HS0.out.below HB1.out) k s hk).1 (Nat.le_refl _)).same fun k hk => hb13.block k hk
    have hC3 : ColAt w1.heap.size j [] none 0 w3 := ⟨hC2.below hb3, Nat.le_refl _, by simp [maxLen], Row.nil⟩
    have hz3 := hb3.size
    have HE := Lib.hid (HEACH.out w1.heap.size w2.heap.size (w2.heap.size + 1) w1.heap.size w3 hAt (by omega) (Nat.le_refl _) (by omega) (by omega) hC3)
    have LJ3 := Lib.hid (LJ1.out.below hb13)
    have HB3 := Lib.hid (below_next HB1.out hb13)
    have HZ := Lib.hid (show w1.heap.size < w3.heap.size by omega)
    clear hw3 hAt hC3 hb3 hb13 hb2 hC2 hz2 hz3
    go_wp2_with fail
    refine HE.out.mono ?_
    rintro e w4 ⟨⟨v, rfl⟩, ⟨A4, c4, hcol⟩, hm⟩
    have d9 := hcol.lies.cell (j := 9) rfl
    have d8 := hcol.lies.cell (j := 8) rfl
    have LJ4 := hm.lies LJ3.out (by have := HZ.out; rintro (h | h) <;> omega)
    have d3 := LJ4.cell (j := 3) rfl
    have HRE := Lib.hid (HRES.out A4 c4 w4 hcol.row)
    have HB4 : Hid (Below w.heap.size w w4) := Lib.hid (by
      have h1 := HB3.out
      have h2 := HB1.out.size
      exact Gen.Mine.below h1 hm (fun k hk => by have := HZ.out; rcases hk with hk | hk <;> omega) h1.size)
    clear hcol hm LJ4
    go_wp2_with fail
    refine HRE.out.mono ?_
    rintro e w5 ⟨A5, c5, rfl, q1, q2, q3, hb5⟩
    have HB5 := Lib.hid (below_next HB4.out hb5)
    have Q3 := Lib.hid q3
    clear hb5 q3 d9 d8 d3
    go_wp2_with fail
    go_ret2
    exact ⟨A5, c5, rfl, q1, q2, Q3.out, HB5.out⟩
  · rw [if_neg hz]
    obtain ⟨z, hzz⟩ : ∃ z, z = chk j ls := ⟨_, rfl⟩
    rw [← hzz] at hz HC ⊢
    have hzb : (z == 0) = false := ne_b hz
    have hz' := nb hz
    clear hzz hlim hfit h hi hb hb0
    go_enter Try.func18, Try.ntmps18
    go_wp2_with fail
    refine (HC.out _ HR1.out HS1.out).mono ?_
    rintro e w1 ⟨rfl, hb1⟩
    have HB1 := Lib.hid (below_next HB0.out hb1)
    clear hb1
    go_wp2_with fail
    go_ret2
    exact ⟨none, 0, rfl, Nat.le_refl _, by simp [maxLen], Row.nil, HB1.out⟩
end Mo
end Go.Proofs.Ytipmphkmeiogoaa
/- The reference's Mark, Kept, Check; rows of events compared. -/
namespace Go.Proofs.Ytipmphkmeiogoaa
open Go.RowKit Go.Shelf Tick
set_option linter.unusedVariables false
set_option maxRecDepth 8000
namespace Mo
open Gen (TellsI TellsB SaysI lies_new1)
open Jo (Jb Ev Sr evIs srcOk insOk jbC jbV srV evL Srs)
open Pan (Pl Pn adds)
/-- A job's box and a row of events. -/
structure MkAt (w0 : World) (j : Jb) (l : List Ev) (A : Option Addr) (jb : Nat) (w : World) : Prop where
  job : Lies jb (jbC j) 23 w
  row : Row w A (l.flatMap evL)
  below : Below w0.heap.size w0 w
theorem MkAt.next {w0 : World} {j : Jb} {l : List Ev} {A : Option Addr} {jb : Nat} {w w' : World} (h : MkAt w0 j l A jb w) (hb : Below w.heap.size w w') : MkAt w0 j l A jb w' :=
  ⟨h.job.below hb, h.row.below hb, below_next h.below hb⟩
theorem MkAt.drew {w0 : World} {j : Jb} {l : List Ev} {A : Option Addr} {jb : Nat} {w : World} (h : MkAt w0 j l A jb w) : MkAt w0 j l A jb w.drew := h.next (below_drewOf (Below.refl _ _))
theorem MkAt.at_ {w0 : World} {j : Jb} {l : List Ev} {b off : Nat} {jb : Nat} {w : World} (h : MkAt w0 j l (some ⟨b, off, none⟩) jb w) {k : Nat} {x : Ev} (hx : l[k]? = some x) : w.cell? ⟨b, off + k * 3 + 1, none⟩ = some (.int .i64 x.at_) := by
  obtain ⟨b', off', e, q⟩ := Jo.row_evC h.row hx
  cases e
  exact q.c1
theorem mk_max (j : Jb) (m : Int) (e : Ev) : mk j m e = if m < subT e.at_ j.delay then subT e.at_ j.delay else m := by
  unfold mk
  split <;> omega
set_option maxHeartbeats 600000 in
theorem rfMarkN (j : Jb) (l : List Ev) (A : Option Addr) (c n : Nat) (hn : n ≤ l.length) (hl : l.length ≤ 100000) (w : World) (h : Row w A (l.flatMap evL)) :
    Calls Try.prog 16 #[jbV j, .slice A l.length c, .int .i64 n] w (TellsI (markOf j 0 (l.take n)) w) := by
  have HSB := Lib.hid (fun a b w => refSub a b w)
  have hb0 := below_al (o := .cells (jbC j) 23) (Below.refl w.heap.size w)
  have M0 : Hid (MkAt w j l A w.heap.size (w.alloc (.cells (jbC j) 23))) := Lib.hid ⟨Lies.new w _ _, h.below hb0, hb0⟩
  clear h hb0
  go_enter Try.func16, Try.ntmps16
  go_wp2_with fail
  go_loopw [7, 8] (fun m i wr => ∃ k : Nat, m = .int .i64 (markOf j 0 (l.take k)) ∧ i = .int .i64 k ∧ k ≤ n ∧ MkAt w j l A w.heap.size wr) (fun _ i _ => n - (intOf i).toNat)
  case atStart => exact ⟨0, rfl, rfl, Nat.zero_le _, M0.out⟩
  case round =>
    clear M0
    obtain ⟨k, rfl, rfl, hk, hM⟩ := hrel
    have HM := Lib.hid hM
    clear hM
    by_cases hlt : k < n
    · have hltl : k < l.length := by omega
      obtain ⟨x, hx⟩ : ∃ x, l[k]? = some x := ⟨_, List.getElem?_eq_getElem hltl⟩
      obtain ⟨m, hm⟩ : ∃ m, m = markOf j 0 (l.take k) := ⟨_, rfl⟩
      have HMK : Hid (markOf j 0 (l.take (k + 1)) = if m < subT x.at_ j.delay then subT x.at_ j.delay else m) := Lib.hid (by rw [take_push hx, mark_push, hm, mk_max])
      obtain ⟨b, off, rfl, _⟩ := Jo.row_evC HM.out.row hx
      have HXC := Lib.hid (fun w5 (h5 : MkAt w j l (some ⟨b, off, none⟩) w.heap.size w5) => h5.at_ hx)
      have hw := wrapM (k := k) (by omega)
      obtain ⟨t, ht⟩ : ∃ t, t = subT x.at_ j.delay := ⟨_, rfl⟩
      have HS1 := Lib.hid (fun w => show Calls Try.prog 28 #[.int .i64 x.at_, .int .i64 j.delay] w (fun e w' => e = .returned (.int .i64 t) ∧ w = w') from by rw [ht]; exact HSB.out x.at_ j.delay w)
      rw [← ht] at HMK
      rw [← hm]
      clear hx hm ht
      go_wp2_with fail
      have S := Lib.hid HM.out.drew
      refine wide_all (MkAt w j l (some ⟨b, off, none⟩) w.heap.size) (by kernel_rfl) (by kernel_rfl) S.out ?_
      repeat (first
        | go_big_quiet_skip
        | (go_big_quiet_want
           apply wide_op
           · (intro w5 h5; have x6 := h5.job.cell (j := 6) rfl; have x9 := HXC.out w5 h5; go_simp; first | done | with_reducible rfl | (refine (HS1.out _).mono ?_; rintro e w6 ⟨rfl, rfl⟩; exact ⟨rfl, h5⟩))
           (try simp only [Act.put, List.setIfInBounds_toArray, List.set_cons_zero, List.set_cons_succ])
           go_big_quiet_on))
      refine wpQuiet_nil ?_
      intro w6 h6
      have HM6 := Lib.hid h6
      clear h6
      by_cases hg : m < t
      · have HE : Hid (markOf j 0 (l.take (k + 1)) = t) := Lib.hid (by have := HMK.out; rwa [if_pos hg] at this)
        go_wp2_with fail
        go_roundw
        case rel => exact ⟨k + 1, by rw [HE.out], rfl, by omega, HM6.out⟩
        case measure => simp [intOf]; omega
      · have HE : Hid (markOf j 0 (l.take (k + 1)) = m) := Lib.hid (by have := HMK.out; rwa [if_neg hg] at this)
        go_wp2_with fail
        go_roundw
        case rel => exact ⟨k + 1, by rw [HE.out], rfl, by omega, HM6.out⟩
        case measure => simp [intOf]; omega
    · have hkl : k = n := by omega
      subst hkl
      go_wp2_with fail
      go_ret
      exact ⟨rfl, HM.out.below⟩
/-- Events being built. -/
structure BuiltE (w0 w : World) (v : Value) (ms : List Ev) : Prop where
  own : w.ownsRow w0.heap.size 45 3 v ms.length (ec ms)
  below : Below w0.heap.size w0 w
theorem BuiltE.far {w0 a : World} {v : Value} {ms : List Ev} (h : BuiltE w0 a v ms) {q : Nat} (hq : v.ownBlock = some q) : w0.heap.size ≤ q ∧ q < a.heap.size := h.own.lt q hq
theorem BuiltE.up {w0 a b : World} {v : Value} {ms : List Ev} (h : BuiltE w0 a v ms) (hb : Below a.heap.size a b) : BuiltE w0 b v ms := ⟨own_up h.own hb, below_next h.below hb⟩
theorem one_rowE (w : World) (x : Ev) : Row (w.alloc (.cells (evC x) 45)) (some ⟨w.heap.size, 0, none⟩) (ec [x]) := by
  refine .inr ⟨w.heap.size, 0, rfl, fun j u hu => ?_⟩
  rw [ec_one] at hu
  rw [Nat.zero_add]
  refine (Lies.new w (evC x) 45).cell ?_
  rw [← hu]
  simp
theorem wpPushE {ops : Array Oper} {rest : List Oper} {o : Oper} {a : Act} {Q : Exit → Act → World → Prop} {w0 w : World} (hgd : o.guard = none) (s x : Operand)
    (ho : o.op = .call { callee := .builtin .append, args := #[s, x], argTypes := #[24, 24] }) (v : Value) (ms : List Ev) (hs : a.eval s = v) (h : BuiltE w0 w v ms)
    (A : Option Addr) (m c : Nat) (ys : List Ev) (hx : a.eval x = .slice A m c) (hr : Row w A (ec ys)) (hm : m = ys.length) (hlen : ms.length + ys.length ≤ 100000)
    (hk : ∀ v' w', BuiltE w0 w' v' (ms ++ ys) → w.grownBy w' v.ownBlock → (v'.ownBlock = v.ownBlock ∨ v'.ownBlock = some w.heap.size) → wpList Try.prog ops Q rest (a.put o.dst v') w') :
    wpList Try.prog ops Q (o :: rest) a w := by
  subst hm
  obtain ⟨i0, hi0, hz0, hz1, hz2⟩ := info_parts evInfo
  rcases A with _ | ad
  · have hn : ys = [] := by
      rcases hr with hr | ⟨_, _, hr, _⟩
      · have := ec_len ys; rw [hr] at this; exact List.eq_nil_of_length_eq_zero (by simp at this; omega)
      · cases hr
    subst hn
    have hrun : (Builtin.append_ #[24, 24] o.type #[v, .slice none 0 c]).run Try.prog w = .ok v w := by
      rcases h.own.2 with ⟨rfl, _⟩ | ⟨g, cap, cur, rfl, _, _, hnc, _⟩
      · simp [Builtin.append_, run_underlying Try.underlying24, sizeOf, typeInfo, hi0, Builtin.lenOf, Builtin.firstCells]
      · simp [Builtin.append_, run_underlying Try.underlying24, sizeOf, typeInfo, hi0, Builtin.lenOf, Builtin.firstCells, hnc, storeCells]
    refine wpList_plain hgd fun K hK => ?_
    unfold Oper.wp
    simp only [execOp, ho, resolve, invoke, builtin, Sem.run_bind, Sem.run_pure, Result.andThen_ok, List.map_toArray, List.map_cons, List.map_nil, hs, hx, hrun, List.length_nil]
    exact hK _ _ (hk v w (by simpa using h) (World.grownBy.refl _ _) (.inl rfl))
  · have hcells : ∀ j u, (ec ys)[j]? = some u → w.cell? (ad.add j) = some u := by
      rcases hr with hr | ⟨b, off, hr, hc⟩
      · rw [hr]; intro j u hu; simp at hu
      · cases hr
        intro j u hu
        rw [Go.WideShapes.add_plain]
        exact hc j u hu
    refine wpList_append_own_at w hgd s x 24 ho w0.heap.size 45 i0 _ 3 32 Try.underlying24 hi0 hz0 hz1 hz2 rfl (by omega) v ms.length (ec ms) hs h.own ad ys.length c (ec ys) hx (ec_len ys) hcells (ec_ones ys)
      (by unfold maxLen; omega) (by omega) h.below.size ?_
    intro v' w' hown hg _ hat
    refine hk v' w' ⟨by rw [List.length_append, ec_app]; exact hown, h.below.grown hg h.below.size fun q hq => (h.far hq).1⟩ hg hat
/-- Hands back a row of events; what was stays. -/
def GivesEs (xs : List Ev) (w : World) (e : Ending) (w' : World) : Prop := ∃ A c, e = .returned (.slice A xs.length c) ∧ xs.length ≤ c ∧ c ≤ maxLen ∧ Row w' A (ec xs) ∧ Below w.heap.size w w'
theorem BuiltE.gives {w0 a : World} {v : Value} {ms : List Ev} (h : BuiltE w0 a v ms) : GivesEs ms w0 (.returned v) a := by
  obtain ⟨A, c, rfl, h1, h2, _, h3, _⟩ := own_form h.own (by omega)
  exact ⟨A, c, rfl, h1, h2, h3, h.below⟩
structure KpAt (w0 : World) (j : Jb) (l : List Ev) (A : Option Addr) (jb bx : Nat) (x : Ev) (v : Value) (ms : List Ev) (w : World) : Prop where
  mt : MkAt w0 j l A jb w
  box : Lies bx (evC x) 45 w
  bt : BuiltE w0 w v ms
theorem KpAt.next {w0 : World} {j : Jb} {l : List Ev} {A : Option Addr} {jb bx : Nat} {x : Ev} {v : Value} {ms : List Ev} {w w' : World} (h : KpAt w0 j l A jb bx x v ms w) (hb : Below w.heap.size w w') : KpAt w0 j l A jb bx x v ms w' :=
  ⟨h.mt.next hb, h.box.below hb, h.bt.up hb⟩
set_option maxRecDepth 100000 in
set_option maxHeartbeats 1000000 in
theorem rfKept (j : Jb) (hlim : Lp.inI j.limit) (l : List Ev) (hfit : ∀ e ∈ l, fit e) (A : Option Addr) (c : Nat) (hl : l.length ≤ 1000) (w : World) (h : Row w A (l.flatMap evL)) :
    Calls Try.prog 15 #[jbV j, .slice A l.length c] w (GivesEs (kept j 0 l) w) := by
  have HMK := Lib.hid (fun n hn w h => rfMarkN j l A c n hn (by omega) w h)
  have HFIT := Lib.hid hfit
  have HLIM := Lib.hid hlim
  have HRW := Lib.hid h
  have hb0 := below_al (o := .cells (jbC j) 23) (Below.refl w.heap.size w)
  have hb1 := below_al (o := .cells #[] 45) hb0
  have M0 : Hid (MkAt w j l A w.heap.size ((w.alloc (.cells (jbC j) 23)).alloc (.cells #[] 45))) := Lib.hid ⟨(Lies.new w _ _).al, h.below hb1, hb1⟩
  have T0 : Hid (BuiltE w ((w.alloc (.cells (jbC j) 23)).alloc (.cells #[] 45)) (.slice (some ⟨w.heap.size + 1, 0, none⟩) 0 0) []) := Lib.hid ⟨by
    have h := own_new (B := w.heap.size) (e := 45) (size := 3) (w := w.alloc (.cells (jbC j) 23)) (by simp)
    rw [World.size_alloc] at h
    exact h, hb1⟩
  have hkl := kept_len j l 0
  have HL := Lib.hid hl
  clear h hb0 hb1 hfit hlim
  go_enter Try.func15, Try.ntmps15
  go_wp2_with fail
  go_loopw [5, 13] (fun v i wr => ∃ k : Nat, i = .int .i64 k ∧ k ≤ l.length ∧ MkAt w j l A w.heap.size wr ∧ BuiltE w wr v (kept j 0 (l.take k)) ∧ v.ownBlock ≠ some w.heap.size) (fun _ i _ => l.length - (intOf i).toNat)
  case atStart => exact ⟨0, rfl, Nat.zero_le _, M0.out, T0.out, by intro e; have := Option.some.inj (show some (w.heap.size + 1) = some w.heap.size from e); omega⟩
  case round =>
    clear M0 T0
    obtain ⟨k, rfl, hk, hM, hT, hne⟩ := hrel
    have HM := Lib.hid hM
    have HT := Lib.hid hT
    have HNE := Lib.hid hne
    clear hM hT hne
    by_cases hlt : k < l.length
    · obtain ⟨x, hx⟩ : ∃ x, l[k]? = some x := ⟨_, List.getElem?_eq_getElem hlt⟩
      obtain ⟨m, hm⟩ : ∃ m, m = markOf j 0 (l.take k) := ⟨_, rfl⟩
      have HKT : Hid (kept j 0 (l.take (k + 1)) = if x.at_ < m then kept j 0 (l.take k) else kept j 0 (l.take k) ++ [left j x]) := Lib.hid (by rw [take_push hx, kept_push, hm])
      have HKLE : Hid ((kept j 0 (l.take k)).length ≤ 1000) := Lib.hid (Nat.le_trans (kept_len j _ 0) (by rw [List.length_take]; have := HL.out; omega))
      obtain ⟨b, off, rfl, d0, d1, d2⟩ := Jo.row_evC HM.out.row hx
      have hw := wrapM (k := k) (by have := HL.out; omega)
      have hxf := HFIT.out x (List.mem_of_getElem? hx)
      have HMC := Lib.hid (fun w h => show Calls Try.prog 16 #[jbV j, .slice (some ⟨b, off, none⟩) l.length c, .int .i64 k] w (TellsI m w) from by rw [hm]; exact HMK.out k (by omega) w h)
      obtain ⟨y, hy⟩ : ∃ y, y = left j x := ⟨_, rfl⟩
      rw [← hy] at HKT
      have HRN : Hid (∀ w, Calls Try.prog 27 #[evV x, .int .i64 j.limit, .int .i64 j.fuel] w (fun e w' => (∃ n : Int, e = .returned (.tuple #[evV y, .int .i64 n])) ∧ Below w.heap.size w w')) := Lib.hid (fun w => (Lp.rfRun ⟨x.key, x.at_, x.val⟩ j.limit j.fuel hxf.2 HLIM.out w).mono fun e w' h => ⟨⟨((Lp.ran (Lp.limOf j.limit) (Lp.fuelOf j.fuel) ⟨x.key, x.at_, x.val⟩).n : Int), h.1.trans (by rw [hy]; rfl)⟩, h.2⟩)
      obtain ⟨ms, hms⟩ : ∃ ms, ms = kept j 0 (l.take k) := ⟨_, rfl⟩
      rw [← hms] at HT HKT HKLE
      have hbx := below_al (o := .cells (evC x) 45) (Below.refl wr.heap.size wr)
      have P0 := Lib.hid (show KpAt w j l (some ⟨b, off, none⟩) w.heap.size wr.heap.size x u5 ms (wr.alloc (.cells (evC x) 45)) from ⟨HM.out.next hbx, Lies.new wr _ _, HT.out.up hbx⟩)
      clear hx hm hy hms hbx hxf
      go_wp2_with fail
      have S := Lib.hid (P0.out.next (below_drewOf (Below.refl _ _)))
      refine wide_all (KpAt w j l (some ⟨b, off, none⟩) w.heap.size wr.heap.size x u5 ms) (by kernel_rfl) (by kernel_rfl) S.out ?_
      repeat (first
        | go_big_quiet_skip
        | (go_big_quiet_want
           apply wide_op
           · (intro w5 h5; have x0 := h5.mt.job.cell (j := 0) rfl; have x1 := h5.mt.job.cell (j := 1) rfl; have x2 := h5.mt.job.cell (j := 2) rfl; have x3 := h5.mt.job.cell (j := 3) rfl; have x4 := h5.mt.job.cell (j := 4) rfl; have x5 := h5.mt.job.cell (j := 5) rfl; have x6 := h5.mt.job.cell (j := 6) rfl; have x7 := h5.mt.job.cell (j := 7) rfl; have y1 := h5.box.cell (j := 1) rfl; go_simp; first | done | with_reducible rfl | (refine (HMC.out _ h5.mt.row).mono ?_; rintro e w6 ⟨rfl, hb6⟩; exact ⟨rfl, h5.next hb6⟩))
           (try simp only [Act.put, List.setIfInBounds_toArray, List.set_cons_zero, List.set_cons_succ])
           go_big_quiet_on))
      refine wpQuiet_nil ?_
      intro w6 h6
      have P6 := Lib.hid h6
      clear h6 d0 d1 d2
      by_cases hg : x.at_ < m
      · have HE : Hid (kept j 0 (l.take (k + 1)) = ms) := Lib.hid (by have := HKT.out; rwa [if_pos hg] at this)
        have hg2 : ¬ m ≤ x.at_ := by omega
        go_wp2_with fail
        go_roundw
        case rel => exact ⟨k + 1, rfl, by omega, P6.out.mt, by rw [HE.out]; exact P6.out.bt, HNE.out⟩
        case measure => simp [intOf]; omega
      · have HE : Hid (kept j 0 (l.take (k + 1)) = ms ++ [y]) := Lib.hid (by have := HKT.out; rwa [if_neg hg] at this)
        have hg2 : m ≤ x.at_ := by omega
        have y0 := P6.out.box.cell (j := 0) rfl; have y1 := P6.out.box.cell (j := 1) rfl; have y2 := P6.out.box.cell (j := 2) rfl
        have x4 := P6.out.mt.job.cell (j := 4) rfl; have x5 := P6.out.mt.job.cell (j := 5) rfl
        go_wp2_with fail
        refine (HRN.out _).mono ?_
        rintro e w7 ⟨⟨n, rfl⟩, hb7⟩
        have P7 := Lib.hid (P6.out.next hb7)
        clear hb7 x4 x5 y0 y1 y2
        go_wp2_with (at_builtin; refine hold_mk ?_)
        refine hold_out ?_
        have hb8 := below_al (o := .cells (evC y) 45) (below_al (o := .cells (evC y) 45) (Below.refl w7.heap.size w7))
        have hro := one_rowE (w7.alloc (.cells (evC y) 45)) y
        rw [World.size_alloc] at hro
        refine wpPushE rfl _ _ rfl u5 ms rfl (P7.out.bt.up hb8) _ 1 1 [y] rfl hro rfl (by have := HKLE.out; simp; omega) ?_
        intro v9 w9 bt9 hg9 hat9
        have HB9 := Lib.hid bt9
        have HM9 : Hid (MkAt w j l (some ⟨b, off, none⟩) w.heap.size w9) := Lib.hid ⟨lies_grown (P7.out.mt.job.below hb8) hg9 HNE.out, HRW.out.below bt9.below, bt9.below⟩
        have HN9 : Hid (v9.ownBlock ≠ some w.heap.size) := Lib.hid (by
          rcases hat9 with e | e
          · rw [e]; exact HNE.out
          · rw [e]; intro e2; have h1 := Option.some.inj e2; have h2 := P7.out.mt.below.size; simp at h1; omega)
        clear bt9 hg9 hat9 hb8 hro
        go_wp2_with fail
        go_roundw
        case rel => exact ⟨k + 1, rfl, by omega, HM9.out, by rw [HE.out]; exact HB9.out, HN9.out⟩
        case measure => simp [intOf]; omega
    · have hkl2 : k = l.length := by omega
      have HD : Hid (kept j 0 (l.take k) = kept j 0 l) := Lib.hid (by rw [hkl2, List.take_length])
      clear hkl2
      go_wp2_with fail
      go_ret
      have := HT.out.gives
      rwa [HD.out] at this
end Mo
end Go.Proofs.Ytipmphkmeiogoaa
