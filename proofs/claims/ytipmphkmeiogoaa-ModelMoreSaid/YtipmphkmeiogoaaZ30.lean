/- ModCut, ModShare, ModTurn, ModMix, FoldAll, put together. -/
import Derived.Test.YtipmphkmeiogoaaZ29
import Derived.Test.YtipmphkmeiogoaaZ4
import Derived.Deep.RegionHeld3
import Derived.Lib.MinMax
import Derived.Test.YtipmphkmeiogoaaZ8
import Derived.Deep.RegionWith
/- A source cut: its first events. -/
namespace Go.Proofs.Ytipmphkmeiogoaa
open Go.ChangeShapes Go.WideShapes Go.ChangeAt Go.RowKit Go.Shelf Tick
set_option linter.unusedVariables false
set_option maxRecDepth 8000
namespace Mo
open Gen (TellsI TellsB SaysI lies_new1)
open Jo (Jb Ev Sr evIs srcOk insOk jbC jbV srV evL Srs)
open Pan (Pl Pn Rs adds)
theorem tmod_loM {x d : Int} (h : 0 < d) : -d < x.tmod d := by
  rcases Int.le_total 0 x with h0 | h0
  · rw [Int.tmod_eq_emod_of_nonneg h0]; have := Int.emod_nonneg x (show d ≠ 0 by omega); omega
  · have e : x = -(-x) := by omega
    rw [e, Int.neg_tmod, Int.tmod_eq_emod_of_nonneg (by omega)]
    have := Int.emod_lt_of_pos (-x) h
    omega
/-- A cut of a source: k is where it is cut, if it is. -/
def cutS (k : Nat) (s : Sr) : Sr := if k < s.l.length ∧ s.l.length ≤ 200 then ⟨s.A, s.c, s.l.take k⟩ else s
theorem cutS_ok {w : World} {k : Nat} {s : Sr} (h : SrOk w s) : SrOk w (cutS k s) := by
  unfold cutS
  split
  · exact ⟨Gen.row_take Jo.evL_len h.row k, by have := h.few; simp only [List.length_take]; omega, h.cap, fun e he => h.fit e (List.mem_of_mem_take he)⟩
  · exact h
theorem cutS_few {k : Nat} {s : Sr} (h : (cutS k s).l.length ≤ 200) : (cutS k s).l.length ≤ k := by
  unfold cutS at h ⊢
  split
  · simp only [List.length_take]; omega
  · rename_i hc; rw [if_neg hc] at h; omega
theorem some_of {w : World} {s : Sr} (h : SrOk w s) (h0 : 0 < s.l.length) : ∃ b off, s.A = some ⟨b, off, none⟩ := by
  obtain ⟨x, hx⟩ : ∃ x, s.l[0]? = some x := ⟨_, List.getElem?_eq_getElem h0⟩
  obtain ⟨b, off, e, _⟩ := Jo.row_evC h.row hx
  exact ⟨b, off, e⟩
theorem cutP_ok {w : World} {s : Sr} (h : SrOk w s) (p : Nat) : SrOk w ⟨s.A, s.c, s.l.take p⟩ :=
  ⟨Gen.row_take Jo.evL_len h.row p, by have := h.few; simp only [List.length_take]; omega, h.cap, fun e he => h.fit e (List.mem_of_mem_take he)⟩
theorem chk_take {j : Jb} {s : Sr} (h : chk j [s] = 0) (p : Nat) : chk j [⟨s.A, s.c, s.l.take p⟩] = 0 := by
  obtain ⟨h1, h2⟩ := chk_ok h
  obtain ⟨h3, h4⟩ := insOk_one h2
  have h5 : insOk [⟨s.A, s.c, s.l.take p⟩] = true := by
    unfold Jo.insOk
    simp only [List.length_cons, List.length_nil, List.all_cons, List.all_nil, Bool.and_true, Bool.and_eq_true, Jo.srcOk, decide_eq_true_eq, List.all_eq_true]
    exact ⟨by omega, by rw [List.length_take]; omega, fun e he => h4 e (List.mem_of_mem_take he)⟩
  unfold chk
  rw [h1, h5]
  rfl
theorem row_dropE {w : World} {A : Option Addr} {xs : List Ev} (h : Row w A (ec xs)) {b off : Nat} (hA : A = some ⟨b, off, none⟩) (q : Nat) : Row w (some ⟨b, off + q * 3, none⟩) (ec (xs.drop q)) := by
  subst hA
  rcases h with h | ⟨b', off', e, h⟩
  · have : xs = [] := List.eq_nil_of_length_eq_zero (by have := ec_len xs; rw [h] at this; simp at this; omega)
    subst this
    left; simp [ec]
  · cases e
    refine .inr ⟨b, off + q * 3, rfl, fun j u hu => ?_⟩
    have e1 : ec xs = ec (xs.take q) ++ ec (xs.drop q) := by rw [← ec_app, List.take_append_drop]
    rcases Nat.lt_or_ge q xs.length with hq | hq
    · rw [Nat.add_assoc]
      refine h _ _ ?_
      rw [e1, List.getElem?_append_right (by rw [ec_len, List.length_take]; omega), ec_len, List.length_take, Nat.min_eq_left (by omega), Nat.add_sub_cancel_left]
      exact hu
    · rw [List.drop_of_length_le hq] at hu
      simp [ec] at hu
end Mo
end Go.Proofs.Ytipmphkmeiogoaa
/- What comes out, counted. -/
namespace Go.Proofs.Ytipmphkmeiogoaa
open Go.ChangeShapes Go.WideShapes Go.ChangeAt Go.RowKit Go.Shelf Tick
set_option linter.unusedVariables false
set_option maxRecDepth 8000
namespace Mo
open Gen (TellsI TellsB SaysI lies_new1)
open Jo (Jb Ev Sr evIs srcOk insOk jbC jbV srV evL Srs)
open Pan (Pl Pn Rs adds)
theorem chk_mem {j : Jb} {ls : List Sr} (h : chk j ls = 0) {s : Sr} (hs : s ∈ ls) : chk j [s] = 0 := by
  obtain ⟨h1, h2⟩ := chk_ok h
  obtain ⟨h3, h4⟩ := (insOk_all4 h2).2 s hs
  have h5 : insOk [s] = true := by
    unfold Jo.insOk
    simp only [List.length_cons, List.length_nil, List.all_cons, List.all_nil, Bool.and_true, Bool.and_eq_true, Jo.srcOk, decide_eq_true_eq, List.all_eq_true]
    exact ⟨by omega, h3, h4⟩
  unfold chk
  rw [h1, h5]
  rfl
theorem keptAll_is {j : Jb} {ls : List Sr} (h : insOk ls = true) : ∀ z ∈ keptAll j (ls.map (·.l)), evIs z = true := by
  intro z hz2
  obtain ⟨t, ht, hzt⟩ := List.mem_flatMap.1 hz2
  obtain ⟨s, hs, rfl⟩ := List.mem_map.1 ht
  exact kept_is (((insOk_all4 h).2 s hs).2) z hzt
theorem flat_one_len {j : Jb} (hr : Jo.right j = true) (hs : j.size = j.slide) : ∀ (l : List Ev), (∀ e ∈ l, evIs e = true) → (flat j l).length = l.length
  | [], _ => rfl
  | e :: l, h => by
    have ih := flat_one_len hr hs l fun x hx => h x (by simp [hx])
    have hg := good_of hr (h e (by simp))
    have h1 : (cells1 j e).length = 1 := by
      unfold cells1
      rw [List.length_map, Win.of_len hg]
      exact (Win.cnt_facts hg).2.2.2 hs
    show (cells1 j e ++ flat j l).length = _
    rw [List.length_append, h1, ih, List.length_cons]
    omega
def sumN (l : List Rs) : Int := (l.map (·.n)).sum
theorem sumN_push (l : List Rs) (x : Rs) : sumN (l ++ [x]) = sumN l + x.n := by simp [sumN]
theorem sumN_res (j : Jb) (l : List Ev) : sumN (res j l) = Pan.total (panes j l) := by
  unfold sumN res Pan.total
  rw [List.map_map]
  rfl
/-- Each event that is kept counts in just one result. -/
theorem counts_eq {j : Jb} (hr : Jo.right j = true) (hs : j.size = j.slide) {l : List Ev} (h : ∀ e ∈ l, evIs e = true) (hl : l.length ≤ 120) : sumN (res j l) = (l.length : Int) := by
  rw [sumN_res]
  unfold panes
  rw [Pan.total_adds (fold_ok hr) _ (by have := flat_len j l; omega), flat_one_len hr hs l h]
theorem sumN_bd {j : Jb} (hr : Jo.right j = true) {l : List Ev} (hl : l.length ≤ 120) (k : Nat) : 0 ≤ sumN ((res j l).take k) ∧ sumN ((res j l).take k) ≤ 1000000 * k := by
  have hn := panes_ns hr hl
  have hm : ∀ x ∈ res j l, 1 ≤ x.n ∧ x.n ≤ 1000000 := by
    intro x hx
    obtain ⟨a, ha, rfl⟩ := List.mem_map.1 hx
    exact hn a ha
  induction k with
  | zero => simp [sumN]
  | succ k ih =>
    rcases Nat.lt_or_ge k (res j l).length with h | h
    · have hx : (res j l)[k]? = some (res j l)[k] := List.getElem?_eq_getElem h
      have h1 := hm _ (List.mem_of_getElem? hx)
      rw [take_push hx, sumN_push]
      omega
    · rw [List.take_of_length_le (by omega)]
      rw [List.take_of_length_le h] at ih
      omega
theorem all_take_push (j : Jb) {ls : List Sr} {k : Nat} {x : Sr} (h : ls[k]? = some x) : keptAll j ((ls.take (k + 1)).map (·.l)) = keptAll j ((ls.take k).map (·.l)) ++ kept j 0 x.l := by
  rw [take_push h, all_push]
theorem keptAll_take_le (j : Jb) (ls : List Sr) (k : Nat) : (keptAll j ((ls.take k).map (·.l))).length ≤ (keptAll j (ls.map (·.l))).length := by
  have e : ls.map (·.l) = (ls.take k).map (·.l) ++ (ls.drop k).map (·.l) := by rw [← List.map_append, List.take_append_drop]
  have e2 : keptAll j (ls.map (·.l)) = keptAll j ((ls.take k).map (·.l)) ++ keptAll j ((ls.drop k).map (·.l)) := by unfold keptAll; rw [e, List.flatMap_append]
  rw [e2, List.length_append]
  omega
theorem runOut_ok {j : Jb} {ls : List Sr} (h : chk j ls = 0) : runOut j ls = (res j (keptAll j (ls.map (·.l))), 0) := if_pos h
theorem runOut_not {j : Jb} {ls : List Sr} (h : chk j ls ≠ 0) : runOut j ls = ([], chk j ls) := if_neg h
/-- A row of which no cell holds what is overwritten. -/
theorem row_cellM {W : World} {A : Option Addr} {cs : List Value} {p : Addr} {u : Value} (h : Row W A cs) (hp : W.cell? p = some u) (hu : u ∉ cs) (v : Value) : Row (W.setCell p v) A cs := by
  rcases h with h | ⟨b, off, rfl, h⟩
  · exact .inl h
  · refine .inr ⟨b, off, rfl, fun j x hx => ?_⟩
    have h1 := h j x hx
    refine (World.cell?_setCell_other W p _ v ?_).trans h1
    rintro rfl
    rw [hp] at h1
    cases h1
    exact hu (List.mem_of_getElem? hx)
end Mo
end Go.Proofs.Ytipmphkmeiogoaa
/- Rows of sources put together. -/
namespace Go.Proofs.Ytipmphkmeiogoaa
open Go.ChangeShapes Go.WideShapes Go.ChangeAt Go.RowKit Go.Shelf Tick
set_option linter.unusedVariables false
set_option maxRecDepth 8000
namespace Mo
open Gen (TellsI TellsB SaysI lies_new1)
open Jo (Jb Ev Sr evIs srcOk insOk jbC jbV srV evL Srs)
open Pan (Pl Pn Rs adds)
theorem tmod_loT {x d : Int} (h : 0 < d) : -d < x.tmod d := by
  rcases Int.le_total 0 x with h0 | h0
  · rw [Int.tmod_eq_emod_of_nonneg h0]; have := Int.emod_nonneg x (show d ≠ 0 by omega); omega
  · have e : x = -(-x) := by omega
    rw [e, Int.neg_tmod, Int.tmod_eq_emod_of_nonneg (by omega)]
    have := Int.emod_lt_of_pos (-x) h
    omega
theorem trodAll_fiveM {H : Type} {enc : TypeId × Value → H} {P : Program} {w : World} {base : Nat} {spare : Nat → Bool} {held : Bool} {t1 t2 t3 t4 t5 : TypeId} {args : Array Value} {ds : List (DataW H)} {ps : List MemPlace}
    (h : DataW.TrodAll enc P w base spare held [t1, t2, t3, t4, t5] args.toList ds ps) : ∃ v1 v2 v3 v4 v5 d1 d2 d3 d4 d5 p1 p2 p3 p4 p5, args = #[v1, v2, v3, v4, v5] ∧
    DataW.Trod enc P w base spare held t1 v1 d1 p1 ∧ DataW.Trod enc P w base spare held t2 v2 d2 p2 ∧ DataW.Trod enc P w base spare held t3 v3 d3 p3 ∧ DataW.Trod enc P w base spare held t4 v4 d4 p4 ∧ DataW.Trod enc P w base spare held t5 v5 d5 p5 := by
  obtain ⟨v, vs, d, dr, p, q, ha, _, _, hd, hr⟩ := trodAll_cons h
  obtain ⟨u1, u2, u3, u4, e1, e2, e3, e4, q1, q2, q3, q4, hv, _, _, k1, k2, k3, k4⟩ := trodAll_four (args := vs.toArray) (by simpa using hr)
  have hvs : vs = [u1, u2, u3, u4] := by simpa using congrArg Array.toList hv
  refine ⟨v, u1, u2, u3, u4, d, e1, e2, e3, e4, p, q1, q2, q3, q4, ?_, hd, k1, k2, k3, k4⟩
  obtain ⟨l⟩ := args
  have hl : l = v :: vs := ha
  rw [hl, hvs]
abbrev lsC (ls : List Sr) : List Value := ls.flatMap fun s => [srV s]
theorem lsC_len (ls : List Sr) : (lsC ls).length = ls.length := by rw [Gen.flat_len (fun s => [srV s]) (fun _ => rfl), Nat.mul_one]
theorem BuiltL.far {w0 a : World} {v : Value} {ms : List Sr} (h : BuiltL w0 a v ms) {q : Nat} (hq : v.ownBlock = some q) : w0.heap.size ≤ q ∧ q < a.heap.size := h.own.lt q hq
theorem step_pushL {ops : Array Oper} {o : Oper} {a : Act} {w w0 : World} {K : Act → World → Prop} {Q : Exit → Act → World → Prop} {E : Prop}
    (hg : o.guard = none) (s x : Operand) (hop : o.op = Op.call { callee := Callee.builtin Builtin.append, args := #[s, x], argTypes := #[29, 29] })
    (v : Value) (ms : List Sr) (hs : a.eval s = v) (h : BuiltL w0 w v ms)
    (ad : Addr) (m c : Nat) (ys : List Sr) (hx : a.eval x = .slice (some ad) m c) (hm : ys.length = m) (hr : ∀ j u, (lsC ys)[j]? = some u → w.cell? (ad.add j) = some u) (hlen : ms.length + m ≤ 100000)
    (hK : ∀ v' w', BuiltL w0 w' v' (ms ++ ys) → K (a.put o.dst v') w') :
    if Region.wanted o (yielded ops a.tmps) = true then Oper.wp Try.prog o a w K Q else E := by
  have hw : Region.wanted o (yielded ops a.tmps) = true := by simp [Region.wanted, hg]
  rw [if_pos hw]
  obtain ⟨i0, hi0, hz0, hz1, hz2⟩ := info_parts lsInfo
  obtain ⟨v', w', hrun, r1, r2, r3, r4⟩ := run_append_own_at (P := Try.prog) w w0.heap.size 29 o.type 24 i0 _ 1 24 Try.underlying29 hi0 hz0 hz1 hz2 rfl (by omega) v ms.length _ h.own ad m c (lsC ys) (by rw [lsC_len]; omega) hr (ls_ones ys) (by unfold maxLen; omega) (by omega) h.below.size
  unfold Oper.wp
  simp [execOp, hop, resolve, invoke, builtin, hs, hx, hrun, Result.andThen]
  exact hK v' w' ⟨by rw [List.length_append, hm, List.flatMap_append]; exact r1, h.below.grown r2 h.below.size fun q hq => (h.far hq).1⟩
theorem row_cellsL {w : World} {b off : Nat} {l : List Sr} (h : Row w (some ⟨b, off, none⟩) (lsC l)) {j : Nat} {u : Value} (hu : (lsC l)[j]? = some u) : w.cell? ⟨b, off + j, none⟩ = some u := by
  rcases h with h | ⟨b', off', h1, h2⟩
  · rw [h] at hu; simp at hu
  · cases h1; exact h2 j u hu
theorem ls_take (l : List Sr) (k : Nat) : lsC (l.take k) = (lsC l).take k := by
  have := Gen.flat_take (fun s : Sr => [srV s]) (fun _ => rfl) l k
  rw [Nat.mul_one] at this
  exact this.symm
theorem ls_drop (l : List Sr) (k : Nat) : lsC (l.drop k) = (lsC l).drop k := by
  induction l generalizing k with
  | nil => simp
  | cons x r ih =>
    cases k with
    | zero => rfl
    | succ k => exact ih k
theorem kept_same {j K : Jb} (h1 : K.limit = j.limit) (h2 : K.fuel = j.fuel) (h3 : K.delay = j.delay) : ∀ (l : List Ev) (m : Int), kept K m l = kept j m l
  | [], _ => rfl
  | e :: l, m => by
    have e1 : mk K m e = mk j m e := by unfold mk; rw [h3]
    have e2 : left K e = left j e := by unfold left; rw [h1, h2]
    show (if e.at_ < m then kept K (mk K m e) l else left K e :: kept K (mk K m e) l) = (if e.at_ < m then kept j (mk j m e) l else left j e :: kept j (mk j m e) l)
    rw [e1, e2, kept_same h1 h2 h3 l]
theorem keptAll_same {j K : Jb} (h1 : K.limit = j.limit) (h2 : K.fuel = j.fuel) (h3 : K.delay = j.delay) (ls : List (List Ev)) : keptAll K ls = keptAll j ls := by
  unfold keptAll
  congr 1
  funext l
  exact kept_same h1 h2 h3 l 0
theorem flat_perm (j : Jb) {l m : List Ev} (hp : l.Perm m) : (flat j l).Perm (flat j m) := by
  unfold flat
  induction hp with
  | nil => exact .refl _
  | cons x _ ih => simpa using ih.append_left _
  | swap x y l => simp only [List.flatMap_cons, ← List.append_assoc]; exact List.Perm.append_right _ List.perm_append_comm
  | trans _ _ ih1 ih2 => exact ih1.trans ih2
theorem res_perm {j : Jb} (hr : Jo.right j = true) {l m : List Ev} (hp : l.Perm m) (hl : l.length ≤ 120) : res j l = res j m := by
  unfold res panes
  rw [Pan.adds_perm (fold_ok hr) (flat_perm j hp) (by have := flat_len j l; omega)]
theorem res_same {j K : Jb} (h1 : K.size = j.size) (h2 : K.slide = j.slide) (h3 : K.fold = j.fold) (l : List Ev) : res K l = res j l := by
  unfold res panes flat cells1
  rw [h1, h2, h3]
theorem insOk_perm {l m : List Sr} (hp : l.Perm m) (h : insOk l = true) : insOk m = true := by
  unfold Jo.insOk at h ⊢
  rw [Bool.and_eq_true, decide_eq_true_eq, List.all_eq_true] at h ⊢
  exact ⟨by rw [← hp.length_eq]; exact h.1, fun s hs => h.2 s (hp.mem_iff.2 hs)⟩
/-- The sources turned, for other groups and idle. -/
theorem turned {j K : Jb} {L : List Sr} (p : Nat) (h0 : chk j L = 0) (hb : (keptAll j (L.map (·.l))).length ≤ 120) (hk : K = { j with groups := K.groups, idle := K.idle }) (h1 : 1 ≤ K.groups ∧ K.groups ≤ 32) (h2 : 0 ≤ K.idle ∧ K.idle ≤ 1048576) :
    runOut K (L.drop p ++ L.take p) = (res j (keptAll j (L.map (·.l))), 0) ∧ (insOk (L.drop p ++ L.take p) = true → (keptAll K ((L.drop p ++ L.take p).map (·.l))).length ≤ 120) := by
  obtain ⟨hr, hi⟩ := chk_ok h0
  have e1 : K.limit = j.limit := by rw [hk]
  have e2 : K.fuel = j.fuel := by rw [hk]
  have e3 : K.delay = j.delay := by rw [hk]
  have e4 : K.size = j.size := by rw [hk]
  have e5 : K.slide = j.slide := by rw [hk]
  have e6 : K.fold = j.fold := by rw [hk]
  have hpm : (L.drop p ++ L.take p).Perm L := by
    have h := List.perm_append_comm (l₁ := L.drop p) (l₂ := L.take p)
    rwa [List.take_append_drop] at h
  have hi2 := insOk_perm hpm.symm hi
  have hr2 : Jo.right K = true := by
    rw [Jo.right_iff] at hr ⊢
    rw [e1, e2, e3, e4, e5, e6]
    exact ⟨h1, hr.2.1, hr.2.2.1, hr.2.2.2.1, hr.2.2.2.2.1, hr.2.2.2.2.2.1, h2⟩
  have hc : chk K (L.drop p ++ L.take p) = 0 := by unfold chk; rw [hr2, hi2]; rfl
  have hpk : (keptAll j ((L.drop p ++ L.take p).map (·.l))).Perm (keptAll j (L.map (·.l))) := by
    have h : ((L.drop p ++ L.take p).map (·.l)).flatMap (kept j 0) = ((L.drop p).map (·.l)).flatMap (kept j 0) ++ ((L.take p).map (·.l)).flatMap (kept j 0) := by rw [List.map_append, List.flatMap_append]
    have h2 : (L.map (·.l)).flatMap (kept j 0) = ((L.take p).map (·.l)).flatMap (kept j 0) ++ ((L.drop p).map (·.l)).flatMap (kept j 0) := by rw [← List.flatMap_append, ← List.map_append, List.take_append_drop]
    unfold keptAll
    rw [h, h2]
    exact List.perm_append_comm
  have hkl : (keptAll j ((L.drop p ++ L.take p).map (·.l))).length ≤ 120 := by rw [hpk.length_eq]; exact hb
  refine ⟨?_, fun _ => by rw [keptAll_same e1 e2 e3]; exact hkl⟩
  rw [runOut_ok hc, keptAll_same e1 e2 e3, res_same e4 e5 e6, res_perm hr hpk hkl]
theorem keepC9 {b : Nat} {u0 u1 u2 u3 u4 u5 u6 u7 : Value} {w2 a : World} (hb : Below w2.heap.size w2 a) (h : w2.cell? ⟨b, 0, none⟩ = some u0 ∧ w2.cell? ⟨b, 1, none⟩ = some u1 ∧ w2.cell? ⟨b, 2, none⟩ = some u2 ∧ w2.cell? ⟨b, 3, none⟩ = some u3 ∧ w2.cell? ⟨b, 4, none⟩ = some u4 ∧ w2.cell? ⟨b, 5, none⟩ = some u5 ∧ w2.cell? ⟨b, 6, none⟩ = some u6 ∧ w2.cell? ⟨b, 7, none⟩ = some u7 ∧ Below w2.heap.size w2 w2) : a.cell? ⟨b, 0, none⟩ = some u0 ∧ a.cell? ⟨b, 1, none⟩ = some u1 ∧ a.cell? ⟨b, 2, none⟩ = some u2 ∧ a.cell? ⟨b, 3, none⟩ = some u3 ∧ a.cell? ⟨b, 4, none⟩ = some u4 ∧ a.cell? ⟨b, 5, none⟩ = some u5 ∧ a.cell? ⟨b, 6, none⟩ = some u6 ∧ a.cell? ⟨b, 7, none⟩ = some u7 ∧ Below w2.heap.size w2 a := by
  obtain ⟨h0, h1, h2, h3, h4, h5, h6, h7, h8⟩ := h
  exact ⟨cell_below h0 hb, cell_below h1 hb, cell_below h2 hb, cell_below h3 hb, cell_below h4 hb, cell_below h5 hb, cell_below h6 hb, cell_below h7 hb, hb⟩
end Mo
end Go.Proofs.Ytipmphkmeiogoaa
/- Events in another order. -/
namespace Go.Proofs.Ytipmphkmeiogoaa
open Go.RowKit Go.Shelf Tick
set_option linter.unusedVariables false
set_option maxRecDepth 8000
namespace Mo
open Jo (Jb Ev Sr evIs srcOk insOk jbC jbV srV evL Srs)
open Pan (Pl Pn Rs adds)
theorem ec_set {l : List Ev} {i : Nat} (e : Ev) (h : i < l.length) : (((ec l).set (i * 3) (.string e.key)).set (i * 3 + 1) (.int .i64 e.at_)).set (i * 3 + 2) (.int .i64 e.val) = ec (l.set i e) := by
  induction l generalizing i with
  | nil => simp at h
  | cons y r ih =>
    cases i with
    | zero => simp [ec, evL]
    | succ i =>
      have e1 : ec (y :: r) = .string y.key :: .int .i64 y.at_ :: .int .i64 y.val :: ec r := by simp [ec, evL]
      have e2 : ec ((y :: r).set (i + 1) e) = .string y.key :: .int .i64 y.at_ :: .int .i64 y.val :: ec (r.set i e) := by simp [ec, evL]
      rw [e1, e2, show (i + 1) * 3 = i * 3 + 1 + 1 + 1 by omega]
      simp only [List.set_cons_succ]
      rw [ih (by simpa using h)]
def setE (w : World) (g i : Nat) (e : Ev) : World :=
  ((w.setCell ⟨g, i * 3, none⟩ (.string e.key)).setCell ⟨g, i * 3 + 1, none⟩ (.int .i64 e.at_)).setCell ⟨g, i * 3 + 2, none⟩ (.int .i64 e.val)
theorem own_setE {w : World} {B n cap g : Nat} {T : TypeId} {l : List Ev} (h : w.ownsRow B T 3 (.slice (some ⟨g, 0, none⟩) n cap) n (ec l)) {i : Nat} (e : Ev) (hi : i < l.length) :
    (setE w g i e).ownsRow B T 3 (.slice (some ⟨g, 0, none⟩) n cap) n (ec (l.set i e)) := by
  have h1 := (h.stored (i * 3) (.string e.key)).1
  have h2 := (h1.stored (i * 3 + 1) (.int .i64 e.at_)).1
  have h3 := (h2.stored (i * 3 + 2) (.int .i64 e.val)).1
  rwa [ec_set e hi] at h3
theorem below_setE {B g : Nat} {a b : World} (h : Below B a b) (hg : B ≤ g) (i : Nat) (e : Ev) : Below B a (setE b g i e) :=
  ((h.setCell (p := ⟨g, i * 3, none⟩) hg _).setCell (p := ⟨g, i * 3 + 1, none⟩) hg _).setCell (p := ⟨g, i * 3 + 2, none⟩) hg _
structure OwnE (w : World) (g i : Nat) (e : Ev) : Prop where
  at_ : Jo.EvC w g (i * 3) e
  f0 : w.frozen? ⟨g, i * 3, none⟩ = false
  f1 : w.frozen? ⟨g, i * 3 + 1, none⟩ = false
  f2 : w.frozen? ⟨g, i * 3 + 2, none⟩ = false
theorem own_cellE {w : World} {B n cap g : Nat} {T : TypeId} {l : List Ev} (h : w.ownsRow B T 3 (.slice (some ⟨g, 0, none⟩) n cap) n (ec l)) {i : Nat} {e : Ev} (hi : l[i]? = some e) : OwnE w g i e := by
  have hl := h.1
  rw [ec_len] at hl
  have := (List.getElem?_eq_some_iff.1 hi).1
  have g0 : ∀ j, j < 3 → (ec l)[i * 3 + j]? = (evL e)[j]? := fun j hj => Gen.flat_get evL Jo.evL_len hi hj
  refine ⟨⟨?_, ?_, ?_⟩, h.frozenAt _, h.frozenAt _, h.frozenAt _⟩
  · rw [h.cellAt _ (by omega)]; exact g0 0 (by omega)
  · rw [h.cellAt _ (by omega)]; exact g0 1 (by omega)
  · rw [h.cellAt _ (by omega)]; exact g0 2 (by omega)
theorem swap_permE {α : Type} {ms : List α} {j k : Nat} {u v : α} (hu : ms[j]? = some u) (hv : ms[k]? = some v) : ((ms.set j v).set k u).Perm ms := by
  obtain ⟨h1, rfl⟩ := List.getElem?_eq_some_iff.1 hu
  obtain ⟨h2, rfl⟩ := List.getElem?_eq_some_iff.1 hv
  exact List.set_set_perm h1 h2
/-- Events in another order; B: what was made from there on may be turned. -/
structure MixedE (w : World) (us : List Ev) (n g cap : Nat) (wr : World) : Prop where
  row : ∃ ms : List Ev, ms.Perm us ∧ wr.ownsRow w.heap.size 45 3 (.slice (some ⟨g, 0, none⟩) n cap) n (ec ms)
  below : Below w.heap.size w wr
theorem MixedE.swap {w wr : World} {us ms : List Ev} {n g cap j k : Nat} {u v : Ev} (hg : w.heap.size ≤ g) (hp : ms.Perm us) (hown : wr.ownsRow w.heap.size 45 3 (.slice (some ⟨g, 0, none⟩) n cap) n (ec ms)) (hb : Below w.heap.size w wr)
    (hu : ms[j]? = some u) (hv : ms[k]? = some v) : MixedE w us n g cap (setE (setE wr g j v) g k u).drew :=
  ⟨⟨(ms.set j v).set k u, (swap_permE hu hv).trans hp, (own_setE (own_setE hown v (List.getElem?_eq_some_iff.1 hu).1) u (by rw [List.length_set]; exact (List.getElem?_eq_some_iff.1 hv).1)).drew⟩, (below_setE (below_setE hb hg _ _) hg _ _).drew⟩
theorem sub_final {t : Int} (h : t ≤ 1099511627776) : subT t 1099511627776 = 0 := by
  unfold subT
  have h1 := cl_bd t
  rw [Tick.cl_mid (t := 1099511627776) (by omega) (by omega)]
  rcases Int.lt_or_le (Tick.cl t - 1099511627776) 0 with h2 | h2
  · exact Tick.cl_neg h2
  · rw [show Tick.cl t - 1099511627776 = 0 by omega]
    exact Tick.cl_mid (by omega) (by omega)
/-- With the greatest delay nothing is late. -/
theorem kept_final {j : Jb} (hd : j.delay = 1099511627776) : ∀ (l : List Ev), (∀ e ∈ l, evIs e = true) → kept j 0 l = l.map (left j)
  | [], _ => rfl
  | e :: l, h => by
    obtain ⟨_, h1, h2⟩ := is_iff.1 (h e (by simp))
    have hm : mk j 0 e = 0 := by unfold mk; rw [hd, sub_final (by omega)]; rfl
    show (if e.at_ < 0 then _ else _) = _
    rw [if_neg (by omega), hm, kept_final hd l fun x hx => h x (by simp [hx])]
    rfl
/-- Any order of a source's events gives the same. -/
theorem mixed_run {j : Jb} (hd : j.delay = 1099511627776) {s t : Sr} (h0 : chk j [s] = 0) (hp : t.l.Perm s.l) (hl : s.l.length ≤ 30) :
    runOut j [t] = runOut j [s] ∧ (runOut j [s]).2 = 0 ∧ (kept j 0 s.l).length = s.l.length ∧ (insOk [t] = true → (keptAll j ([t].map (·.l))).length ≤ 120) ∧ (insOk [s] = true → (keptAll j ([s].map (·.l))).length ≤ 120) ∧ (runOut j [s]).1.length ≤ 100000 := by
  obtain ⟨hr, hi⟩ := chk_ok h0
  obtain ⟨h200, hs⟩ := insOk_one hi
  have ht : insOk [t] = true := by
    unfold Jo.insOk
    simp only [List.length_cons, List.length_nil, List.all_cons, List.all_nil, Bool.and_true, Bool.and_eq_true, Jo.srcOk, decide_eq_true_eq, List.all_eq_true]
    exact ⟨by omega, by rw [hp.length_eq]; omega, fun e he => hs e (hp.mem_iff.1 he)⟩
  have hc : chk j [t] = 0 := by unfold chk; rw [hr, ht]; rfl
  have k1 := kept_final hd s.l hs
  have k2 := kept_final hd t.l fun e he => hs e (hp.mem_iff.1 he)
  have a1 : keptAll j ([s].map (·.l)) = s.l.map (left j) := by simp [keptAll, k1]
  have a2 : keptAll j ([t].map (·.l)) = t.l.map (left j) := by simp [keptAll, k2]
  have hpm : (t.l.map (left j)).Perm (s.l.map (left j)) := hp.map _
  have l1 : (s.l.map (left j)).length ≤ 120 := by rw [List.length_map]; omega
  have l2 : (t.l.map (left j)).length ≤ 120 := by rw [List.length_map, hp.length_eq]; omega
  refine ⟨?_, ?_, by rw [k1, List.length_map], fun _ => by rw [a2]; exact l2, fun _ => by rw [a1]; exact l1, ?_⟩
  · rw [runOut_ok hc, runOut_ok h0, a1, a2, res_perm hr hpm l2]
  · rw [runOut_ok h0]
  · rw [runOut_ok h0, a1]
    show (res j (s.l.map (left j))).length ≤ 100000
    unfold res
    rw [List.length_map]
    have := panes_len j (s.l.map (left j))
    omega
end Mo
end Go.Proofs.Ytipmphkmeiogoaa
/- Contract of All. -/
namespace Go.Proofs.Ytipmphkmeiogoaa
open Go.RowKit
open Acm
set_option linter.unusedVariables false
set_option maxRecDepth 8000
abbrev AT : TypeId := 77
/-- Behind j values. -/
structure AllAt (w : World) (k : Int) (zs : List Int) (i : Value) (wr : World) : Prop where
  at_ : ∃ j : Nat, i = .int .i64 j ∧ j ≤ zs.length ∧ Lies (w.heap.size + 1) (acC (all k (zs.take j))) 77 wr
  out : Lies w.heap.size (acC zero) 77 wr
  below : Below w.heap.size w wr
end Go.Proofs.Ytipmphkmeiogoaa
