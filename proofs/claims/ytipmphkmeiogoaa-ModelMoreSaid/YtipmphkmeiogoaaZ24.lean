/- ModKfn, PaneMerge, put together. -/
import Derived.Test.YtipmphkmeiogoaaZ23
import Derived.Test.YtipmphkmeiogoaaZ12
/- Kept, of package model. -/
namespace Go.Proofs.Ytipmphkmeiogoaa
open Go.RowKit Go.Shelf Tick
set_option linter.unusedVariables false
set_option maxRecDepth 8000
namespace Mo
open Gen (TellsI TellsB lies_new1)
open Jo (Jb Ev Sr evIs srcOk insOk jbC jbV srV evL Srs)
structure KeptGo (j : Jb) (s : Sr) (w : World) (w2 : World) (jb lb : Nat) : Prop where
  at_ : KeptAt jb jb lb j s w2
  lb_ : lb = jb + 1
  lt : lb < w2.heap.size
theorem needs_lt {jb lb : Nat} {w : World} (h : lb = jb + 1) (hl : lb < w.heap.size) : ∀ k, needs jb jb lb k → k < w.heap.size := by
  intro k hk
  rcases hk with h | h | h <;> omega
theorem eKeptOf {j : Jb} (hlim : Lp.inI j.limit) {s : Sr} (hfit : ∀ e ∈ s.l, fit e) (hlen : s.l.length ≤ 200) {jb lb : Nat} {w2 : World} (hA : KeptAt jb jb lb j s w2) (hlb : lb = jb + 1) (hl : lb < w2.heap.size) :
    Calls Try.prog 22 #[keptF jb lb] w2 fun e w' => ∃ v, e = .returned v ∧ w'.ownsRow w2.heap.size 45 3 v (kept j 0 s.l).length (ec (kept j 0 s.l)) ∧ Below w2.heap.size w2 w' :=
  eCollect Fence.wide Over.wide 10 (by omega) 41 _ (enters_of Try.func41 (by kernel_rfl) rfl) (kept j 0 s.l) (by have := kept_len j s.l 0; omega) (needs jb jb lb) w2 w2
    (kept_feeds Fence.wide Over.wide 9 (by omega) j hlim s hfit (by omega) jb jb lb w2 hA (by omega)) (Below.refl _ _) (needs_lt hlb hl)
set_option maxRecDepth 100000 in
set_option maxHeartbeats 400000 in
theorem mdKeptFn (j : Jb) (hlim : Lp.inI j.limit) (s : Sr) (hfit : ∀ e ∈ s.l, fit e) (hlen : s.l.length ≤ 9223372036854775807) (w : World) (hr : Row w s.A (s.l.flatMap evL)) :
    Calls Try.prog 10 #[jbV j, srV s] w (GivesE (keptOut j s) w) := by
  have HC := Lib.hid (fun w A c h hi => mdCheck j [s] A c w h hi)
  have HKF := Lib.hid (fun w => mdKept j s w)
  have hb0 := below_al (o := .cells (jbC j) 23) (Below.refl w.heap.size w)
  have hR1 := row_one1 (w.alloc (.cells (jbC j) 23)) s
  have hS1 : Srs ((w.alloc (.cells (jbC j) 23)).alloc (.cells #[srV s] 24)) [s] := srs_one (hr.below (below_al hb0)) hlen
  rw [World.size_alloc] at hR1
  have HR1 := Lib.hid hR1
  have HS1 := Lib.hid hS1
  have HB0 := Lib.hid (below_al (o := .cells #[srV s] 24) hb0)
  have HRW := Lib.hid hr
  have LJ := Lib.hid ((Lies.new w (jbC j) 23).al (o := .cells #[srV s] 24))
  unfold keptOut
  by_cases hz : chk j [s] = 0
  · have hok := chk_ok hz
    have h200 := insOk_one hok.2
    rw [if_pos hz]
    rw [hz] at HC
    have HCO := Lib.hid (fun (jb lb : Nat) (W : World) (hA : KeptAt jb jb lb j s W) h1 h2 => eKeptOf hlim hfit h200.1 hA h1 h2)
    clear hz hok h200 hlim hfit hlen hr hb0 hR1 hS1
    go_enter Try.func10, Try.ntmps10
    go_wp2_with fail
    refine (HC.out _ _ 1 HR1.out HS1.out).mono ?_
    rintro e w1 ⟨rfl, hb1⟩
    have HB1 := Lib.hid (below_next HB0.out hb1)
    have LJ1 := LJ.out.below hb1
    have x0 := LJ1.cell (j := 0) rfl; have x1 := LJ1.cell (j := 1) rfl; have x2 := LJ1.cell (j := 2) rfl; have x3 := LJ1.cell (j := 3) rfl; have x4 := LJ1.cell (j := 4) rfl; have x5 := LJ1.cell (j := 5) rfl; have x6 := LJ1.cell (j := 6) rfl; have x7 := LJ1.cell (j := 7) rfl
    clear hb1 LJ1
    go_wp2_with fail
    refine (HKF.out _).mono ?_
    rintro e w2 ⟨rfl, hw2⟩
    have hb2 : Below w1.heap.size w1 w2 := by rw [hw2]; exact below_al (below_al (Below.refl _ _))
    have hA : KeptAt w1.heap.size w1.heap.size (w1.heap.size + 1) j s w2 := by
      refine ⟨?_, ?_, ?_⟩
      · rw [hw2]; exact (Lies.new w1 _ _).al
      · rw [hw2]; exact lies_new1 w1 _ _ _
      · exact (rowB_of (HRW.out.below HB1.out) (Nat.le_refl _)).same fun k hk => hb2.block k hk
    have hl2 : w1.heap.size + 1 < w2.heap.size := by rw [hw2]; simp
    have HCC := Lib.hid (HCO.out _ _ _ hA rfl hl2)
    have HB2 := Lib.hid (below_next HB1.out hb2)
    clear hw2 hb2 hA hl2 x0 x1 x2 x3 x4 x5 x6 x7
    go_wp2_with fail
    refine HCC.out.mono ?_
    rintro e w3 ⟨v, rfl, hown, hb3⟩
    have HB3 := Lib.hid (below_next HB2.out hb3)
    obtain ⟨A, c, rfl, h1, h2, _, h3, _⟩ := own_form hown (by omega)
    have H3 := Lib.hid h3
    clear hown hb3 h3
    go_wp2_with fail
    go_ret2
    exact ⟨A, c, rfl, h1, h2, H3.out, HB3.out⟩
  · rw [if_neg hz]
    obtain ⟨z, hzz⟩ : ∃ z, z = chk j [s] := ⟨_, rfl⟩
    rw [← hzz] at hz HC ⊢
    have hzb : (z == 0) = false := ne_b hz
    clear hzz hlim hfit hlen hr hb0 hR1 hS1
    go_enter Try.func10, Try.ntmps10
    go_wp2_with fail
    refine (HC.out _ _ 1 HR1.out HS1.out).mono ?_
    rintro e w1 ⟨rfl, hb1⟩
    have HB1 := Lib.hid (below_next HB0.out hb1)
    clear hb1
    have hz' := nb hz
    go_wp2_with fail
    go_ret2
    exact ⟨none, 0, rfl, Nat.le_refl _, by simp [maxLen], Row.nil, HB1.out⟩
end Mo
end Go.Proofs.Ytipmphkmeiogoaa
/- Merge, of package pane. -/
namespace Go.Proofs.Ytipmphkmeiogoaa
open Go.RowKit
open Pan
set_option linter.unusedVariables false
set_option maxRecDepth 8000
/-- Hands back a row of panes and an error; what was stays. -/
def GivesPE (r : List Pn × Int) (w : World) (e : Ending) (w' : World) : Prop :=
  ∃ A c, e = .returned (.tuple #[.slice A r.1.length c, .int .i64 r.2]) ∧ r.1.length ≤ c ∧ c ≤ maxLen ∧ Row w' A (pc r.1) ∧ Below w.heap.size w w'
theorem paMerge_arg (k : Int) (xs ys : List Pn) (A A2 : Option Addr) (c c2 : Nat) (w : World) (hA : Row w A (pc xs)) (hA2 : Row w A2 (pc ys)) (hl : xs.length ≤ 9223372036854775807) (hl2 : ys.length ≤ 9223372036854775807)
    (hr : (right xs && right ys && Acm.isK k) = false) : Calls Try.prog 50 #[.int .i64 k, .slice A xs.length c, .slice A2 ys.length c2] w (GivesPE ([], 1) w) := by
  have HR1 := Lib.hid (paRight xs A c w hA hl)
  have HR2 := Lib.hid (fun w' (hb : Below w.heap.size w w') => paRight ys A2 c2 w' (hA2.below hb) hl2)
  have HK := Lib.hid (foldRight k)
  obtain ⟨b1, h1⟩ : ∃ b, b = right xs := ⟨_, rfl⟩
  obtain ⟨b2, h2⟩ : ∃ b, b = right ys := ⟨_, rfl⟩
  obtain ⟨b3, h3⟩ : ∃ b, b = Acm.isK k := ⟨_, rfl⟩
  rw [← h1] at hr HR1
  rw [← h2] at hr HR2
  rw [← h3] at hr HK
  clear h1 h2 h3 hA hA2
  cases b1
  · clear hr
    go_enter Try.func50, Try.ntmps50
    go_wp2_with fail
    refine HR1.out.mono ?_
    rintro e w1 ⟨rfl, hb1⟩
    have HB1 := Lib.hid hb1
    clear hb1
    go_wp2_with fail
    go_ret2
    exact ⟨none, 0, rfl, Nat.le_refl _, by simp [maxLen], Row.nil, HB1.out⟩
  · cases b2
    · clear hr
      go_enter Try.func50, Try.ntmps50
      go_wp2_with fail
      refine HR1.out.mono ?_
      rintro e w1 ⟨rfl, hb1⟩
      have HB1 := Lib.hid hb1
      clear hb1
      go_wp2_with fail
      refine (HR2.out _ HB1.out).mono ?_
      rintro e w2 ⟨rfl, hb2⟩
      have HB2 := Lib.hid (below_next HB1.out hb2)
      clear hb2
      go_wp2_with fail
      go_ret2
      exact ⟨none, 0, rfl, Nat.le_refl _, by simp [maxLen], Row.nil, HB2.out⟩
    · cases b3
      · clear hr
        go_enter Try.func50, Try.ntmps50
        go_wp2_with fail
        refine HR1.out.mono ?_
        rintro e w1 ⟨rfl, hb1⟩
        have HB1 := Lib.hid hb1
        clear hb1
        go_wp2_with fail
        refine (HR2.out _ HB1.out).mono ?_
        rintro e w2 ⟨rfl, hb2⟩
        have HB2 := Lib.hid (below_next HB1.out hb2)
        clear hb2
        go_wp2_with fail
        refine (HK.out _).mono ?_
        rintro e w3 ⟨rfl, rfl⟩
        go_wp2_with fail
        go_ret2
        exact ⟨none, 0, rfl, Nat.le_refl _, by simp [maxLen], Row.nil, HB2.out⟩
      · exact absurd hr (by decide)
theorem hYM_n {y : Pn} (h : may y = true) : 1 ≤ y.acc.n := (of_decide_eq_true h).2.2.2.2.2
theorem hit_true {l : List Pn} {F : Pn → Int} {p : Nat} (h : Pan.hit l F p = true) : ∃ a, l[p]? = some a ∧ F a = 0 := by
  unfold Pan.hit at h
  split at h
  · rename_i a ha; exact ⟨a, ha, of_decide_eq_true h⟩
  · cases h
/-- Where the loop stands. -/
structure MAt (k : Int) (xs ys : List Pn) (w : World) (j d : Nat) (ms : List Pn) (v : Value) (wr : World) : Prop where
  hj : j ≤ ys.length
  hd : d ≤ xs.length
  eq : ms ++ xs.drop d = mrg k xs (ys.take j)
  ah : ∀ m ∈ ms, ∀ x ∈ ys.drop j, Pan.ahead m.p x.p = true
  nb : bad k xs (ys.take j) = false
  bt : Built w wr v ms
theorem MAt.miss {k : Int} {xs ys : List Pn} {w wr w' : World} {j d p : Nat} {ms : List Pn} {v v' : Value} {y : Pn} (h : MAt k xs ys w j d ms v wr) (hy : ys[j]? = some y) (ho : Pan.Ord ys) (hc : Cut (xs.drop d) (fun a => ordN a.p y.p) p)
    (hi : ins k y (xs.drop d) = (xs.drop d).take p ++ (y :: (xs.drop d).drop p)) (hn : hitK k y (xs.drop d) = false) (hb : Built w w' v' (ms ++ (xs.drop d).take p ++ [y])) (hl : d + p ≤ xs.length) :
    MAt k xs ys w (j + 1) (d + p) (ms ++ (xs.drop d).take p ++ [y]) v' w' := by
  have hlt := (List.getElem?_eq_some_iff.1 hy).1
  have hah : ∀ m ∈ ms, Pan.ahead m.p y.p = true := fun m hm => h.ah m hm y (by rw [drop_head hy]; simp)
  refine ⟨by omega, hl, ?_, ?_, ?_, hb⟩
  · rw [mrg_next hy, ← h.eq, ins_pre hah, hi, List.drop_drop]
    simp
  · intro m hm x hx
    obtain ⟨i, hi2, hg⟩ := mem_drop_get hx
    have hyx := ord_get ho hy hg (by omega)
    rcases List.mem_append.1 hm with hm | hm
    · rcases List.mem_append.1 hm with hm | hm
      · exact h.ah m hm x (by rw [drop_head hy]; exact List.mem_cons_of_mem _ hx)
      · exact ahead_trans (cut_ahead hc m hm) hyx
    · simp at hm; subst hm; exact hyx
  · rw [bad_next hy, h.nb, ← h.eq, hitK_pre hah, hn]; rfl
theorem MAt.hit {k : Int} {xs ys : List Pn} {w wr w' : World} {j d p : Nat} {ms : List Pn} {v v' : Value} {y a : Pn} {z : Acm.Ac} (h : MAt k xs ys w j d ms v wr) (hy : ys[j]? = some y) (ho : Pan.Ord ys) (hc : Cut (xs.drop d) (fun a => ordN a.p y.p) p)
    (hi : ins k y (xs.drop d) = (xs.drop d).take p ++ (⟨a.p, z⟩ :: (xs.drop d).drop (p + 1))) (hn : hitK k y (xs.drop d) = false) (he : a.p = y.p) (hb : Built w w' v' (ms ++ (xs.drop d).take p ++ [⟨y.p, z⟩])) (hl : d + (p + 1) ≤ xs.length) :
    MAt k xs ys w (j + 1) (d + (p + 1)) (ms ++ (xs.drop d).take p ++ [⟨y.p, z⟩]) v' w' := by
  have hlt := (List.getElem?_eq_some_iff.1 hy).1
  have hah : ∀ m ∈ ms, Pan.ahead m.p y.p = true := fun m hm => h.ah m hm y (by rw [drop_head hy]; simp)
  refine ⟨by omega, hl, ?_, ?_, ?_, hb⟩
  · rw [mrg_next hy, ← h.eq, ins_pre hah, hi, he, List.drop_drop]
    simp
  · intro m hm x hx
    obtain ⟨i, hi2, hg⟩ := mem_drop_get hx
    have hyx := ord_get ho hy hg (by omega)
    rcases List.mem_append.1 hm with hm | hm
    · rcases List.mem_append.1 hm with hm | hm
      · exact h.ah m hm x (by rw [drop_head hy]; exact List.mem_cons_of_mem _ hx)
      · exact ahead_trans (cut_ahead hc m hm) hyx
    · simp at hm; subst hm; exact hyx
  · rw [bad_next hy, h.nb, ← h.eq, hitK_pre hah, hn]; rfl
theorem MAt.full {k : Int} {xs ys : List Pn} {w wr : World} {j d : Nat} {ms : List Pn} {v : Value} {y : Pn} (h : MAt k xs ys w j d ms v wr) (hy : ys[j]? = some y) (hn : hitK k y (xs.drop d) = true) : bad k xs ys = true := by
  have hah : ∀ m ∈ ms, Pan.ahead m.p y.p = true := fun m hm => h.ah m hm y (by rw [drop_head hy]; simp)
  refine bad_of_take (j := j + 1) ?_
  rw [bad_next hy, ← h.eq, hitK_pre hah, hn, Bool.or_true]
def MC (bx : Nat) (y : Pn) (b2 o2 : Nat) (a : Pn) (w0 : World) (v : Value) (ms : List Pn) (w : World) : Prop := Lies bx (paC y) 82 w ∧ PnAt w b2 o2 a ∧ Built w0 w v ms
def MRel (k : Int) (xs ys : List Pn) (w : World) (s i v : Value) (wr : World) : Prop :=
  ∃ (j d : Nat) (ms : List Pn) (A : Option Addr) (c : Nat), i = .int .i64 j ∧ s = .slice A (xs.length - d) c ∧ xs.length - d ≤ c ∧ c ≤ 9223372036854775807 ∧ Row w A (pc (xs.drop d)) ∧ MAt k xs ys w j d ms v wr
set_option maxRecDepth 100000 in
set_option maxHeartbeats 4000000 in
theorem paMerge_ok (k : Int) (xs ys : List Pn) (A A2 : Option Addr) (c c2 : Nat) (w : World) (hA : Row w A (pc xs)) (hA2 : Row w A2 (pc ys)) (hl : xs.length ≤ c) (hc : c ≤ 9223372036854775807)
    (hr1 : right xs = true) (hr2 : right ys = true) (hk : Acm.isK k = true) : Calls Try.prog 50 #[.int .i64 k, .slice A xs.length c, .slice A2 ys.length c2] w (GivesPE (mOut k xs ys) w) := by
  obtain ⟨hx20, hxm, hxo⟩ := (right_iff xs).1 hr1
  obtain ⟨hy20, hym, hyo⟩ := (right_iff ys).1 hr2
  have HR1 := Lib.hid (paRight xs A c w hA (by omega))
  have HR2 := Lib.hid (fun w' (hb : Below w.heap.size w w') => paRight ys A2 c2 w' (hA2.below hb) (by omega))
  have HK := Lib.hid (foldRight k)
  have HO : Hid (mOut k xs ys = if bad k xs ys || decide (2000 < (mrg k xs ys).length) then ([], 3) else (mrg k xs ys, 0)) := Lib.hid (by unfold mOut; rw [hr1, hr2, hk]; rfl)
  rw [hr1] at HR1
  rw [hr2] at HR2
  rw [hk] at HK
  have HA := Lib.hid hA; have HA2 := Lib.hid hA2; have HXO := Lib.hid hxo; have HYO := Lib.hid hyo; have HYM := Lib.hid hym
  obtain ⟨i0, hi0, hz0, hz1, hz2⟩ := info_parts paInfo
  have HI0 := Lib.hid hi0; have HZ0 := Lib.hid hz0; have HZ1 := Lib.hid hz1; have HZ2 := Lib.hid hz2
  clear hA hA2 hxm hxo hym hyo hr1 hr2 hk hi0 hz0 hz1 hz2
  go_enter Try.func50, Try.ntmps50
  go_wp2_with fail
  refine HR1.out.mono ?_
  rintro e w1 ⟨rfl, hb1⟩
  have HB1 := Lib.hid hb1
  clear hb1
  go_wp2_with fail
  refine (HR2.out _ HB1.out).mono ?_
  rintro e w2 ⟨rfl, hb2⟩
  have HB2 := Lib.hid (below_next HB1.out hb2)
  clear hb2
  go_wp2_with fail
  refine (HK.out _).mono ?_
  rintro e w3 ⟨rfl, rfl⟩
  have e1 : IntKind.i64.wrap ((xs.length : Int) + ys.length) = (xs.length : Int) + ys.length := wrap64_in (by omega) (by omega)
  go_wp2_with (at_make; refine hold_mk ?_)
  refine hold_out ?_
  refine wpList_make_own _ rfl _ _ 65 rfl w.heap.size 82 i0 _ 6 Try.underlying65 HI0.out HZ0.out HZ1.out _ _ _ (xs.length + ys.length) rfl rfl (by omega) (by rw [HZ2.out]; omega) (by unfold maxLen; omega) HB2.out.size ?_
  intro w4 hown hg
  have HT : Hid (Built w w4 (.slice (some ⟨w2.heap.size, 0, none⟩) 0 (xs.length + ys.length)) []) := Lib.hid ⟨hown, HB2.out.grown hg HB2.out.size fun q hq => by cases hq⟩
  clear hown hg
  go_wp2_with fail
  go_loopw [1, 34, 8] (fun s i v wr => MRel k xs ys w s i v wr) (fun s i _ _ => ys.length - (intOf i).toNat)
  case atStart =>
    exact ⟨0, 0, [], A, c, rfl, rfl, by omega, hc, by rw [List.drop_zero]; exact HA.out, Nat.zero_le _, Nat.zero_le _, by simp [mrg], fun m hm => by simp at hm, by simp [bad], HT.out⟩
  case round =>
    obtain ⟨j, d, ms, A', c', rfl, rfl, hlc, hcc, hrow, hM⟩ := hrel
    have HM := Lib.hid hM
    have HROW := Lib.hid hrow
    have g1 := hM.hj
    have g2 := hM.hd
    have hms : ms.length + (xs.length - d) ≤ 4000 := by
      have h1 := congrArg List.length hM.eq
      have h2 := (mrg_len k (ys.take j) xs).2
      rw [List.length_append, List.length_drop] at h1
      rw [List.length_take] at h2
      omega
    clear hM hrow
    by_cases hlt : j < ys.length
    · obtain ⟨y, hy⟩ : ∃ y, ys[j]? = some y := ⟨_, List.getElem?_eq_getElem hlt⟩
      obtain ⟨b, off, rfl, c0, c1, c2, c3, c4, c5⟩ := (HA2.out.below HM.out.bt.below).pn hy
      have HY := Lib.hid hy
      obtain ⟨p, hp⟩ := cut_ex (ord_drop HXO.out d) y.p
      have HP := Lib.hid hp
      have hple := hp.le
      rw [List.length_drop] at hple
      have HF := Lib.hid (fun w' (hb : Below w.heap.size w w') => paFindP (xs.drop d) A' c' y p w' (HROW.out.below hb) (by rw [List.length_drop]; omega) hp)
      rw [List.length_drop] at HF
      obtain ⟨h, hh⟩ : ∃ h, h = Pan.hit (xs.drop d) (fun a => ordN a.p y.p) p := ⟨_, rfl⟩
      rw [← hh] at HF
      have HH := Lib.hid hh
      have HTK := Lib.hid ((HROW.out.takeP p))
      have HDR := Lib.hid ((HROW.out.dropP p))
      obtain ⟨n, hn⟩ : ∃ n, n = xs.length - d := ⟨_, rfl⟩
      rw [← hn] at hple HF hlc hms ⊢
      have HN := Lib.hid hn
      have g3 : (0 : Int) ≤ p := by omega
      have g4 : (p : Int) ≤ c' := by omega
      have g5 : (p : Int) ≤ n := by omega
      have HLB := Lib.hid (Lies.new wr (paC y) 82)
      have HBT := Lib.hid (HM.out.bt.up (below_al (o := .cells (paC y) 82) (Below.refl _ _)))
      have HFAR : Hid (∀ q, u8.ownBlock = some q → q < wr.heap.size) := Lib.hid fun q hq => (HM.out.bt.far hq).2
      have HN1 := Lib.hid (hYM_n (HYM.out y (List.mem_of_getElem? hy)))
      have HLT := Lib.hid (show ((xs.drop d).take p).length = p from by rw [List.length_take, List.length_drop]; omega)
      clear hy hp hh hn
      go_wp2_with fail
      refine (HF.out _ HBT.out.below).mono ?_
      rintro e w5 ⟨rfl, hb5⟩
      have HLB5 := Lib.hid (HLB.out.below hb5)
      have HBT5 := Lib.hid (HBT.out.up hb5)
      have hsz5 := hb5.size
      rw [World.size_alloc] at hsz5
      clear hb5
      go_wp2_with (at_builtin; refine hold_mk ?_)
      refine hold_out ?_
      refine wpPush rfl _ _ rfl _ ms rfl HBT5.out A' p c' ((xs.drop d).take p) rfl (HTK.out.below HBT5.out.below) HLT.out.symm (by rw [HLT.out]; omega) ?_
      intro v6 w6 bt6 hg6 hat6
      have hne : u8.ownBlock ≠ some wr.heap.size := fun e => by have := HFAR.out _ e; omega
      have HLB6 := Lib.hid (lies_grown HLB5.out hg6 hne)
      have HBT6 := Lib.hid bt6
      have HFAR6 : Hid (v6.ownBlock ≠ some wr.heap.size) := Lib.hid (by
        rcases hat6 with h | h
        · rw [h]; exact hne
        · rw [h]; intro e; have := Option.some.inj e; omega)
      have hsz6 := hg6.size
      clear bt6 hg6 hat6 hne
      cases h
      · -- its like is not there
        have HMISS := Lib.hid (ins_miss (k := k) HP.out HH.out.symm)
        have HNB := Lib.hid (hitK_miss (k := k) (ord_drop HXO.out d) HP.out HH.out.symm)
        have hn1 := HN1.out
        have l3 := HLB6.out.cell (j := 3) rfl
        have l0 := HLB6.out.cell (j := 0) rfl; have l1 := HLB6.out.cell (j := 1) rfl; have l2 := HLB6.out.cell (j := 2) rfl; have l4 := HLB6.out.cell (j := 4) rfl; have l5 := HLB6.out.cell (j := 5) rfl
        have hd1 : decide (y.acc.n < 1) = false := decide_eq_false (by omega)
        by_cases hcp : c' = p
        all_goals
          go_wp2_with (at_builtin; refine hold_mk ?_)
          refine hold_out ?_
          refine wpPush rfl _ _ rfl v6 _ rfl (HBT6.out.up (below_al (o := .cells (paC y) 82) (Below.refl _ _))) _ 1 1 [y] rfl (one_row _ y) rfl (by rw [List.length_append, HLT.out]; simp; omega) ?_
          intro v7 w7 bt7 _ _
          have HBT7 := Lib.hid bt7
          clear bt7
          go_wp2_with fail
          go_roundw
          case rel =>
            refine ⟨j + 1, d + p, ms ++ (xs.drop d).take p ++ [y], _, _, by go_num, by rw [show xs.length - (d + p) = n - p by have := HN.out; omega], by rw [show xs.length - (d + p) = n - p by have := HN.out; omega]; omega, by omega, ?_, ?_⟩
            · rw [← List.drop_drop]
              first
                | exact HDR.out
                | (have hnil : (xs.drop d).drop p = [] := List.drop_eq_nil_of_le (by rw [List.length_drop]; have := HN.out; omega)
                   rw [hnil]; exact Row.nil)
            · exact HM.out.miss HY.out HYO.out HP.out HMISS.out HNB.out HBT7.out (by have := HN.out; omega)
          case measure => simp [intOf]; omega
      · -- it is
        obtain ⟨a, ha, hae⟩ := hit_true HH.out.symm
        have hae := (ordN_eq _ _).1 hae
        have HHIT := Lib.hid (ins_hit (k := k) HP.out ha hae)
        have HNB := Lib.hid (hitK_hit (k := k) (ord_drop HXO.out d) HP.out ha hae)
        obtain ⟨b2, off2, rfl, hX⟩ := HROW.out.pn ha
        have hpn : p < n := by have := (List.getElem?_eq_some_iff.1 ha).1; rw [List.length_drop] at this; have := HN.out; omega
        have hcp : ¬ c' = p := by omega
        obtain ⟨r, hr⟩ : ∃ r, n - p = r + 1 := ⟨n - p - 1, by omega⟩
        obtain ⟨q, hq⟩ : ∃ q, c' - p = q + 1 := ⟨c' - p - 1, by omega⟩
        have HJ := Lib.hid (fun w => foldJoin k a.acc y.acc w)
        obtain ⟨z, hz⟩ : ∃ z, z = Acm.join k a.acc y.acc := ⟨_, rfl⟩
        rw [← hz] at HJ HHIT HNB
        have W2 := Lib.hid (show MC wr.heap.size y b2 (off2 + p * 6) a w v6 (ms ++ (xs.drop d).take p) w6.drew from ⟨HLB6.out.drew, (hX.below HBT6.out.below).drew, HBT6.out.drew⟩)
        have HHA := Lib.hid ha
        have HHE := Lib.hid hae
        clear ha hae hX hz
        go_wp2_with fail
        refine wide_tail 9 (MC wr.heap.size y b2 (off2 + p * 6) a w v6 (ms ++ (xs.drop d).take p)) (by kernel_rfl) (by kernel_rfl) W2.out ?_
        simp only [List.take_succ_cons, List.take_zero, List.drop_succ_cons, List.drop_zero]
        repeat (first
          | go_big_quiet_skip
          | (go_big_quiet_want
             apply wide_op
             · (intro w5 h5; obtain ⟨hL5,⟨d0,d1,d2,d3,d4,d5⟩,hB5⟩ := id h5; have l3 := hL5.cell (j := 3) rfl; have l4 := hL5.cell (j := 4) rfl; have l5 := hL5.cell (j := 5) rfl; go_simp; first | done | with_reducible rfl | ((refine (HJ.out _).mono ?_; rintro e w6 ⟨rfl, hb6⟩; exact ⟨rfl, h5.1.below hb6, h5.2.1.below hb6, h5.2.2.up hb6⟩)))
             (try simp only [Act.put, List.setIfInBounds_toArray, List.set_cons_zero, List.set_cons_succ])
             go_big_quiet_on))
        refine wpQuiet_nil ?_
        intro w7 h7
        have HLB7 := Lib.hid h7.1
        have HBT7 := Lib.hid h7.2.2
        have hsz7 := h7.2.2.below.size
        have l0 := h7.1.cell (j := 0) rfl; have l1 := h7.1.cell (j := 1) rfl; have l2 := h7.1.cell (j := 2) rfl
        have l3 := h7.1.cell (j := 3) rfl; have l4 := h7.1.cell (j := 4) rfl; have l5 := h7.1.cell (j := 5) rfl
        have f3 := h7.1.free 3; have f4 := h7.1.free 4; have f5 := h7.1.free 5
        clear h7
        have hw0 : w.heap.size ≤ wr.heap.size := HM.out.bt.below.size
        have HDR2 := HROW.out.dropP (p + 1)
        rw [Option.map_some, Go.WideShapes.add_plain, List.drop_drop, show off2 + (p + 1) * 6 = off2 + p * 6 + 6 by omega] at HDR2
        have HDR2 := Lib.hid HDR2
        by_cases hz1 : z.n < 1
        · have HFULL : Hid (mOut k xs ys = ([], 3)) := Lib.hid (by rw [HO.out, HM.out.full HY.out (by rw [HNB.out]; exact decide_eq_true hz1)]; rfl)
          by_cases hc1 : q = 0
          all_goals
            go_wp2_with fail
            go_ret2
            rw [HFULL.out]
            exact ⟨none, 0, rfl, Nat.le_refl _, by simp [maxLen], Row.nil, (((HBT7.out.set (o := 3) HFAR6.out hw0 _).set (o := 4) HFAR6.out hw0 _).set (o := 5) HFAR6.out hw0 _).below⟩
        · have hd1 : decide (z.n < 1) = false := decide_eq_false hz1
          have HNB2 : Hid (hitK k y (xs.drop d) = false) := Lib.hid (HNB.out.trans hd1)
          by_cases hc1 : q = 0
          all_goals
            go_wp2_with (at_builtin; refine hold_mk ?_)
            refine hold_out ?_
            refine wpPush rfl _ _ rfl v6 _ rfl ((((HBT7.out.set (o := 3) HFAR6.out hw0 _).set (o := 4) HFAR6.out hw0 _).set (o := 5) HFAR6.out hw0 _).up (below_al (o := .cells (paC ⟨y.p, z⟩) 82) (Below.refl _ _))) _ 1 1 [⟨y.p, z⟩] rfl (by have h := one_row (((w7.setCell ⟨wr.heap.size, 3, none⟩ (.int .i64 z.n)).setCell ⟨wr.heap.size, 4, none⟩ (.int .i64 z.a)).setCell ⟨wr.heap.size, 5, none⟩ (.int .i64 z.b)) ⟨y.p, z⟩; simp only [World.size_setCell] at h; exact h) rfl (by rw [List.length_append, HLT.out]; simp; omega) ?_
            intro v8 w8 bt8 _ _
            have HBT8 := Lib.hid bt8
            clear bt8
            go_wp2_with fail
            go_roundw
            case rel =>
              have h1 : xs.length - (d + (p + 1)) = r := by have := HN.out; omega
              refine ⟨j + 1, d + (p + 1), ms ++ (xs.drop d).take p ++ [⟨y.p, z⟩], _, _, by go_num, by rw [h1], by rw [h1]; omega, by omega, ?_, ?_⟩
              · first
                  | exact HDR2.out
                  | (have hnil : xs.drop (d + (p + 1)) = [] := List.drop_eq_nil_of_le (by have := HN.out; omega)
                     rw [hnil]; exact Row.nil)
              · exact HM.out.hit HY.out HYO.out HP.out HHIT.out HNB2.out HHE.out HBT8.out (by have := HN.out; omega)
            case measure => simp [intOf]; omega
    · have hj : j = ys.length := by omega
      have HEQ := Lib.hid (show ms ++ xs.drop d = mrg k xs ys from by rw [HM.out.eq, hj, List.take_length])
      have HBAD := Lib.hid (show bad k xs ys = false from by have := HM.out.nb; rwa [hj, List.take_length] at this)
      have hbt := HM.out.bt
      have HB := Lib.hid hbt.below
      go_wp2_with (at_builtin; refine hold_mk ?_)
      refine hold_out ?_
      refine wpPush rfl _ _ rfl _ ms rfl HM.out.bt A' (xs.length - d) c' (xs.drop d) rfl (HROW.out.below HB.out) (by rw [List.length_drop]) (by rw [List.length_drop]; omega) ?_
      intro v6 w6 bt6 _ _
      rw [HEQ.out] at bt6
      obtain ⟨A5, c5, rfl, q1, q2, _, q3, _⟩ := own_form bt6.own (by omega)
      have HB6 := Lib.hid bt6.below
      have Q3 := Lib.hid q3
      clear bt6 q3 hbt
      by_cases hm : 2000 < (mrg k xs ys).length
      · have HFULL : Hid (mOut k xs ys = ([], 3)) := Lib.hid (by rw [HO.out, decide_eq_true hm, Bool.or_true]; rfl)
        have hm2 : (2000 : Int) < ((mrg k xs ys).length : Int) := by omega
        go_wp2_with fail
        go_ret2
        rw [HFULL.out]
        exact ⟨none, 0, rfl, Nat.le_refl _, by simp [maxLen], Row.nil, HB6.out⟩
      · have HOK : Hid (mOut k xs ys = (mrg k xs ys, 0)) := Lib.hid (by rw [HO.out, HBAD.out, decide_eq_false hm]; rfl)
        have hm2 : decide ((2000 : Int) < ((mrg k xs ys).length : Int)) = false := decide_eq_false (by omega)
        go_wp2_with fail
        go_ret2
        rw [HOK.out]
        exact ⟨A5, c5, rfl, q1, q2, Q3.out, HB6.out⟩
end Go.Proofs.Ytipmphkmeiogoaa
