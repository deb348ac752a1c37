/- ModKept, ModColl, put together. -/
import Derived.Test.YtipmphkmeiogoaaZ21
import Derived.Test.YtipmphkmeiogoaaZ22
import Derived.Test.YtipmphkmeiogoaaZ16
import Derived.Test.YtipmphkmeiogoaaZ5
import Derived.Lib.MinMax
import Derived.OwnWalkIn
import Derived.TacticsInMore
import Derived.LoopNIn
import Derived.LoopIn
import Derived.Test.YtipmphkmeiogoaaZ17
import Derived.Maps.OwnIn
/- What is kept of a source: the check, a mark's step, the iterator. -/
namespace Go.Proofs.Ytipmphkmeiogoaa
open Go.RowKit Go.Shelf Tick
set_option linter.unusedVariables false
set_option maxRecDepth 8000
attribute [local go_sem] Oper.semAt_some
namespace Mo
open Gen (TellsI TellsB)
open Jo (Jb Ev Sr evIs srcOk insOk jbC jbV srV evL Srs)
abbrev evC (e : Ev) : Array Value := #[.string e.key, .int .i64 e.at_, .int .i64 e.val]
abbrev evV (e : Ev) : Value := .agg (evC e)
/-- What is wrong with a job or with inputs. -/
def chkB : Bool → Bool → Int
  | false, _ => 130
  | true, false => 1
  | true, true => 0
def chk (j : Jb) (l : List Sr) : Int := chkB (Jo.right j) (insOk l)
set_option maxHeartbeats 600000 in
theorem mdCheck (j : Jb) (l : List Sr) (A : Option Addr) (c : Nat) (w : World) (h : Row w A (l.flatMap fun s => [srV s])) (hi : Srs w l) :
    Calls Try.prog 21 #[jbV j, .slice A l.length c] w (TellsI (chk j l) w) := by
  have HK := Lib.hid (fun w => Jo.jRight j w)
  have HJ := Lib.hid (fun w h hi => Jo.jInputs l A c w h hi)
  have HR := Lib.hid h
  have HI := Lib.hid hi
  unfold chk
  obtain ⟨r, hr⟩ : ∃ r, r = Jo.right j := ⟨_, rfl⟩
  obtain ⟨q, hq⟩ : ∃ q, q = insOk l := ⟨_, rfl⟩
  rw [← hr] at HK ⊢
  rw [← hq] at HJ ⊢
  clear h hi hr hq
  cases r
  · go_enter Try.func21, Try.ntmps21
    go_wp2_with fail
    refine (HK.out _).mono ?_
    rintro e w1 ⟨rfl, hb1⟩
    have HB := Lib.hid (below_next (below_al (o := .cells (jbC j) 23) (Below.refl w.heap.size w)) hb1)
    clear hb1
    go_wp2_with fail
    go_ret
    exact ⟨rfl, HB.out⟩
  · go_enter Try.func21, Try.ntmps21
    go_wp2_with fail
    refine (HK.out _).mono ?_
    rintro e w1 ⟨rfl, hb1⟩
    have HB := Lib.hid (below_next (below_al (o := .cells (jbC j) 23) (Below.refl w.heap.size w)) hb1)
    clear hb1
    go_wp2_with fail
    refine (HJ.out _ (HR.out.below HB.out) (HI.out.below HB.out)).mono ?_
    rintro e w2 ⟨rfl, hb2⟩
    have HB2 := Lib.hid (below_next HB.out hb2)
    clear hb2
    cases q
    all_goals
      go_wp2_with fail
      go_ret
      exact ⟨rfl, HB2.out⟩
set_option maxHeartbeats 600000 in
theorem mdMarkAfter (j : Jb) (m : Int) (e : Ev) (w : World) : Calls Try.prog 26 #[jbV j, .int .i64 m, evV e] w (TellsI (mk j m e) w) := by
  have HS := Lib.hid (fun w => tickSub e.at_ j.delay w)
  unfold mk
  obtain ⟨t, ht⟩ : ∃ t, t = subT e.at_ j.delay := ⟨_, rfl⟩
  rw [← ht] at HS ⊢
  clear ht
  rcases Int.le_total m t with h | h
  all_goals
    have HMX := Lib.hid h
    clear h
    go_enter Try.func26, Try.ntmps26
    go_wp2_with fail
    refine (HS.out _).mono ?_
    rintro e1 w1 ⟨rfl, rfl⟩
    go_wp2_with fail
    go_ret
    exact ⟨rfl, below_al (below_al (Below.refl _ _))⟩
/-- The iterator's value, over its two boxes. -/
def keptF (jb lb : Nat) : Value := .func (.func 41) #[] #[.pointer (some ⟨lb, 0, none⟩), .pointer (some ⟨jb, 0, none⟩)]
set_option maxHeartbeats 400000 in
theorem mdKept (j : Jb) (s : Sr) (w : World) : Calls Try.prog 23 #[jbV j, srV s] w fun e w' => e = .returned (keptF w.heap.size (w.heap.size + 1)) ∧ w' = (w.alloc (.cells (jbC j) 23)).alloc (.cells #[srV s] 24) := by
  have hmf : ∀ (fn : Fn) (first cap : Array Value) (w : World), (Instr.makeFunc fn first cap).run Try.prog w = .ok (.func fn first cap) w := fun _ _ _ _ => rfl
  go_enter Try.func23, Try.ntmps23
  go_wp2_with fail
  go_ret
  exact ⟨rfl, rfl⟩
/-- A row that lies below B. -/
def RowB (B : Nat) (W : World) (A : Option Addr) (cs : List Value) : Prop := Row W A cs ∧ (cs = [] ∨ ∃ a, A = some a ∧ a.block < B)
theorem rowB_of {W : World} {A : Option Addr} {cs : List Value} (h : Row W A cs) {B : Nat} (hB : W.heap.size ≤ B) : RowB B W A cs := by
  refine ⟨h, ?_⟩
  rcases h with h | ⟨b, off, rfl, h⟩
  · exact .inl h
  · cases cs with
    | nil => exact .inl rfl
    | cons v r => exact .inr ⟨_, rfl, by have := lt_of_cell (h 0 v rfl); simp only at this ⊢; omega⟩
theorem RowB.same {B : Nat} {W W' : World} {A : Option Addr} {cs : List Value} (h : RowB B W A cs) (hb : ∀ k, k < B → W'.heap[k]? = W.heap[k]?) : RowB B W' A cs := by
  refine ⟨?_, h.2⟩
  rcases h.2 with e | ⟨a, rfl, ha⟩
  · exact .inl e
  · rcases h.1 with e | ⟨b, off, e, hc⟩
    · exact .inl e
    · cases e
      refine .inr ⟨b, off, rfl, fun i u hu => ?_⟩
      have := hc i u hu
      unfold World.cell? at this ⊢
      rw [hb b ha]
      exact this
/-- What the iterator of a source needs. -/
def needs (B jb lb : Nat) : Nat → Prop := fun k => k < B ∨ k = jb ∨ k = lb
structure KeptAt (B jb lb : Nat) (j : Jb) (s : Sr) (W : World) : Prop where
  job : Lies jb (jbC j) 23 W
  src : Lies lb #[srV s] 24 W
  row : RowB B W s.A (s.l.flatMap evL)
theorem KeptAt.same {B jb lb : Nat} {j : Jb} {s : Sr} {W W' : World} (h : KeptAt B jb lb j s W) (hb : ∀ k, needs B jb lb k → W'.heap[k]? = W.heap[k]?) : KeptAt B jb lb j s W' :=
  ⟨(hb jb (.inr (.inl rfl))).trans h.job, (hb lb (.inr (.inr rfl))).trans h.src, h.row.same fun k hk => hb k (.inl hk)⟩
theorem wrapM {k : Nat} (h : k ≤ 100000) : IntKind.i64.wrap ((k : Int) + 1) = ((k + 1 : Nat) : Int) := by
  simp [IntKind.wrap, IntKind.bits, IntKind.signed]; omega
theorem split_at {α : Type} {l : List α} {k : Nat} {x : α} (h : l[k]? = some x) : l = l.take k ++ x :: l.drop (k + 1) := by
  obtain ⟨hk, rfl⟩ := List.getElem?_eq_some_iff.1 h
  rw [← List.drop_eq_getElem_cons hk, List.take_append_drop]
theorem take_push {α : Type} {l : List α} {k : Nat} {x : α} (h : l[k]? = some x) : l.take (k + 1) = l.take k ++ [x] := by rw [List.take_add_one, h]; rfl
theorem kept_split {j : Jb} {l : List Ev} {k : Nat} {x : Ev} (h : l[k]? = some x) (hx : ¬ x.at_ < markOf j 0 (l.take k)) : kept j 0 l = kept j 0 (l.take k) ++ left j x :: kept j (mk j (markOf j 0 (l.take k)) x) (l.drop (k + 1)) := by
  conv => lhs; rw [split_at h, kept_append]
  show _ ++ (if x.at_ < markOf j 0 (l.take k) then _ else _) = _
  rw [if_neg hx]
set_option maxRecDepth 100000 in
set_option maxHeartbeats 1000000 in
theorem kept_feeds (F : Fence) (hF : Over.Wide F) (n : Nat) (hn : 1 ≤ n) (j : Jb) (hlim : Lp.inI j.limit) (s : Sr) (hfit : ∀ e ∈ s.l, fit e) (hlen : s.l.length ≤ 1000) (B jb lb : Nat) (w : World) (hAt : KeptAt B jb lb j s w) (hB : B ≤ w.heap.size) :
    OverG.Feeds F n Try.prog 41 #[.pointer (some ⟨lb, 0, none⟩), .pointer (some ⟨jb, 0, none⟩)] (fun x _ _ vs => vs = #[evV x]) (needs B jb lb) (kept j 0 s.l) w := by
  intro l J Jx M W hsz hK hJ hJx hM hY h0
  have hfn := hF.fn 41
  have hma := hF.fn 26
  have hru := hF.fn 42
  have hro : F.round = none := hF.ro
  have hAt1 : KeptAt B jb lb j s W := hAt.same fun k hk => (hK k hk).2
  have hKlt : ∀ k, needs B jb lb k → k < W.heap.size := fun k hk => Nat.lt_of_lt_of_le (hK k hk).1 hsz
  have HAT := Lib.hid hAt1
  have HLT := Lib.hid hKlt
  have HY := Lib.hid hY
  have HJ := Lib.hid hJ
  have HJx := Lib.hid hJx
  have HM := Lib.hid (fun k hk => (hM k hk).1)
  have HFIT := Lib.hid hfit
  have HLEN := Lib.hid hlen
  have HLIM := Lib.hid hlim
  have H0 := Lib.hid h0
  have c1 : W.cell? ⟨lb, 0, none⟩ = some (.slice s.A s.l.length s.c) := hAt1.src.cell (j := 0) rfl
  clear hY hJ hJx hM hK hAt hAt1 hKlt hfit hlen hlim hB hsz h0
  refine callsIn_of_wp Try.func41 rfl hfn ?_ hF.ro
  simp only [Try.ntmps41, List.size_toArray, List.length_cons, List.length_nil, Nat.reduceAdd, Nat.reduceSub, Array.replicate_succ, Array.replicate_zero, List.push_toArray, List.append_toArray, List.nil_append, List.cons_append]
  gi_wp2_with fail
  gi_loopw [4, 12] (fun m i wr => ∃ (k : Nat) (M' : Nat → Prop), m = .int .i64 (markOf j 0 (s.l.take k)) ∧ i = .int .i64 k ∧ k ≤ s.l.length ∧ J M' (kept j 0 (s.l.take k)) wr ∧ OverG.Kept (needs B jb lb) M W wr ∧ (∀ x, M x → M' x) ∧ (∀ x, M' x → ¬ needs B jb lb x))
    (fun _ i _ => s.l.length - (intOf i).toNat)
  case atStart => exact ⟨0, M, rfl, rfl, Nat.zero_le _, H0.out, OverG.Kept.refl _ _ _, fun _ h => h, HM.out⟩
  case round =>
    obtain ⟨k, M', rfl, rfl, hk, hj, hkp, hs1, hs2⟩ := hrel
    have HJ1 := Lib.hid hj
    have HKP := Lib.hid hkp
    have HS1 := Lib.hid hs1
    have HS2 := Lib.hid hs2
    have hAt2 : KeptAt B jb lb j s wr := HAT.out.same fun k hk => hkp.block k (HLT.out k hk) (.inl hk)
    have HAT2 := Lib.hid hAt2
    have hz : W.heap.size ≤ wr.heap.size := hkp.size
    have HZ := Lib.hid hz
    clear hj hkp hs1 hs2 hz c1
    by_cases hlt : k < s.l.length
    · obtain ⟨x, hx⟩ : ∃ x, s.l[k]? = some x := ⟨_, List.getElem?_eq_getElem hlt⟩
      obtain ⟨m, hm⟩ : ∃ m, m = markOf j 0 (s.l.take k) := ⟨_, rfl⟩
      have HMK : Hid (markOf j 0 (s.l.take (k + 1)) = mk j m x) := Lib.hid (by rw [take_push hx, mark_push, hm])
      have HKT : Hid (kept j 0 (s.l.take (k + 1)) = if x.at_ < m then kept j 0 (s.l.take k) else kept j 0 (s.l.take k) ++ [left j x]) := Lib.hid (by rw [take_push hx, kept_push, hm])
      have hxf := HFIT.out x (List.mem_of_getElem? hx)
      obtain ⟨b, off, hA, d0, d1, d2⟩ := Jo.row_evC hAt2.row.1 hx
      have HX := Lib.hid hx
      have HMM := Lib.hid hm
      have hw := wrapM (k := k) (by have := HLEN.out; omega)
      have HMA := Lib.hid (fun w => mdMarkAfter j m x w)
      have g0 := hAt2.job.cell (j := 0) rfl; have g1 := hAt2.job.cell (j := 1) rfl; have g4 := hAt2.job.cell (j := 2) rfl; have g5 := hAt2.job.cell (j := 3) rfl; have g6 := hAt2.job.cell (j := 6) rfl; have g7 := hAt2.job.cell (j := 7) rfl
      have g2 := hAt2.job.cell (j := 5) rfl
      have g3 := hAt2.job.cell (j := 4) rfl
      have hjb := lt_of_block hAt2.job
      have G0 := Lib.hid hAt2.job
      obtain ⟨m2, hm2⟩ : ∃ m2, m2 = mk j m x := ⟨_, rfl⟩
      rw [← hm2] at HMA HMK
      have HM2 := Lib.hid hm2
      rw [← hm]
      obtain ⟨SA, sc, sl⟩ := s
      simp only at hA hlt hk ⊢
      subst hA
      clear hx hm hm2 hAt2
      by_cases hlate : x.at_ < m
      · have HL : Hid (kept j 0 (sl.take (k + 1)) = kept j 0 (sl.take k)) := Lib.hid (by have := HKT.out; rwa [if_pos hlate] at this)
        gi_wp2_with fail
        refine (hF.calls (HMA.out _)).mono ?_
        rintro e w2 ⟨rfl, hb2⟩
        have hB2 := below_next (below_al (o := .cells (evC x) 45) (Below.refl wr.heap.size wr)) hb2
        have HB2 := Lib.hid hB2
        clear hb2 hB2
        gi_wp2_with fail
        go_roundw
        case rel => exact ⟨k + 1, M', by rw [HMK.out], rfl, by omega, by rw [HL.out]; exact HJ.out _ _ _ _ _ HJ1.out (Over.Mine.of_below HB2.out (Nat.le_refl _)) fun k hk => .inl hk, HKP.out.trans (OverG.Kept.of_below HB2.out (Nat.le_refl _)), HS1.out, HS2.out⟩
        case measure => simp [intOf]; omega
      · have HL : Hid (kept j 0 (sl.take (k + 1)) = kept j 0 (sl.take k) ++ [left j x]) := Lib.hid (by have := HKT.out; rwa [if_neg hlate] at this)
        have HSP : Hid (kept j 0 sl = kept j 0 (sl.take k) ++ left j x :: kept j m2 (sl.drop (k + 1))) := Lib.hid (by have h := kept_split (j := j) HX.out (by rw [← HMM.out]; exact hlate); rw [← HMM.out, ← HM2.out] at h; exact h)
        have HLR : Hid (∀ w, Calls Try.prog 42 #[evV x, .int .i64 j.limit, .int .i64 j.fuel] w (Lp.GivesR (Lp.ran (Lp.limOf j.limit) (Lp.fuelOf j.fuel) ⟨x.key, x.at_, x.val⟩) w)) := Lib.hid (fun w => Lp.lpRun ⟨x.key, x.at_, x.val⟩ j.limit j.fuel hxf.2 HLIM.out w)
        have HLX : Hid ((left j x).key = x.key ∧ (left j x).at_ = x.at_ ∧ (left j x).val = (Lp.rv (Lp.limOf j.limit) (Lp.fuelOf j.fuel) x.val).1) := Lib.hid ⟨rfl, rfl, rfl⟩
        gi_wp2_with fail
        refine (hF.calls (HMA.out _)).mono ?_
        rintro e w2 ⟨rfl, hb2⟩
        have LX := Lib.hid (show Lies wr.heap.size (evC x) 45 w2 from (Lies.new wr (evC x) 45).below hb2)
        have LX0 := LX.out.cell (j := 0) rfl
        have LX1 := LX.out.cell (j := 1) rfl
        have LX2 := LX.out.cell (j := 2) rfl
        have hB2 := below_next (below_al (o := .cells (evC x) 45) (Below.refl wr.heap.size wr)) hb2
        have g2' := cell_below g2 hB2
        have g3' := cell_below g3 hB2
        have HB2 := Lib.hid hB2
        clear hb2 hB2 g0 g1 g2 g3 g4 g5 g6 g7 d0 d1 d2
        gi_wp2_with fail
        refine (hF.calls (HLR.out _)).mono ?_
        rintro e w5 ⟨rfl, hb5⟩
        have HB5 := Lib.hid (below_next HB2.out hb5)
        clear hb5 LX0 LX1 LX2 g2' g3'
        obtain ⟨y, hy⟩ : ∃ y, y = left j x := ⟨_, rfl⟩
        have hj6 : J (fun z => M' z ∨ (wr.heap.size ≤ z ∧ z < w5.heap.size + 1)) (kept j 0 (sl.take k)) (w5.alloc (.cells (evC y) 45)) :=
          HJ.out _ _ _ _ _ HJ1.out (Over.Mine.of_below (below_al HB5.out) (Nat.le_refl _)) fun z hz => by simpa using hz
        obtain ⟨fn, tmps, assign, body, hyy, hR⟩ := HY.out (fun z => M' z ∨ (wr.heap.size ≤ z ∧ z < w5.heap.size + 1)) (kept j 0 (sl.take k)) y _ _ #[evV y] (by rw [hy]; exact HSP.out) hj6 rfl
        have HR := Lib.hid hR
        have HYX := Lib.hid hy
        clear hR hj6
        have e0 : (Lp.ran (Lp.limOf j.limit) (Lp.fuelOf j.fuel) ⟨x.key, x.at_, x.val⟩).ev.key = y.key := by rw [hy]; rfl
        have e1 : (Lp.ran (Lp.limOf j.limit) (Lp.fuelOf j.fuel) ⟨x.key, x.at_, x.val⟩).ev.at_ = y.at_ := by rw [hy]; rfl
        have e2 : (Lp.ran (Lp.limOf j.limit) (Lp.fuelOf j.fuel) ⟨x.key, x.at_, x.val⟩).ev.val = y.val := by rw [hy]; rfl
        rw [show Lp.evV (Lp.ran (Lp.limOf j.limit) (Lp.fuelOf j.fuel) ⟨x.key, x.at_, x.val⟩).ev = evV y from by rw [Lp.evV, Lp.evC, e0, e1, e2]]
        clear e0 e1 e2 hy
        gi_wp2_with fail
        refine HR.out.mono ?_
        rintro e W3 ⟨h3 | h3, hk3⟩
        · obtain ⟨rfl, hj3⟩ := h3
          have HJ3 := Lib.hid hj3
          have hkt := Lib.hid (HKP.out.trans ((OverG.Kept.of_below (K := needs B jb lb) (M := M) (below_al (o := .cells (evC y) 45) HB5.out) (Nat.le_refl _)).trans (hk3.sub fun z hz => hz.elim Or.inl fun h => Or.inr (Or.inl (HS1.out z h)))))
          clear hj3 hk3 hyy
          gi_wp2_with fail
          go_roundw
          case rel =>
            refine ⟨k + 1, (fun z => M' z ∨ (wr.heap.size ≤ z ∧ z < w5.heap.size + 1)), by rw [HMK.out], rfl, by omega, by rw [HL.out, ← HYX.out]; exact HJ3.out, hkt.out, fun z hz => Or.inl (HS1.out z hz), fun z hz hn => ?_⟩
            rcases hz with hz | hz
            · exact HS2.out z hz hn
            · have h1 := HLT.out z hn
              have h2 := HZ.out
              omega
          case measure => simp [intOf]; omega
        · obtain ⟨rfl, hj3⟩ := h3
          have HJ3 := Lib.hid hj3
          clear hj3 hk3 hyy
          gi_wp2_with fail
          refine bodyPost_ret (results_none rfl _ _ _) rfl ?_
          refine ⟨⟨_, rfl⟩, .inr ⟨_, ⟨kept j m2 (sl.drop (k + 1)), ?_⟩, HJx.out _ _ _ _ _ HJ3.out (Over.Mine.refl _ _) (fun z hz => Or.inl (Or.inl (HS1.out z hz)))⟩⟩
          rw [HSP.out, HYX.out]
          simp
    · have hkl : k = s.l.length := by omega
      have HD : Hid (kept j 0 (s.l.take k) = kept j 0 s.l) := Lib.hid (by rw [hkl, List.take_length])
      clear hkl
      gi_wp2_with fail
      go_end0
      refine ⟨⟨_, rfl⟩, .inl ?_⟩
      rw [← HD.out]
      exact HJ.out _ _ _ _ _ HJ1.out (Over.Mine.refl _ _) fun z hz => .inl (HS1.out z hz)
end Mo
end Go.Proofs.Ytipmphkmeiogoaa
/- slices.AppendSeq, slices.Collect over an iterator of events; Kept, Mark. -/
namespace Go.Proofs.Ytipmphkmeiogoaa
open Go.RowKit Go.Shelf Tick
set_option linter.unusedVariables false
set_option maxRecDepth 8000
attribute [local go_sem] Oper.semAt_some
namespace OverG
theorem Kept.set {K M : Nat → Prop} (W : World) {a : Addr} (v : Value) (hK : ¬ K a.block) (hM : ¬ M a.block) : Kept K M W (W.setCell a v) :=
  ⟨by show W.heap.size ≤ (W.heap.modify _ _).size; rw [Array.size_modify]; exact Nat.le_refl _,
   fun k _ hm => Below.heap_setCell W a v k fun e => by subst e; exact hm.elim hK hM⟩
theorem Kept.grown {K M : Nat → Prop} {W W' : World} {row : Option Nat} (hg : W.grownBy W' row) (h : ∀ k, row = some k → ¬ K k ∧ ¬ M k) : Kept K M W W' :=
  ⟨hg.size, fun k hk hm => hg.block k hk fun e => hm.elim (h k e.symm).1 (h k e.symm).2⟩
end OverG
namespace Mo
open Gen (TellsI TellsB)
open Jo (Jb Ev Sr evIs srcOk insOk jbC jbV srV evL Srs)
/-- Events as they lie in a slice. -/
def ec (xs : List Ev) : List Value := xs.flatMap evL
theorem ec_len (xs : List Ev) : (ec xs).length = xs.length * 3 := Gen.flat_len evL Jo.evL_len xs
theorem ec_app (xs ys : List Ev) : ec (xs ++ ys) = ec xs ++ ec ys := by simp [ec]
theorem ec_one (x : Ev) : ec [x] = evL x := by simp [ec]
theorem ec_ones (xs : List Ev) : ∀ u ∈ ec xs, u.oneCell' = true := by
  intro u hu
  obtain ⟨p, _, hp⟩ := List.mem_flatMap.1 hu
  simp only [evL, List.mem_cons, List.not_mem_nil, or_false] at hp
  rcases hp with rfl | rfl | rfl <;> rfl
/-- An event's own block. -/
def EBox (W : World) (b : Nat) (x : Ev) : Prop := Lies b (evC x) 45 W
namespace EColl
variable (w : World) (sv : Value)
def Inv (M' : Nat → Prop) (pre : List Ev) (W : World) : Prop :=
  ∃ v, Boxed W w.heap.size 24 v ∧ W.ownsRow w.heap.size 45 3 v pre.length (ec pre) ∧ (∀ k, v.ownBlock = some k → ¬ M' k) ∧ Below w.heap.size w W ∧ (∀ k, M' k → w.heap.size < k ∧ k < W.heap.size)
def Inv2 (M' : Nat → Prop) (s : List Ev × Ev × Act) (W : World) : Prop :=
  Inv w M' s.1 W ∧ ∃ bx, EBox W bx s.2.1 ∧ ¬ M' bx ∧
    s.2.2 = { tmps := #[.slice none 0 0, sv, .pointer (some ⟨w.heap.size, 0, none⟩), undef, .slice none 0 0, .pointer (some ⟨bx, 0, none⟩), sv, evV s.2.1, undef, undef, undef, undef, undef], defers := [] }
variable {w sv}
theorem inv_abide : Over.Abide (Inv w) := fun M' M'' s W W' h hm hs => by
  obtain ⟨v, h1, h2, h3, h4, h5⟩ := h
  have hl := h1.lt
  have hsz := hm.size
  exact ⟨v, hm.box h1 fun h => by (have := (h5 _ h).1; omega), own_mine h2 hm h3, fun k hk h => (hs k h).elim (h3 k hk) fun h => by (have := (own_blockLt h2 k hk).2; omega),
    ⟨hm.os.trans h4.os, hm.tape.trans h4.tape, hm.output.trans h4.output, Nat.le_trans h4.size hsz, fun k hk => (hm.block k (by omega) fun h => by (have := (h5 _ h).1; omega)).trans (h4.block k hk)⟩,
    fun k hk => (hs k hk).elim (fun h => ⟨(h5 k h).1, by have := (h5 k h).2; omega⟩) fun h => ⟨by omega, h.2⟩⟩
theorem inv2_abide : Over.Abide (Inv2 w sv) := fun M' M'' s W W' h hm hs => by
  obtain ⟨h1, bx, h2, h3, h4⟩ := h
  have hlt := lt_of_block h2
  exact ⟨inv_abide _ _ _ _ _ h1 hm hs, bx, (hm.block bx hlt h3).trans h2, fun h => (hs bx h).elim h3 fun h => by omega, h4⟩
end EColl
theorem evInfo : (Try.prog.info? 45).map (fun i => (i.zero, i.size, i.bytes)) = some (some (.agg #[.string ByteArray.empty, .int .i64 0, .int .i64 0]), 3, 32) := by kernel_rfl
set_option maxRecDepth 100000 in
set_option maxHeartbeats 2000000 in
theorem eAppendSeq (F : Fence) (hF : Over.Wide F) (n : Nat) (hn : 4 ≤ n) (g : Nat) (lb : Array Value) (eg : ∀ args w, (callFunc g args).run Try.prog w = .ok (.enter g args) w) (xs : List Ev) (hlen : xs.length ≤ 100000) (K : Nat → Prop) (w0 w : World)
    (hseq : OverG.Feeds F (n - 1) Try.prog g lb (fun x _ _ vs => vs = #[evV x]) K xs w0) (hw : Below w0.heap.size w0 w) (hK : ∀ k, K k → k < w0.heap.size) :
    CallsIn F n Try.prog 40 #[.slice none 0 0, .func (.func g) #[] lb] w fun e w' => ∃ v, e = .returned v ∧ w'.ownsRow w.heap.size 45 3 v xs.length (ec xs) ∧ Below w.heap.size w w' := by
  obtain ⟨i0, hi0, hz0, hz1, hz2⟩ := info_parts evInfo
  have hfn := hF.fn 40
  have hro : F.round = none := hF.ro
  have h1n : 1 ≤ n := by omega
  have h2n : 1 ≤ n - 1 := by omega
  have h3n : 1 ≤ n - 1 - 1 := by omega
  have HS := Lib.hid hseq
  have HW := Lib.hid hw
  have EG := Lib.hid eg
  have H0 := Lib.hid hz0; have H1 := Lib.hid hz1; have H2 := Lib.hid hz2; have HI := Lib.hid hi0
  have HLEN := Lib.hid hlen
  have HKN : Hid (∀ k, w.heap.size ≤ k → ¬ K k) := Lib.hid fun k hk h => by have := hK k h; have := hw.size; omega
  have HK := Lib.hid hK
  clear hseq hw eg hz0 hz1 hz2 hi0 hlen hK
  refine callsIn_of_wp_marks Try.func40 rfl hfn ?_ hro
  simp only [Try.ntmps40, List.size_toArray, List.length_cons, List.length_nil, Nat.reduceAdd, Nat.reduceSub, Array.replicate_succ, Array.replicate_zero, List.push_toArray, List.append_toArray, List.nil_append, List.cons_append]
  gi_wp2
  refine OverG.range (α := Ev) hro h1n (gf := g) (lb := lb) rfl (hF.fn g) EG.out HS.out (by have := HW.out.size; simp; omega) (fun k hk => ⟨HK.out k hk, ((HW.out.trans (((Below.refl _ w).alloc (Nat.le_refl _) _).mono HW.out.size)).block k (HK.out k hk))⟩) (fun x _ W vs h => by subst h; rfl)
    (EColl.Inv w) (EColl.Inv2 w (.func (.func g) #[] lb)) (fun _ _ _ _ => False) EColl.inv_abide EColl.inv2_abide (fun _ _ _ _ _ _ h _ _ => h) ?start ?assign ?body ?done ?stop
  case start =>
    exact ⟨.slice none 0 0, Boxed.new _ _ _, own_none, fun k hk => by simp [Value.ownBlock] at hk, (Below.refl _ _).alloc (Nat.le_refl _) _, fun _ h => h.elim⟩
  case assign =>
    intro l' M' M0 pre x rest W' vs hx hi _ hvs
    subst hvs
    have hi1 := Lib.hid hi
    have hw0 : w0.heap.size ≤ w.heap.size := HW.out.size
    obtain ⟨x0, x1, x2⟩ := x
    clear hi
    gi_wp2
    obtain ⟨v, j1, j2, j3, j4, j5⟩ := hi1.out
    refine ⟨⟨EColl.inv_abide _ _ _ _ _ hi1.out (Over.Mine.alloc _ _ _) fun k hk => .inl hk, W'.heap.size, Lies.new W' (evC ⟨x0, x1, x2⟩) 45, fun h => by have := (j5 _ h).2; omega, rfl⟩, OverG.Kept.alloc _ _ _ _⟩
  case body =>
    rintro l' M' pre ⟨x0, x1, x2⟩ rest a' W' hx ⟨⟨v, j1, j2, j3, j4, j5⟩, bx, hbx, hnb, ha⟩ _ _
    dsimp only at ha
    subst ha
    have hw0 : w0.heap.size ≤ w.heap.size := HW.out.size
    have d0 : W'.cell? ⟨bx, 0, none⟩ = some (.string x0) := hbx.cell (j := 0) rfl
    have d1 : W'.cell? ⟨bx, 1, none⟩ = some (.int .i64 x1) := hbx.cell (j := 1) rfl
    have d3 : W'.cell? ⟨bx, 2, none⟩ = some (.int .i64 x2) := hbx.cell (j := 2) rfl
    have d2 := j1.cell
    have hbl := lt_of_block hbx
    have hvl := j1.lt
    have hB : w.heap.size ≤ W'.heap.size := by omega
    have hpl : pre.length + 1 ≤ 100000 := by have := HLEN.out; rw [hx] at this; simp at this; omega
    have HX := Lib.hid hx
    have H3 := Lib.hid j3
    have H4 := Lib.hid j4
    have H5 := Lib.hid j5
    have HO := Lib.hid j2
    have HN := Lib.hid hnb
    have HB := Lib.hid j1
    have HC := Lib.hid (cells_new W' [.string x0, .int .i64 x1, .int .i64 x2] 45)
    clear hx j1 j2 j3 j4 j5 hnb
    gi_wp2_with (gi_at_builtin; refine hold_mk ?_)
    refine hold_out ?_
    refine wpListIn_append_own_at _ rfl _ _ 24 rfl w.heap.size 45 i0 (.agg #[.string ByteArray.empty, .int .i64 0, .int .i64 0]) 3 32 Try.underlying24 HI.out H0.out H1.out H2.out rfl (by decide) _ _ _ rfl (HO.out.alloc _) ⟨W'.heap.size, 0, none⟩ 1 1 [.string x0, .int .i64 x1, .int .i64 x2] rfl rfl HC.out (by simp [Value.oneCell']) (by unfold maxLen; omega) (by omega) (by simp; omega) ?_
    intro v' w1 hown' hgrow _ hat
    obtain ⟨g', cap', rfl⟩ := ownsRow_succ hown'
    have hne : some w.heap.size ≠ v.ownBlock := HB.out.not_row (by decide) HO.out
    have hbx1 : Boxed w1 w.heap.size 24 v := (HB.out.alloc _).kept hgrow hne
    have hz1 := hgrow.size
    have c1 := hbx1.cell; have f1 := hbx1.frozen
    have HG := Lib.hid hgrow
    have HAT := Lib.hid hat
    have HO1 := Lib.hid hown'
    have HB1 := Lib.hid hbx1
    have HNE := Lib.hid hne
    clear hgrow hat hown' hbx1 hne d0 d1 d2 d3
    gi_wp2
    have hg : g' ≠ w.heap.size ∧ ¬ M' g' := by
      rcases HAT.out with h | h
      · have h' : some g' = v.ownBlock := h
        exact ⟨fun e => HNE.out (by rw [← h', e]), H3.out g' h'.symm⟩
      · have h' : g' = W'.heap.size + 1 := by simpa [Value.ownBlock] using h
        exact ⟨by omega, fun hm => by have := (H5.out _ hm).2; omega⟩
    have hrow : ∀ k, v.ownBlock = some k → w.heap.size ≤ k ∧ ¬ M' k := fun k hk => ⟨(own_blockLt HO.out k hk).1, H3.out k hk⟩
    have hb1 : Below w.heap.size w w1 := (H4.out.alloc (by omega) _).grown HG.out (by simp; omega) fun k hk => (hrow k hk).1
    refine ⟨⟨_, HB1.out.set _, ?_, fun k hk => by cases hk; exact hg.2, hb1.setCell (p := ⟨w.heap.size, 0, none⟩) (Nat.le_refl _) _, fun k hk => ⟨(H5.out k hk).1, ?_⟩⟩, ?_⟩
    · have h := HO1.out.kept (grownBy_setCell' w1 w.heap.size (.slice (some ⟨g', 0, none⟩) (pre.length + 1) cap')) (.inr fun e => hg.1 (by cases e; rfl))
      rw [ec_app, ec_one, List.length_append, List.length_singleton]
      exact h
    · have h1 := (H5.out k hk).2
      have h2 : w1.heap.size ≤ (w1.setCell ⟨w.heap.size, 0, none⟩ (.slice (some ⟨g', 0, none⟩) (pre.length + 1) cap')).heap.size := (grownBy_setCell' w1 w.heap.size _).size
      simp only [World.size_alloc] at hz1
      omega
    · refine ((OverG.Kept.alloc _ _ _ _).trans (OverG.Kept.grown HG.out fun k hk => ⟨HKN.out k (hrow k hk).1, (hrow k hk).2⟩)).trans (OverG.Kept.set _ _ (HKN.out _ (Nat.le_refl _)) fun hm => ?_)
      have := (H5.out _ hm).1
      exact Nat.lt_irrefl _ this
  case done =>
    rintro D M' W' hD hDw ⟨v, j1, j2, j3, j4, j5⟩ hK
    have d2 := j1.cell
    gi_wp2
    refine ⟨by simp, .inl ⟨_, _, rfl, run_takeDeferred hK, ?_⟩⟩
    refine ⟨_, results_tmp rfl _ _ _, v, rfl, own_mine j2 (Over.Mine.put _ _ hD) j3, ?_⟩
    have hm := Over.Mine.put (M := M') W' (.deferred none) hD
    exact ⟨hm.os.trans j4.os, hm.tape.trans j4.tape, hm.output.trans j4.output, Nat.le_trans j4.size hm.size, fun k hk => (hm.block k (by have := j4.size; omega) fun h => by (have := (j5 _ h).1; omega)).trans (j4.block k hk)⟩
  case stop =>
    rintro D c M' pre W' hD hDw hpre hi hK
    exact hi.elim
theorem eCollect (F : Fence) (hF : Over.Wide F) (n : Nat) (hn : 5 ≤ n) (g : Nat) (lb : Array Value) (eg : ∀ args w, (callFunc g args).run Try.prog w = .ok (.enter g args) w) (xs : List Ev) (hlen : xs.length ≤ 100000) (K : Nat → Prop) (w0 w : World)
    (hseq : OverG.Feeds F (n - 1) Try.prog g lb (fun x _ _ vs => vs = #[evV x]) K xs w0) (hw : Below w0.heap.size w0 w) (hK : ∀ k, K k → k < w0.heap.size) :
    Calls Try.prog 22 #[.func (.func g) #[] lb] w fun e w' => ∃ v, e = .returned v ∧ w'.ownsRow w.heap.size 45 3 v xs.length (ec xs) ∧ Below w.heap.size w w' := by
  have HA : Hid (Calls Try.prog 40 #[.slice none 0 0, .func (.func g) #[] lb] w fun e w' => ∃ v, e = .returned v ∧ w'.ownsRow w.heap.size 45 3 v xs.length (ec xs) ∧ Below w.heap.size w w') :=
    Lib.hid (by have h := eAppendSeq F hF n (by omega) g lb eg xs hlen K w0 w hseq hw hK; rw [hF.all] at h; exact callsIn_wide.1 h)
  clear hseq hw eg hlen hK
  go_enter Try.func22, Try.ntmps22
  go_wp2_with (go_at_call 40; refine HA.out.mono ?_; rintro e w' ⟨v, rfl, h1, h2⟩)
  go_ret
  exact ⟨v, rfl, h1, h2⟩

/-- Hands back events and an error; what was stays. -/
def GivesE (r : List Ev × Int) (w : World) (e : Ending) (w' : World) : Prop :=
  ∃ A c, e = .returned (.tuple #[.slice A r.1.length c, .int .i64 r.2]) ∧ r.1.length ≤ c ∧ c ≤ maxLen ∧ Row w' A (ec r.1) ∧ Below w.heap.size w w'
def keptOut (j : Jb) (s : Sr) : List Ev × Int := if chk j [s] = 0 then (kept j 0 s.l, 0) else ([], chk j [s])
theorem row_one1 (w : World) (s : Sr) : Row (w.alloc (.cells #[srV s] 24)) (some ⟨w.heap.size, 0, none⟩) ([s].flatMap fun s => [srV s]) := by
  refine .inr ⟨w.heap.size, 0, rfl, fun j u hu => ?_⟩
  rw [Nat.zero_add]
  exact (Lies.new w #[srV s] 24).cell (by simpa using hu)
theorem srs_one {w : World} {s : Sr} (h : Row w s.A (s.l.flatMap evL)) (hl : s.l.length ≤ 9223372036854775807) : Srs w [s] := by
  intro k x hx
  match k, hx with
  | 0, hx =>
    cases hx
    exact ⟨h, hl⟩
theorem chk_ok {j : Jb} {l : List Sr} (h : chk j l = 0) : Jo.right j = true ∧ insOk l = true := by
  unfold chk at h
  cases h1 : Jo.right j
  · rw [h1] at h; cases h
  · cases h2 : insOk l
    · rw [h1, h2] at h; cases h
    · exact ⟨rfl, rfl⟩
theorem insOk_one {s : Sr} (h : insOk [s] = true) : s.l.length ≤ 200 ∧ ∀ e ∈ s.l, evIs e = true := by
  unfold Jo.insOk at h
  simp only [List.length_cons, List.length_nil, List.all_cons, List.all_nil, Bool.and_true, Bool.and_eq_true, Jo.srcOk, decide_eq_true_eq, List.all_eq_true] at h
  exact ⟨h.2.1, h.2.2⟩
end Mo
end Go.Proofs.Ytipmphkmeiogoaa
