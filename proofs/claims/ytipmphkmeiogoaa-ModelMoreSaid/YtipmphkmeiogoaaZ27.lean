/- ModEach, ModEach2, put together. -/
import Derived.Test.YtipmphkmeiogoaaZ26
/- The iterator over iterators; each. -/
namespace Go.Proofs.Ytipmphkmeiogoaa
open Go.RowKit Go.Shelf Tick
set_option linter.unusedVariables false
set_option maxRecDepth 8000
attribute [local go_sem] Oper.semAt_some
namespace Mo
open Gen (TellsI TellsB lies_new1)
open Jo (Jb Ev Sr evIs srcOk insOk jbC jbV srV evL Srs)
open Pan (Pl Pn adds)
def srcF (jb ib : Nat) : Value := .func (.func 49) #[] #[.pointer (some ⟨ib, 0, none⟩), .pointer (some ⟨jb, 0, none⟩)]
set_option maxHeartbeats 400000 in
theorem mdSources (j : Jb) (A : Option Addr) (n c : Nat) (w : World) : Calls Try.prog 30 #[jbV j, .slice A n c] w fun e w' => e = .returned (srcF w.heap.size (w.heap.size + 1)) ∧ w' = (w.alloc (.cells (jbC j) 23)).alloc (.cells #[.slice A n c] 29) := by
  have hmf : ∀ (fn : Fn) (first cap : Array Value) (w : World), (Instr.makeFunc fn first cap).run Try.prog w = .ok (.func fn first cap) w := fun _ _ _ _ => rfl
  go_enter Try.func30, Try.ntmps30
  go_wp2_with fail
  go_ret
  exact ⟨rfl, rfl⟩
/-- What comes of a source: the iterator of its events, over two boxes made for it, from N on. -/
def EncS (B N : Nat) (j : Jb) (s : Sr) (M : Nat → Prop) (W : World) (vs : Array Value) : Prop :=
  ∃ jb lb, vs = #[keptF jb lb] ∧ KeptAt B jb lb j s W ∧ N ≤ jb ∧ N ≤ lb ∧ ¬ M jb ∧ ¬ M lb
structure SrcAt (B jb ib : Nat) (j : Jb) (ls : List Sr) (A : Option Addr) (c : Nat) (W : World) : Prop where
  job : Lies jb (jbC j) 23 W
  ins : Lies ib #[.slice A ls.length c] 29 W
  row : RowB B W A (ls.flatMap fun s => [srV s])
  src : ∀ s ∈ ls, RowB B W s.A (s.l.flatMap evL)
theorem SrcAt.same {B jb ib : Nat} {j : Jb} {ls : List Sr} {A : Option Addr} {c : Nat} {W W' : World} (h : SrcAt B jb ib j ls A c W) (hb : ∀ k, needs B jb ib k → W'.heap[k]? = W.heap[k]?) : SrcAt B jb ib j ls A c W' :=
  ⟨(hb jb (.inr (.inl rfl))).trans h.job, (hb ib (.inr (.inr rfl))).trans h.ins, h.row.same fun k hk => hb k (.inl hk), fun s hs => (h.src s hs).same fun k hk => hb k (.inl hk)⟩
set_option maxRecDepth 100000 in
set_option maxHeartbeats 600000 in
theorem sources_feeds (F : Fence) (hF : Over.Wide F) (n : Nat) (hn : 1 ≤ n) (j : Jb) (ls : List Sr) (hlen : ls.length ≤ 1000) (A : Option Addr) (c : Nat) (B jb ib N : Nat) (w : World) (hAt : SrcAt B jb ib j ls A c w) (hN : N ≤ w.heap.size) :
    OverG.Feeds F n Try.prog 49 #[.pointer (some ⟨ib, 0, none⟩), .pointer (some ⟨jb, 0, none⟩)] (EncS B N j) (needs B jb ib) ls w := by
  intro l J Jx M W hsz hK hJ hJx hM hY h0
  have hfn := hF.fn 49
  have hma := hF.fn 23
  have hro : F.round = none := hF.ro
  have hAt1 : SrcAt B jb ib j ls A c W := hAt.same fun k hk => (hK k hk).2
  have hKlt : ∀ k, needs B jb ib k → k < W.heap.size := fun k hk => Nat.lt_of_lt_of_le (hK k hk).1 hsz
  have HAT := Lib.hid hAt1
  have HLT := Lib.hid hKlt
  have HY := Lib.hid hY
  have HJ := Lib.hid hJ
  have HJx := Lib.hid hJx
  have HM := Lib.hid hM
  have HLEN := Lib.hid hlen
  have HN : Hid (N ≤ W.heap.size) := Lib.hid (Nat.le_trans hN hsz)
  have H0 := Lib.hid h0
  have c1 : W.cell? ⟨ib, 0, none⟩ = some (.slice A ls.length c) := hAt1.ins.cell (j := 0) rfl
  clear hY hJ hJx hM hK hAt hAt1 hKlt hlen hN hsz h0
  refine callsIn_of_wp Try.func49 rfl hfn ?_ hF.ro
  simp only [Try.ntmps49, List.size_toArray, List.length_cons, List.length_nil, Nat.reduceAdd, Nat.reduceSub, Array.replicate_succ, Array.replicate_zero, List.push_toArray, List.append_toArray, List.nil_append, List.cons_append]
  gi_wp2_with fail
  gi_loopw [8] (fun i wr => ∃ (k : Nat) (M' : Nat → Prop), i = .int .i64 k ∧ k ≤ ls.length ∧ J M' (ls.take k) wr ∧ OverG.Kept (needs B jb ib) M W wr ∧ (∀ x, M x → M' x) ∧ (∀ x, M' x → ¬ needs B jb ib x ∧ x < wr.heap.size))
    (fun i _ => ls.length - (intOf i).toNat)
  case atStart => exact ⟨0, M, rfl, Nat.zero_le _, H0.out, OverG.Kept.refl _ _ _, fun _ h => h, HM.out⟩
  case round =>
    obtain ⟨k, M', rfl, hk, hj, hkp, hs1, hs2⟩ := hrel
    have HJ1 := Lib.hid hj
    have HKP := Lib.hid hkp
    have HS1 := Lib.hid hs1
    have HS2 := Lib.hid hs2
    have hAt2 : SrcAt B jb ib j ls A c wr := HAT.out.same fun k hk => hkp.block k (HLT.out k hk) (.inl hk)
    have HAT2 := Lib.hid hAt2
    have HZ := Lib.hid hkp.size
    clear hj hkp hs1 hs2 c1
    by_cases hlt : k < ls.length
    · obtain ⟨x, hx⟩ : ∃ x, ls[k]? = some x := ⟨_, List.getElem?_eq_getElem hlt⟩
      obtain ⟨b, off, hA, d0⟩ := Jo.row_sr hAt2.row.1 hx
      simp only [srV] at d0
      have HX := Lib.hid hx
      have hw := wrapM (k := k) (by have := HLEN.out; omega)
      have HKF : Hid (∀ w, Calls Try.prog 23 #[jbV j, .slice x.A x.l.length x.c] w fun e w' => e = .returned (keptF w.heap.size (w.heap.size + 1)) ∧ w' = (w.alloc (.cells (jbC j) 23)).alloc (.cells #[srV x] 24)) := Lib.hid (fun w => mdKept j x w)
      have g0 := hAt2.job.cell (j := 0) rfl; have g1 := hAt2.job.cell (j := 1) rfl; have g2 := hAt2.job.cell (j := 2) rfl; have g3 := hAt2.job.cell (j := 3) rfl; have g4 := hAt2.job.cell (j := 4) rfl; have g5 := hAt2.job.cell (j := 5) rfl; have g6 := hAt2.job.cell (j := 6) rfl; have g7 := hAt2.job.cell (j := 7) rfl
      subst hA
      have HRX : Hid (RowB B wr x.A (x.l.flatMap evL)) := Lib.hid (hAt2.src x (List.mem_of_getElem? hx))
      clear hx hAt2
      gi_wp2_with fail
      refine (hF.calls (HKF.out _)).mono ?_
      rintro e w2 ⟨rfl, hw2⟩
      have hB2 : Below wr.heap.size wr w2 := by rw [hw2]; exact below_al (below_al (Below.refl _ _))
      have hA2 : KeptAt B wr.heap.size (wr.heap.size + 1) j x w2 := by
        refine ⟨?_, ?_, HRX.out.same fun k hk => hB2.block k (Nat.lt_of_lt_of_le (HLT.out k (.inl hk)) HZ.out)⟩
        · rw [hw2]; exact (Lies.new wr _ _).al
        · rw [hw2]; exact lies_new1 wr _ _ _
      have hj2 : J M' (ls.take k) w2 := HJ.out _ _ _ _ _ HJ1.out (Over.Mine.of_below hB2 (Nat.le_refl _)) fun z hz => Or.inl hz
      obtain ⟨fn, tmps, assign, body, hyy, hR⟩ := HY.out M' (ls.take k) x _ w2 #[keptF wr.heap.size (wr.heap.size + 1)] (split_at HX.out) hj2 ⟨_, _, rfl, hA2, Nat.le_trans HN.out HZ.out, Nat.le_succ_of_le (Nat.le_trans HN.out HZ.out), fun h => Nat.lt_irrefl _ (HS2.out _ h).2, fun h => Nat.lt_irrefl _ (Nat.lt_trans (Nat.lt_succ_self _) (HS2.out _ h).2)⟩
      have HR := Lib.hid hR
      have HB2 := Lib.hid hB2
      clear hR hj2 hA2 hB2 hw2 g0 g1 g2 g3 g4 g5 g6 g7 d0
      gi_wp2_with fail
      refine HR.out.mono ?_
      rintro e W3 ⟨h3 | h3, hk3⟩
      · obtain ⟨rfl, hj3⟩ := h3
        have HJ3 := Lib.hid hj3
        have HZ3 := Lib.hid (Nat.le_trans HB2.out.size hk3.size)
        have hkt := Lib.hid (HKP.out.trans ((OverG.Kept.of_below (K := needs B jb ib) (M := M) HB2.out (Nat.le_refl _)).trans (hk3.sub fun z hz => hz.elim Or.inl fun h => Or.inr (HS1.out z h))))
        clear hj3 hk3 hyy
        gi_wp2_with fail
        go_roundw
        case rel => exact ⟨k + 1, M', rfl, by omega, by rw [take_push HX.out]; exact HJ3.out, hkt.out, HS1.out, fun z hz => ⟨(HS2.out z hz).1, Nat.lt_of_lt_of_le (HS2.out z hz).2 HZ3.out⟩⟩
        case measure => simp [intOf]; omega
      · obtain ⟨rfl, hj3⟩ := h3
        have HJ3 := Lib.hid hj3
        clear hj3 hk3 hyy
        gi_wp2_with fail
        refine bodyPost_ret (results_none rfl _ _ _) rfl ?_
        refine ⟨⟨_, rfl⟩, .inr ⟨_, ⟨ls.drop (k + 1), ?_⟩, HJx.out _ _ _ _ _ HJ3.out (Over.Mine.refl _ _) (fun z hz => Or.inl (HS1.out z hz))⟩⟩
        conv => rhs; rw [split_at HX.out]
        simp
    · have hkl : k = ls.length := by omega
      have HD : Hid (ls.take k = ls) := Lib.hid (by rw [hkl, List.take_length])
      clear hkl
      gi_wp2_with fail
      go_end0
      refine ⟨⟨_, rfl⟩, .inl ?_⟩
      rw [← HD.out]
      exact HJ.out _ _ _ _ _ HJ1.out (Over.Mine.refl _ _) fun z hz => Or.inl (HS1.out z hz)
end Mo
end Go.Proofs.Ytipmphkmeiogoaa
/- Each event of each source taken. -/
namespace Go.Proofs.Ytipmphkmeiogoaa
open Go.RowKit Go.Shelf Tick
set_option linter.unusedVariables false
set_option maxRecDepth 8000
attribute [local go_sem] Oper.semAt_some
namespace OverG
theorem Feeds.inRound {α : Type} {F : Fence} {n : Nat} {P : Program} {g : Nat} {lb : Array Value} {Enc : α → (Nat → Prop) → World → Array Value → Prop} {K : Nat → Prop} {xs : List α} {w : World} (l : Nat) (h : Feeds F n P g lb Enc K xs w) : Feeds (F.inRound l) n P g lb Enc K xs w := h
end OverG
namespace Mo
open Gen (TellsI TellsB lies_new1)
open Jo (Jb Ev Sr evIs srcOk insOk jbC jbV srV evL Srs)
open Pan (Pl Pn adds)
abbrev takeV (D : Nat) : Value := .func (.func 31) #[.pointer (some ⟨D, 0, none⟩)] #[]
theorem toGen {M : Nat → Prop} {W W' : World} (h : Over.Mine M W W') : Gen.Mine M W W' := ⟨h.os, h.tape, h.output, h.size, h.block⟩
/-- Where the outer loop stands. -/
def ESt (D : Nat) (j : Jb) (w : World) (M : Nat → Prop) (done : List Ev) (W : World) : Prop :=
  ∃ A c, ColAt D j (panes j done) A c W ∧ (∀ a, A = some a → ¬ M a.block ∧ a.block < W.heap.size) ∧ Lies w.heap.size #[takeV D] 72 W ∧ (∀ k, M k → w.heap.size < k ∧ k < W.heap.size) ∧ Gen.Mine (fun k => k = D ∨ w.heap.size ≤ k) w W
/-- Where the inner loop stands. -/
def EIn (D : Nat) (j : Jb) (w : World) (Mo : Nat → Prop) (Wb : World) (base : List Ev) (M : Nat → Prop) (pre : List Ev) (W : World) : Prop :=
  ∃ A c, ColAt D j (panes j (base ++ pre)) A c W ∧ (∀ a, A = some a → ¬ M a.block ∧ ¬ Mo a.block ∧ a.block < W.heap.size) ∧ Lies w.heap.size #[takeV D] 72 W ∧ (∀ k, M k → Wb.heap.size ≤ k ∧ k < W.heap.size) ∧ Gen.Mine (fun k => k = D ∨ Wb.heap.size ≤ k) Wb W
theorem est_abide {D : Nat} {j : Jb} {w : World} (hD : D < w.heap.size) : Over.Abide (fun M (s : List Sr) W => ESt D j w M (keptAll j (s.map (·.l))) W) := fun M M' s W W' h hm hs => by
  obtain ⟨A, c, h1, h2, h3, h4, h5⟩ := h
  have hsz := hm.size
  refine ⟨A, c, h1.mine (toGen hm) (fun h => by have := (h4 _ h).1; omega) fun a ha => (h2 a ha).1, fun a ha => ⟨fun h => (hs _ h).elim (h2 a ha).1 fun h => by have := (h2 a ha).2; omega, by have := (h2 a ha).2; omega⟩, (toGen hm).lies h3 fun h => by have := (h4 _ h).1; omega, fun k hk => ?_, h5.trans ((toGen hm).sub fun k hk => .inr (by have := (h4 k hk).1; omega))⟩
  have := lt_of_block h3
  exact (hs k hk).elim (fun h => ⟨(h4 k h).1, by have := (h4 k h).2; omega⟩) fun h => ⟨by omega, h.2⟩
theorem ein_abide {D : Nat} {j : Jb} {w : World} {Mo : Nat → Prop} {Wb : World} {base : List Ev} (hD : D < Wb.heap.size) (hw : w.heap.size < Wb.heap.size) : Over.Abide (EIn D j w Mo Wb base) := fun M M' s W W' h hm hs => by
  obtain ⟨A, c, h1, h2, h3, h4, h5⟩ := h
  have hsz := hm.size
  refine ⟨A, c, h1.mine (toGen hm) (fun h => by have := (h4 _ h).1; omega) fun a ha => (h2 a ha).1, fun a ha => ⟨fun h => (hs _ h).elim (h2 a ha).1 fun h => by have := (h2 a ha).2.2; omega, (h2 a ha).2.1, by have := (h2 a ha).2.2; omega⟩, (toGen hm).lies h3 fun h => by have := (h4 _ h).1; omega, fun k hk => ?_, h5.trans ((toGen hm).sub fun k hk => .inr (h4 k hk).1)⟩
  have := h5.size
  exact (hs k hk).elim (fun h => ⟨(h4 k h).1, by have := (h4 k h).2; omega⟩) fun h => ⟨by omega, h.2⟩
abbrev eT (T D : Nat) (sv v4 v5 v7 v8 v9 : Value) : Array Value := #[sv, takeV D, undef, .pointer (some ⟨T, 0, none⟩), v4, v5, sv, v7, v8, v9, undef, undef, undef, undef]
def ESt2 (D B : Nat) (j : Jb) (w : World) (sv : Value) (M : Nat → Prop) (s : List Sr × Sr × Act) (W : World) : Prop :=
  ESt D j w M (keptAll j (s.1.map (·.l))) W ∧ ∃ jb lb, KeptAt B jb lb j s.2.1 W ∧ D < jb ∧ D < lb ∧ ¬ M jb ∧ ¬ M lb ∧ s.2.2 = { tmps := eT w.heap.size D sv (keptF jb lb) undef (keptF jb lb) undef undef, defers := [] }
theorem est2_abide {D B : Nat} {j : Jb} {w : World} {sv : Value} (hD : D < w.heap.size) (hB : B ≤ D) : Over.Abide (ESt2 D B j w sv) := fun M M' s W W' h hm hs => by
  obtain ⟨h1, jb, lb, h2, h3, h4, h5, h6, h7⟩ := h
  have hM : ∀ k, M k → w.heap.size < k := by obtain ⟨_, _, _, _, _, h, _⟩ := h1; exact fun k hk => (h k hk).1
  have hj := lt_of_block h2.job
  have hl := lt_of_block h2.src
  have hlow : ∀ k, k < B → W'.heap[k]? = W.heap[k]? := fun k hk => hm.block k (by omega) fun h => by have := hM k h; omega
  refine ⟨est_abide hD _ _ _ _ _ h1 hm hs, jb, lb, ⟨(hm.block jb hj h5).trans h2.job, (hm.block lb hl h6).trans h2.src, h2.row.same hlow⟩, h3, h4, fun h => (hs _ h).elim h5 fun h => by omega, fun h => (hs _ h).elim h6 fun h => by omega, h7⟩
def EIn2 (D : Nat) (j : Jb) (w : World) (sv kv : Value) (Mo : Nat → Prop) (Wb : World) (base : List Ev) (M : Nat → Prop) (s : List Ev × Ev × Act) (W : World) : Prop :=
  EIn D j w Mo Wb base M s.1 W ∧ ∃ bx, Lies bx (evC s.2.1) 45 W ∧ ¬ M bx ∧ s.2.2 = { tmps := eT w.heap.size D sv kv (.pointer (some ⟨bx, 0, none⟩)) kv kv (evV s.2.1), defers := [] }
theorem ein2_abide {D : Nat} {j : Jb} {w : World} {sv kv : Value} {Mo : Nat → Prop} {Wb : World} {base : List Ev} (hD : D < Wb.heap.size) (hw : w.heap.size < Wb.heap.size) : Over.Abide (EIn2 D j w sv kv Mo Wb base) := fun M M' s W W' h hm hs => by
  obtain ⟨h1, bx, h2, h3, h4⟩ := h
  have hlt := lt_of_block h2
  exact ⟨ein_abide hD hw _ _ _ _ _ h1 hm hs, bx, (hm.block bx hlt h3).trans h2, fun h => (hs bx h).elim h3 fun h => by omega, h4⟩
theorem all_split {j : Jb} {ls pre rest : List Sr} {x : Sr} (h : ls = pre ++ x :: rest) : keptAll j (ls.map (·.l)) = keptAll j (pre.map (·.l)) ++ kept j 0 x.l ++ keptAll j (rest.map (·.l)) := by
  rw [h]
  simp [keptAll]
theorem all_push {j : Jb} (pre : List Sr) (x : Sr) : keptAll j ((pre ++ [x]).map (·.l)) = keptAll j (pre.map (·.l)) ++ kept j 0 x.l := by
  simp [keptAll]
theorem needs_of {B jb lb : Nat} {j : Jb} {s : Sr} {W : World} (h : KeptAt B jb lb j s W) (hB : B ≤ W.heap.size) : ∀ k, needs B jb lb k → k < W.heap.size := by
  have h1 := lt_of_block h.job
  have h2 := lt_of_block h.src
  rintro k (hk | hk | hk) <;> omega
set_option maxRecDepth 100000 in
set_option maxHeartbeats 1000000 in
theorem mdEach (j : Jb) (hj : Jo.right j = true) (hlim : Lp.inI j.limit) (ls : List Sr) (hls : ls.length ≤ 1000) (hfit : ∀ s ∈ ls, ∀ e ∈ s.l, fit e) (his : ∀ s ∈ ls, ∀ e ∈ s.l, evIs e = true) (hlen : ∀ s ∈ ls, s.l.length ≤ 1000)
    (htot : (keptAll j (ls.map (·.l))).length ≤ 120) (A : Option Addr) (c : Nat) (B jb ib D : Nat) (w : World) (hAt : SrcAt B jb ib j ls A c w) (hD : D < w.heap.size) (hBD : B ≤ D) (hDj : D < jb) (hDi : D < ib) (hC : ColAt D j [] none 0 w) :
    Calls Try.prog 29 #[srcF jb ib, takeV D] w fun e w' => (∃ v, e = .returned v) ∧ (∃ A' c', ColAt D j (panes j (keptAll j (ls.map (·.l)))) A' c' w') ∧ Gen.Mine (fun k => k = D ∨ w.heap.size ≤ k) w w' := by
  have hF : Over.Wide Fence.wide := Over.wide
  have hfn := hF.fn 29
  have htk := hF.fn 31
  have hro : Fence.wide.round = none := rfl
  have HSF := Lib.hid (sources_feeds Fence.wide hF 19 (by omega) j ls hls A c B jb ib (D + 1) w hAt (by omega))
  have hjb := lt_of_block hAt.job
  have hib := lt_of_block hAt.ins
  have HNE : Hid (∀ k, needs B jb ib k → k < w.heap.size) := Lib.hid (by rintro k (hk | hk | hk) <;> omega)
  have HND : Hid (¬ needs B jb ib D) := Lib.hid (by rintro (hk | hk | hk) <;> omega)
  have HAT := Lib.hid hAt
  have HC := Lib.hid hC
  have HFIT := Lib.hid hfit
  have HIS := Lib.hid his
  have HLEN := Lib.hid hlen
  have HTOT := Lib.hid htot
  have HJ := Lib.hid hj
  have HLIM := Lib.hid hlim
  have HD := Lib.hid hD
  have HBD := Lib.hid hBD
  have HB0 := Lib.hid (below_al (o := .cells #[takeV D] 72) (Below.refl w.heap.size w))
  clear hAt hC hfit his hlen htot hj hlim hjb hib hDj hDi hls hBD
  suffices h : CallsIn Fence.wide 20 Try.prog 29 #[srcF jb ib, takeV D] w fun e w' => (∃ v, e = .returned v) ∧ (∃ A' c', ColAt D j (panes j (keptAll j (ls.map (·.l)))) A' c' w') ∧ Gen.Mine (fun k => k = D ∨ w.heap.size ≤ k) w w' from callsIn_wide.1 h
  refine callsIn_of_wp_marks Try.func29 rfl hfn ?_ hro
  simp only [Try.ntmps29, List.size_toArray, List.length_cons, List.length_nil, Nat.reduceAdd, Nat.reduceSub, Array.replicate_succ, Array.replicate_zero, List.push_toArray, List.append_toArray, List.nil_append, List.cons_append]
  gi_wp2_with fail
  refine OverG.range (α := Sr) (F := Fence.wide) rfl (by omega) (gf := 49) rfl (hF.fn _) (enters_of Try.func49 (by kernel_rfl) rfl) HSF.out (by simp) (fun k hk => ⟨HNE.out k hk, HB0.out.block k (HNE.out k hk)⟩) (fun x M W vs h => by obtain ⟨_, _, rfl, _⟩ := h; rfl)
    (fun M s W => ESt D j w M (keptAll j (s.map (·.l))) W) (ESt2 D B j w (srcF jb ib)) (fun _ _ _ _ => False) (est_abide hD) (est2_abide hD HBD.out) (fun _ _ _ _ _ _ h _ _ => h) ?start ?assign ?body ?done ?stop
  case start =>
    exact ⟨none, 0, HC.out.below HB0.out, (fun a ha => by cases ha), Lies.new w _ _, (fun _ h => h.elim), Gen.Mine.up HB0.out⟩
  case assign =>
    intro l' M M0 pre x rest W vs hx hi hM hen
    obtain ⟨jb', lb', rfl, hka, hN1, hN2, hn1, hn2⟩ := hen
    have n1 : ¬ M jb' := fun h => (hM _ h).elim hn1 fun ⟨o, ho, hc⟩ => by rw [show W.heap[jb']? = _ from hka.job] at ho; cases ho; cases hc
    have n2 : ¬ M lb' := fun h => (hM _ h).elim hn2 fun ⟨o, ho, hc⟩ => by rw [show W.heap[lb']? = _ from hka.src] at ho; cases ho; cases hc
    have HI := Lib.hid hi
    have HKA := Lib.hid hka
    clear hi hka hM hn1 hn2
    gi_wp2_with fail
    exact ⟨⟨HI.out, jb', lb', HKA.out, by omega, by omega, n1, n2, rfl⟩, OverG.Kept.refl _ _ _⟩
  case body =>
    rintro l' M pre x rest a' W hx ⟨hi, jb', lb', hka, hD1, hD2, hn1, hn2, ha⟩ hMl ⟨r0, hr0⟩
    dsimp only at ha
    subst ha
    obtain ⟨A1, c1, i1, i2, i3, i4, i5⟩ := hi
    have hwW := lt_of_block i3
    have hxm : x ∈ ls := by rw [hx]; simp
    have hspl := all_split (j := j) hx
    obtain ⟨base, hbase⟩ : ∃ base, base = keptAll j (pre.map (·.l)) := ⟨_, rfl⟩
    rw [← hbase] at hspl i1
    have HPUSH : Hid (keptAll j ((pre ++ [x]).map (·.l)) = base ++ kept j 0 x.l) := Lib.hid (by rw [all_push, hbase])
    have HALL : Hid (∀ z ∈ base ++ kept j 0 x.l, evIs z = true) := Lib.hid (by
      intro z hz
      have hz2 : z ∈ keptAll j (ls.map (·.l)) := by rw [hspl]; exact List.mem_append_left _ hz
      obtain ⟨t, ht, hzt⟩ := List.mem_flatMap.1 hz2
      obtain ⟨s, hs, rfl⟩ := List.mem_map.1 ht
      exact kept_is (HIS.out s hs) z hzt)
    have HSUM : Hid (base.length + (kept j 0 x.l).length ≤ 120) := Lib.hid (by
      have h1 := HTOT.out
      rw [hspl, List.length_append, List.length_append] at h1
      omega)
    have HKF := Lib.hid (OverG.Feeds.inRound l' (kept_feeds Fence.wide hF 17 (by omega) j HLIM.out x (HFIT.out x hxm) (HLEN.out x hxm) B jb' lb' W hka (by have := HBD.out; omega)))
    have HNK := Lib.hid (needs_of hka (by have := HBD.out; omega))
    have HNDK : Hid (¬ needs B jb' lb' D) := Lib.hid (by have := HBD.out; rintro (hk | hk | hk) <;> omega)
    have hDW : D < W.heap.size := by omega
    have HI1 := Lib.hid i1; have HI2 := Lib.hid i2; have HI3 := Lib.hid i3; have HI4 := Lib.hid i4; have HI5 := Lib.hid i5
    clear i1 i2 i3 i4 i5 hka hx hspl hbase hxm hn1 hn2
    gi_wp2_with fail
    refine OverG.rangeIn (α := Ev) rfl hr0 (by omega) (gf := 41) rfl (hF.fn 41) (enters_of Try.func41 (by kernel_rfl) rfl) HKF.out (Nat.le_refl _) (fun k hk => ⟨HNK.out k hk, rfl⟩) (fun x M W vs h => by subst h; rfl)
      (EIn D j w M W base) (EIn2 D j w (srcF jb ib) (keptF jb' lb') M W base) (fun _ _ _ _ => False) (ein_abide hDW hwW) (ein2_abide hDW hwW) (fun _ _ _ _ _ _ h _ _ => h) ?start2 ?assign2 ?body2 ?done2 ?stop2
    case start2 =>
      exact ⟨A1, c1, by rw [List.append_nil]; exact HI1.out, fun a ha => ⟨fun h => h, (HI2.out a ha).1, (HI2.out a ha).2⟩, HI3.out, fun _ h => h.elim, Gen.Mine.refl _ _⟩
    case assign2 =>
      intro l2 M2 M0 pre2 y rest2 W2 vs hx2 hi2 hM2 hen
      subst hen
      have HIE := Lib.hid hi2
      obtain ⟨_, _, _, _, _, h4, _⟩ := hi2
      have HM2 := Lib.hid h4
      clear h4 hM2
      gi_wp2_with fail
      exact ⟨⟨ein_abide hDW hwW _ _ _ _ _ HIE.out (Over.Mine.alloc _ _ _) fun k hk => .inl hk, W2.heap.size, Lies.new W2 (evC y) 45, fun h => by have := (HM2.out _ h).2; omega, rfl⟩, OverG.Kept.alloc _ _ _ _⟩
    case body2 =>
      rintro l2 M2 pre2 y rest2 a2 W2 hx2 ⟨hi2, bx, hbx, hnb, ha2⟩ hMl2 hr2
      dsimp only at ha2
      subst ha2
      obtain ⟨A2, c2, q1, q2, q3, q4, q5⟩ := hi2
      have t0 : W2.cell? ⟨w.heap.size, 0, none⟩ = some (takeV D) := q3.cell (j := 0) rfl
      have b0 : W2.cell? ⟨bx, 0, none⟩ = some (.string y.key) := hbx.cell (j := 0) rfl
      have b1 : W2.cell? ⟨bx, 1, none⟩ = some (.int .i64 y.at_) := hbx.cell (j := 1) rfl
      have b2 : W2.cell? ⟨bx, 2, none⟩ = some (.int .i64 y.val) := hbx.cell (j := 2) rfl
      have hlt : (base ++ pre2).length < 120 := by
        have h1 := HSUM.out
        rw [hx2, List.length_append, List.length_cons] at h1
        rw [List.length_append]
        omega
      have hall : ∀ z ∈ (base ++ pre2) ++ [y], evIs z = true := fun z hz => HALL.out z (by
        rw [hx2]
        simp only [List.mem_append, List.mem_cons, List.not_mem_nil, or_false] at hz ⊢
        rcases hz with (h | h) | h
        · exact .inl h
        · exact .inr (.inl h)
        · exact .inr (.inr (.inl h)))
      have HTK := Lib.hid (mdTake j HJ.out (base ++ pre2) y hall hlt D A2 c2 W2 q1)
      have Q2 := Lib.hid q2; have Q3 := Lib.hid q3; have Q4 := Lib.hid q4; have Q5 := Lib.hid q5
      have hTD : w.heap.size ≠ D := by have := HD.out; omega
      clear q1 q2 q3 q4 q5 hall hlt hx2 hMl2 hr2 hnb hbx
      gi_wp2_with (gi_at_call 31; refine (CallsIn.inRound l2 (hF.callsR l' HTK.out)).mono ?_; rintro e w' ⟨rfl, ⟨A3, c3, r1, r2⟩, r3⟩)
      have hz2 := Q5.out.size
      have hz3 := r3.size
      refine ⟨⟨A3, c3, by rw [← List.append_assoc]; exact r1, fun a ha => ?_, r3.lies Q3.out hTD, fun k hk => ⟨(Q4.out k hk).1, Nat.lt_of_lt_of_le (Q4.out k hk).2 hz3⟩, Q5.out.trans (r3.sub fun k hk => .inl hk)⟩, ?_⟩
      · have h0 := (r2 a ha).1
        exact ⟨fun h => by have := (Q4.out _ h).2; omega, fun h => by have := (HI4.out _ h).2; omega, (r2 a ha).2⟩
      · refine OverG.Kept.but hz3 (fun k hk hne => r3.block k hk hne) HNDK.out fun h => by have := (Q4.out _ h).1; omega
    case done2 =>
      rintro M2 W2 ⟨A2, c2, q1, q2, q3, q4, q5⟩
      refine ⟨⟨A2, c2, by rw [HPUSH.out]; exact q1, fun a ha => ⟨(q2 a ha).2.1, (q2 a ha).2.2⟩, q3, fun k hk => ⟨(HI4.out k hk).1, Nat.lt_of_lt_of_le (HI4.out k hk).2 q5.size⟩, HI5.out.trans (q5.sub fun k hk => hk.elim .inl fun h => .inr (by omega))⟩, ?_⟩
      refine OverG.Kept.but q5.size (fun k hk hne => q5.block k hk fun h => h.elim hne fun h => by omega) HND.out fun h => by have := (HI4.out _ h).1; have := HD.out; omega
    case stop2 =>
      rintro M2 c2 pre2 W2 hpre hi2
      exact hi2.elim
  case done =>
    rintro D' M W hMD hDw ⟨A', c', h1, h2, h3, h4, h5⟩ hK
    simp only [World.size_alloc] at hDw
    have HI := Lib.hid h1
    have HM := Lib.hid h5
    have hD' : D ≠ D' := by omega
    have HA' := Lib.hid h2
    clear h1 h2 h3 h4 h5
    gi_wp2_with fail
    refine ⟨by simp, .inl ⟨_, _, rfl, run_takeDeferred hK, ?_⟩⟩
    have hmp : Gen.Mine (· = D') W (W.putObj D' (.deferred none)) := toGen (Over.Mine.put W _ rfl)
    refine ⟨_, results_none rfl _ _ _, ⟨_, rfl⟩, ⟨A', c', HI.out.mine hmp hD' fun a ha e => (HA'.out a ha).1 (by rw [e]; exact hMD)⟩, HM.out.trans (hmp.sub fun k hk => .inr (by omega))⟩
  case stop =>
    rintro D' c' M pre W hD' hDw hpre hi hK
    exact hi.elim
end Mo
end Go.Proofs.Ytipmphkmeiogoaa
