/- ModLaw, ModOpen, ModOne, put together. -/
import Derived.Test.YtipmphkmeiogoaaZ28
import Derived.Test.YtipmphkmeiogoaaZ5
import Derived.Deep.RegionHeld3
/- The law's own alive and few; rows of events compared; arguments that came in. -/
namespace Go.Proofs.Ytipmphkmeiogoaa
open Go.ChangeShapes Go.WideShapes Go.ChangeAt Go.RowKit Go.Shelf Tick
set_option linter.unusedVariables false
set_option maxRecDepth 8000
namespace Mo
open Gen (TellsI TellsB SaysI lies_new1)
open Jo (Jb Ev Sr evIs srcOk insOk jbC jbV srV evL Srs)
open Pan (Pl Pn Rs adds)
theorem run_neqE (e : Ev) (w : World) : (binOp .neq 45 (evV e) (evV e)).run Try.prog w = .ok (.bool false) w := Lp.run_neqEv ⟨e.key, e.at_, e.val⟩ w
set_option maxRecDepth 100000 in
set_option maxHeartbeats 600000 in
theorem rfLikeEs (xs : List Ev) (hl : xs.length ≤ 100000) (A A' : Option Addr) (c c' : Nat) (w : World) (hA : Row w A (ec xs)) (hA' : Row w A' (ec xs)) :
    Calls Try.prog 14 #[.slice A xs.length c, .slice A' xs.length c'] w (TellsB true w) := by
  have HA := Lib.hid hA
  have HA' := Lib.hid hA'
  have HL := Lib.hid hl
  clear hA hA' hl
  go_enter Try.func14, Try.ntmps14
  go_wp2_with fail
  go_loopw [13] (fun i wr => ∃ k : Nat, i = .int .i64 k ∧ k ≤ xs.length ∧ ∃ n, wr = w.drewN n) (fun i _ => xs.length - (intOf i).toNat)
  case atStart => exact ⟨0, rfl, Nat.zero_le _, 0, rfl⟩
  case round =>
    obtain ⟨k, rfl, hk, n, rfl⟩ := hrel
    by_cases hlt : k < xs.length
    · obtain ⟨x, hx⟩ : ∃ x, xs[k]? = some x := ⟨_, List.getElem?_eq_getElem hlt⟩
      obtain ⟨b, off, rfl, c0, c1, c2⟩ := Jo.row_evC HA.out hx
      obtain ⟨b', off', rfl, d0, d1, d2⟩ := Jo.row_evC HA'.out hx
      have he : ∀ w : World, (binOp .neq 45 (evV x) (evV x)).run Try.prog w = .ok (.bool false) w := fun w => run_neqE x w
      have hw := wrapM (k := k) (by have := HL.out; omega)
      clear hx
      go_wp2_with fail
      go_quiet (fail)
      go_wp2_with fail
      go_roundw
      case rel => exact ⟨k + 1, by go_num, by omega, _, rfl⟩
      case measure => simp [intOf]; omega
    · have hge : xs.length ≤ k := by omega
      go_wp2_with fail
      go_ret
      exact ⟨rfl, below_drewN (Below.refl _ _)⟩
set_option maxHeartbeats 600000 in
theorem rfCheck (j : Jb) (l : List Sr) (A : Option Addr) (c : Nat) (w : World) (h : Row w A (l.flatMap fun s => [srV s])) (hi : Srs w l) (hl : l.length ≤ 9223372036854775807) :
    Calls Try.prog 11 #[jbV j, .slice A l.length c] w (TellsI (chk j l) w) := by
  have HK := Lib.hid (fun w => Jo.rRight j w)
  have HJ := Lib.hid (fun w h hi => Jo.rInputs l A c w h hi hl)
  have HR := Lib.hid h
  have HI := Lib.hid hi
  unfold chk
  obtain ⟨r, hr⟩ : ∃ r, r = Jo.right j := ⟨_, rfl⟩
  obtain ⟨q, hq⟩ : ∃ q, q = insOk l := ⟨_, rfl⟩
  rw [← hr] at HK ⊢
  rw [← hq] at HJ ⊢
  clear h hi hr hq
  cases r
  · go_enter Try.func11, Try.ntmps11
    go_wp2_with fail
    refine (HK.out _).mono ?_
    rintro e w1 ⟨rfl, hb1⟩
    have HB := Lib.hid (below_next (below_al (o := .cells (jbC j) 23) (Below.refl w.heap.size w)) hb1)
    clear hb1
    go_wp2_with fail
    go_ret
    exact ⟨rfl, HB.out⟩
  · go_enter Try.func11, Try.ntmps11
    go_wp2_with fail
    refine (HK.out _).mono ?_
    rintro e w1 ⟨rfl, hb1⟩
    have HB := Lib.hid (below_next (below_al (o := .cells (jbC j) 23) (Below.refl w.heap.size w)) hb1)
    clear hb1
    go_wp2_with fail
    refine (HJ.out _ (HR.out.below HB.out) (HI.out.below HB.out)).mono ?_
    rintro e w2 ⟨rfl, hb2⟩
    have HB2 := Lib.hid (below_next HB.out hb2)
    clear hb2
    cases q
    all_goals
      go_wp2_with fail
      go_ret
      exact ⟨rfl, HB2.out⟩
abbrev aJ : Jb := ⟨1, 1, 1, 2, 0, 0, 0, 0⟩
abbrev aE : Ev := ⟨⟨#[97]⟩, 0, 0⟩
set_option maxRecDepth 100000 in
theorem alive_out (A : Option Addr) (c : Nat) : (runOut aJ [⟨A, c, [aE]⟩]).1.length = 1 ∧ (runOut aJ [⟨A, c, [aE]⟩]).2 = 0 ∧ (keptAll aJ [[aE]]).length ≤ 120 := by
  refine ⟨by kernel_rfl, by kernel_rfl, ?_⟩
  have h : (keptAll aJ [[aE]]).length = 1 := by kernel_rfl
  omega
set_option maxRecDepth 100000 in
set_option maxHeartbeats 600000 in
theorem lawAliveM (w : World) : Calls Try.prog 12 #[] w (TellsB true w) := by
  obtain ⟨s, hs⟩ : ∃ s : Sr, s = ⟨some ⟨w.heap.size, 0, none⟩, 1, [aE]⟩ := ⟨_, rfl⟩
  obtain ⟨o1, o2, o3⟩ := alive_out (some ⟨w.heap.size, 0, none⟩) 1
  rw [← hs] at o1 o2
  have HRUN := Lib.hid (fun w' A c h hi => mdRun aJ (by unfold Lp.inI; decide) [s] A c w' h hi (by
    intro t ht e he
    simp only [List.mem_singleton] at ht
    subst ht
    rw [hs] at he
    simp only [List.mem_singleton] at he
    subst he
    exact ⟨by unfold Lp.inI; decide, by unfold Lp.inI; decide⟩) (by intro _; rw [hs]; exact o3))
  have hro := one_rowE w aE
  have hr1 := row_one1 (w.alloc (.cells (evC aE) 45)) s
  rw [World.size_alloc] at hr1
  have hb := below_al (o := .cells #[srV s] 24) (below_al (o := .cells (evC aE) 45) (Below.refl w.heap.size w))
  have HS1 : Hid (Srs ((w.alloc (.cells (evC aE) 45)).alloc (.cells #[srV s] 24)) [s]) := Lib.hid (srs_one (by rw [hs]; exact hro.below (below_al (Below.refl _ _))) (by rw [hs]; simp))
  have HR1 := Lib.hid hr1
  have HB := Lib.hid hb
  obtain ⟨r, hr⟩ : ∃ r, r = runOut aJ [s] := ⟨_, rfl⟩
  rw [← hr] at o1 o2 HRUN
  have O1 := Lib.hid o1
  obtain ⟨rs, re⟩ := r
  simp only at o1 o2
  subst o2
  have O1 : Hid (rs.length = 1) := Lib.hid o1
  have hsv : srV s = .slice (some ⟨w.heap.size, 0, none⟩) 1 1 := by rw [hs]; rfl
  rw [hsv] at HR1 HS1 HB
  clear hr o1 o3 hro hr1 hb hs hsv
  go_enter Try.func12, Try.ntmps12
  go_wp2_with fail
  refine (HRUN.out _ _ 1 HR1.out HS1.out).mono ?_
  rintro e w1 ⟨A1, c1, rfl, q1, q2, q3, hb1⟩
  have HB1 := Lib.hid (below_next HB.out hb1)
  simp only at q1
  have hl1 : ((rs.length : Nat) : Int) = 1 := by rw [O1.out]; rfl
  clear hb1 q3 q1 q2
  go_wp2_with fail
  go_ret
  exact ⟨rfl, HB1.out⟩
end Mo
end Go.Proofs.Ytipmphkmeiogoaa
/- Arguments that came in; inputs of few events. -/
namespace Go.Proofs.Ytipmphkmeiogoaa
open Go.ChangeShapes Go.WideShapes Go.ChangeAt Go.RowKit Go.Shelf Tick
set_option linter.unusedVariables false
set_option maxRecDepth 8000
namespace Mo
open Gen (TellsI TellsB SaysI lies_new1)
open Jo (Jb Ev Sr evIs srcOk insOk jbC jbV srV evL Srs)
/-- A source that lies, whose numbers fit. -/
structure SrOk (w : World) (s : Sr) : Prop where
  row : Row w s.A (s.l.flatMap evL)
  few : s.l.length ≤ s.c
  cap : s.c ≤ maxLen
  fit : ∀ e ∈ s.l, fit e
theorem SrOk.below {w w' : World} {s : Sr} (h : SrOk w s) (hb : Below w.heap.size w w') : SrOk w' s := ⟨h.row.below hb, h.few, h.cap, h.fit⟩
theorem SrOk.len {w : World} {s : Sr} (h : SrOk w s) : s.l.length ≤ 9223372036854775807 := by have h1 := h.few; have h2 := h.cap; unfold maxLen at h2; omega
theorem srs_of {w : World} {ls : List Sr} (h : ∀ s ∈ ls, SrOk w s) : Srs w ls := fun k x hx => ⟨(h x (List.mem_of_getElem? hx)).row, (h x (List.mem_of_getElem? hx)).len⟩
section
variable {H : Type} {enc : TypeId × Value → H} {w : World} {base : Nat} {spare : Nat → Bool} {held : Bool}
theorem mtrod_ev {fuel : Nat} {c0 c1 c2 : Value} {x : DataW H × List MemPlace} (h : DataW.trod enc Try.prog w base spare held fuel 45 [c0, c1, c2] = some x) : ∃ e : Ev, [c0, c1, c2] = evL e ∧ fit e := by
  obtain ⟨xs, n, _, _, _, hlen, hg⟩ := DataW.trod_struct Try.underlying45 h
  have hl : xs.length = 3 := hlen
  match xs, hl with
  | [y0, y1, y2], _ =>
    obtain ⟨k, rfl⟩ := Jo.jone_str (x := y0) (by simpa [Jo.cells_jstr] using hg 0 _ rfl)
    obtain ⟨a, rfl, h1⟩ := Jo.jone_i64 (x := y1) (by simpa [Jo.cells_ji64] using hg 1 _ rfl)
    obtain ⟨v, rfl, h2⟩ := Jo.jone_i64 (x := y2) (by simpa [Jo.cells_ji64] using hg 2 _ rfl)
    exact ⟨⟨k, a, v⟩, rfl, h1, h2⟩
instance : Inhabited {e : Ev // fit e} := ⟨⟨⟨ByteArray.empty, 0, 0⟩, by unfold Lp.inI; decide, by unfold Lp.inI; decide⟩⟩
theorem openEvsM {v : Value} {d : DataW H} {ps : List MemPlace} {r : Reach} {b0 : Nat} (hval : Value.okWide Try.prog w r b0 24 v) (h : DataW.Trod enc Try.prog w base spare held 24 v d ps) : ∃ s : Sr, v = srV s ∧ SrOk w s := by
  obtain ⟨A, c, xs, h1, h2, h3, h4⟩ := Gen.openRow (f := fun p : {e : Ev // fit e} => evL p.1) Try.underlying24 Jo.cells_jev (by omega) (fun _ => rfl) (fun fuel cs x hl hx => by
    match cs, hl with
    | [c0, c1, c2], _ =>
      obtain ⟨t, e, ht⟩ := mtrod_ev hx
      exact ⟨⟨t, ht⟩, e⟩) hval h
  refine ⟨⟨A, c, xs.map (·.1)⟩, by rw [srV, List.length_map]; exact h1, ?_, by simpa using h2, h3, fun t ht => ?_⟩
  · simp only
    rw [List.flatMap_map]
    exact h4
  · obtain ⟨p, _, rfl⟩ := List.mem_map.1 ht
    exact p.2
theorem mopenEvsC {fuel : Nat} {c0 : Value} {x : DataW H × List MemPlace} (h : DataW.trod enc Try.prog w base spare held fuel 24 [c0] = some x) : ∃ s : Sr, [c0] = [srV s] ∧ SrOk w s := by
  obtain ⟨A, c, xs, h1, h2, h3, h4⟩ := Jo.openRowC (f := fun p : {e : Ev // fit e} => evL p.1) Try.underlying24 Jo.cells_jev (by omega) (fun _ => rfl) (fun fuel cs x hl hx => by
    match cs, hl with
    | [c0, c1, c2], _ =>
      obtain ⟨t, e, ht⟩ := mtrod_ev hx
      exact ⟨⟨t, ht⟩, e⟩) h
  refine ⟨⟨A, c, xs.map (·.1)⟩, by rw [h1, srV, List.length_map], ?_, by simpa using h2, h3, fun t ht => ?_⟩
  · simp only
    rw [List.flatMap_map]
    exact h4
  · obtain ⟨p, _, rfl⟩ := List.mem_map.1 ht
    exact p.2
instance : Inhabited {s : Sr // SrOk w s} := ⟨⟨none, 0, []⟩, .inl rfl, Nat.le_refl _, Nat.zero_le _, by simp⟩
theorem openInsM {v : Value} {d : DataW H} {ps : List MemPlace} {r : Reach} {b0 : Nat} (hval : Value.okWide Try.prog w r b0 29 v) (h : DataW.Trod enc Try.prog w base spare held 29 v d ps) :
    ∃ (A : Option Addr) (c : Nat) (l : List Sr), v = .slice A l.length c ∧ l.length ≤ c ∧ c ≤ maxLen ∧ Row w A (l.flatMap fun s => [srV s]) ∧ ∀ s ∈ l, SrOk w s := by
  obtain ⟨A, c, xs, h1, h2, h3, h4⟩ := Gen.openRow (f := fun p : {s : Sr // SrOk w s} => [srV p.1]) Try.underlying29 Jo.cells_jevs (by omega) (fun _ => rfl) (fun fuel cs x hl hx => by
    match cs, hl with
    | [c0], _ =>
      obtain ⟨s, e, hs⟩ := mopenEvsC hx
      exact ⟨⟨s, hs⟩, e⟩) hval h
  refine ⟨A, c, xs.map (·.1), by rw [List.length_map]; exact h1, by rw [List.length_map]; exact h2, h3, ?_, fun t ht => ?_⟩
  · rw [List.flatMap_map]
    exact h4
  · obtain ⟨p, _, rfl⟩ := List.mem_map.1 ht
    exact p.2
end
def cut30 (s : Sr) : Sr := if 30 < s.l.length ∧ s.l.length ≤ 200 then ⟨s.A, s.c, s.l.take 30⟩ else s
def fews (ls : List Sr) : List Sr := (ls.take 6).map cut30
theorem cut30_ok {w : World} {s : Sr} (h : SrOk w s) : SrOk w (cut30 s) := by
  unfold cut30
  split
  · rename_i hc
    exact ⟨Gen.row_take Jo.evL_len h.row 30, by have := h.few; simp only [List.length_take]; omega, h.cap, fun e he => h.fit e (List.mem_of_mem_take he)⟩
  · exact h
theorem fews_ok {w : World} {ls : List Sr} (h : ∀ s ∈ ls, SrOk w s) : ∀ s ∈ fews ls, SrOk w s := by
  intro s hs
  obtain ⟨t, ht, rfl⟩ := List.mem_map.1 hs
  exact cut30_ok (h t (List.mem_of_mem_take ht))
theorem cut30_len (s : Sr) (h : (cut30 s).l.length ≤ 200) : (cut30 s).l.length ≤ 30 := by
  unfold cut30 at h ⊢
  split
  · simp only [List.length_take]; omega
  · rename_i hc; rw [if_neg hc] at h; omega
theorem keptAll_len (j : Jb) : ∀ (ls : List Sr) (m : Nat), (∀ s ∈ ls, s.l.length ≤ m) → (keptAll j (ls.map (·.l))).length ≤ m * ls.length
  | [], _, _ => by simp [keptAll]
  | s :: ls, m, h => by
    have ih := keptAll_len j ls m fun t ht => h t (by simp [ht])
    have h1 := h s (by simp)
    have h2 := kept_len j s.l 0
    show (kept j 0 s.l ++ keptAll j (ls.map (·.l))).length ≤ _
    rw [List.length_append, List.length_cons, Nat.mul_succ]
    omega
/-- The bound of the law's inputs. -/
theorem fews_bd (j : Jb) (ls : List Sr) (h : insOk (fews ls) = true) : (keptAll j ((fews ls).map (·.l))).length ≤ 120 := by
  obtain ⟨h4, hs⟩ := insOk_all4 h
  have h1 := keptAll_len j (fews ls) 30 fun s hm => by
    have h200 := (hs s hm).1
    obtain ⟨t, ht, rfl⟩ := List.mem_map.1 hm
    exact cut30_len t h200
  omega
/-- Sources being put together. -/
structure BuiltL (w0 w : World) (v : Value) (ms : List Sr) : Prop where
  own : w.ownsRow w0.heap.size 24 1 v ms.length (ms.flatMap fun s => [srV s])
  below : Below w0.heap.size w0 w
theorem BuiltL.up {w0 a b : World} {v : Value} {ms : List Sr} (h : BuiltL w0 a v ms) (hb : Below a.heap.size a b) : BuiltL w0 b v ms := ⟨own_up h.own hb, below_next h.below hb⟩
theorem lsInfo : (Try.prog.info? 24).map (fun i => (i.zero, i.size, i.bytes)) = some (some (.slice none 0 0), 1, 24) := by kernel_rfl
theorem ls_ones (xs : List Sr) : ∀ u ∈ (xs.flatMap fun s => [srV s]), u.oneCell' = true := by
  intro u hu
  obtain ⟨p, _, hp⟩ := List.mem_flatMap.1 hu
  simp only [List.mem_cons, List.not_mem_nil, or_false] at hp
  subst hp
  rfl
theorem wpPushL {ops : Array Oper} {rest : List Oper} {o : Oper} {a : Act} {Q : Exit → Act → World → Prop} {w0 w : World} (hgd : o.guard = none) (s x : Operand)
    (ho : o.op = .call { callee := .builtin .append, args := #[s, x], argTypes := #[29, 29] }) (v : Value) (ms : List Sr) (hs : a.eval s = v) (h : BuiltL w0 w v ms)
    (A : Option Addr) (m c : Nat) (ys : List Sr) (hx : a.eval x = .slice A m c) (hr : Row w A (ys.flatMap fun s => [srV s])) (hm : m = ys.length) (hlen : ms.length + ys.length ≤ 100000)
    (hk : ∀ v' w', BuiltL w0 w' v' (ms ++ ys) → Below w0.heap.size w w' → wpList Try.prog ops Q rest (a.put o.dst v') w') :
    wpList Try.prog ops Q (o :: rest) a w := by
  subst hm
  obtain ⟨i0, hi0, hz0, hz1, hz2⟩ := info_parts lsInfo
  refine wpApp hgd s x 29 ho w0.heap.size 24 i0 _ 1 24 Try.underlying29 hi0 hz0 hz1 hz2 rfl (by omega) v ms.length _ hs h.own A ys.length c (ys.flatMap fun s => [srV s]) hx hr (Gen.flat_len (fun s => [srV s]) (fun _ => rfl) ys) (ls_ones ys) (by unfold maxLen; omega) (by omega) h.below.size ?_
  intro v' w' hown hb
  exact hk v' w' ⟨by rw [List.length_append, List.flatMap_append]; exact hown, h.below.trans hb⟩ hb
/-- Hands back a row of sources. -/
def GivesLs (ms : List Sr) (w : World) (e : Ending) (w' : World) : Prop := ∃ A c, e = .returned (.slice A ms.length c) ∧ ms.length ≤ c ∧ c ≤ maxLen ∧ Row w' A (ms.flatMap fun s => [srV s]) ∧ Below w.heap.size w w'
theorem BuiltL.gives {w0 a : World} {v : Value} {ms : List Sr} (h : BuiltL w0 a v ms) : GivesLs ms w0 (.returned v) a := by
  obtain ⟨A, c, rfl, h1, h2, _, h3, _⟩ := own_form h.own (by omega)
  exact ⟨A, c, rfl, h1, h2, h3, h.below⟩
theorem fews_push {ls : List Sr} {k : Nat} {x : Sr} (h : ls[k]? = some x) (hk : k < 6) : (ls.take (k + 1)).map cut30 = (ls.take k).map cut30 ++ [cut30 x] := by
  rw [take_push h, List.map_append]; rfl
set_option maxRecDepth 100000 in
set_option maxHeartbeats 1000000 in
theorem lawFewM (ls : List Sr) (A : Option Addr) (c : Nat) (hl : ls.length ≤ c) (hc : c ≤ maxLen) (w : World) (h : Row w A (ls.flatMap fun s => [srV s])) (hok : ∀ s ∈ ls, SrOk w s) :
    Calls Try.prog 17 #[.slice A ls.length c] w (GivesLs (fews ls) w) := by
  have HR := Lib.hid h
  have HOK := Lib.hid hok
  have HLL : Hid (ls.length ≤ 9223372036854775807) := Lib.hid (by unfold maxLen at hc; omega)
  clear h hok hl hc
  go_enter Try.func17, Try.ntmps17
  go_wp2_with fail
  go_loopw [3, 8] (fun v i wr => ∃ k : Nat, i = .int .i64 k ∧ k ≤ ls.length ∧ k ≤ 6 ∧ BuiltL w wr v ((ls.take k).map cut30)) (fun _ i _ => ls.length - (intOf i).toNat)
  case atStart => exact ⟨0, rfl, Nat.zero_le _, Nat.zero_le _, own_none, Below.refl _ _⟩
  case round =>
    obtain ⟨k, rfl, hk, hk6, hT⟩ := hrel
    have HT := Lib.hid hT
    clear hT
    by_cases hlt : k < ls.length
    · obtain ⟨x, hx⟩ : ∃ x, ls[k]? = some x := ⟨_, List.getElem?_eq_getElem hlt⟩
      obtain ⟨b, off, rfl, d0⟩ := Jo.row_sr (HR.out.below HT.out.below) hx
      simp only [srV] at d0
      have hw := wrapM (k := k) (by omega)
      by_cases h6 : k < 6
      · have HP := Lib.hid (fews_push hx h6)
        have hxo := HOK.out x (List.mem_of_getElem? hx)
        have HX := Lib.hid hxo
        have hcap := hxo.few
        have HML : Hid (((ls.take k).map cut30).length ≤ 6) := Lib.hid (by rw [List.length_map, List.length_take]; omega)
        obtain ⟨ms, hms⟩ : ∃ ms, ms = (ls.take k).map cut30 := ⟨_, rfl⟩
        rw [← hms] at HP HT HML
        have g6 : ¬ (6 : Int) ≤ k := by omega
        obtain ⟨XA, xc, xl⟩ := x
        simp only at hcap d0
        clear hx hms hxo hk6
        have hway : ¬ 30 < xl.length ∨ (30 < xl.length ∧ ¬ xl.length ≤ 200) ∨ (30 < xl.length ∧ xl.length ≤ 200) := by omega
        rcases hway with h1 | ⟨h1, h2⟩ | ⟨h1, h2⟩
        · have HC : Hid (cut30 ⟨XA, xc, xl⟩ = ⟨XA, xc, xl⟩) := Lib.hid (by unfold cut30; rw [if_neg (by simp only; omega)])
          have e1 : ¬ (30 : Int) < xl.length := by omega
          go_wp2_with (at_builtin; refine hold_mk ?_)
          refine hold_out ?_
          have hro := row_one1 wr ⟨XA, xc, xl⟩
          refine wpPushL rfl _ _ rfl u3 ms rfl (HT.out.up (below_al (o := .cells #[srV ⟨XA, xc, xl⟩] 24) (Below.refl _ _))) _ 1 1 [⟨XA, xc, xl⟩] rfl hro rfl (by have := HML.out; simp; omega) ?_
          intro v9 w9 bt9 hb9
          have HB9 := Lib.hid bt9
          clear bt9 hb9 hro
          go_wp2_with fail
          go_roundw
          case rel => exact ⟨k + 1, rfl, by omega, by omega, by rw [HP.out, HC.out]; exact HB9.out⟩
          case measure => simp [intOf]; omega
        · have HC : Hid (cut30 ⟨XA, xc, xl⟩ = ⟨XA, xc, xl⟩) := Lib.hid (by unfold cut30; rw [if_neg (by simp only; omega)])
          have e1 : (30 : Int) < xl.length := by omega
          have e2 : ¬ (xl.length : Int) ≤ 200 := by omega
          go_wp2_with (at_builtin; refine hold_mk ?_)
          refine hold_out ?_
          have hro := row_one1 wr ⟨XA, xc, xl⟩
          refine wpPushL rfl _ _ rfl u3 ms rfl (HT.out.up (below_al (o := .cells #[srV ⟨XA, xc, xl⟩] 24) (Below.refl _ _))) _ 1 1 [⟨XA, xc, xl⟩] rfl hro rfl (by have := HML.out; simp; omega) ?_
          intro v9 w9 bt9 hb9
          have HB9 := Lib.hid bt9
          clear bt9 hb9 hro
          go_wp2_with fail
          go_roundw
          case rel => exact ⟨k + 1, rfl, by omega, by omega, by rw [HP.out, HC.out]; exact HB9.out⟩
          case measure => simp [intOf]; omega
        · have HC : Hid (cut30 ⟨XA, xc, xl⟩ = ⟨XA, xc, xl.take 30⟩) := Lib.hid (by unfold cut30; rw [if_pos ⟨h1, h2⟩])
          have e1 : (30 : Int) < xl.length := by omega
          have e2 : (xl.length : Int) ≤ 200 := by omega
          have e3 : (30 : Int) ≤ xc := by omega
          have e4 : 30 ≤ xc := by omega
          have HL30 : Hid ((xl.take 30).length = 30) := Lib.hid (by rw [List.length_take]; omega)
          obtain ⟨y, hy⟩ : ∃ y, xl[0]? = some y := ⟨_, List.getElem?_eq_getElem (by omega)⟩
          obtain ⟨b2, off2, rfl, _⟩ := Jo.row_evC HX.out.row hy
          clear hy
          go_wp2_with (at_builtin; refine hold_mk ?_)
          refine hold_out ?_
          have hro := row_one1 wr ⟨some ⟨b2, off2, none⟩, xc, xl.take 30⟩
          simp only [srV, HL30.out] at hro
          refine wpPushL rfl _ _ rfl u3 ms rfl (HT.out.up (below_al (o := .cells #[.slice (some ⟨b2, off2, none⟩) 30 xc] 24) (Below.refl _ _))) _ 1 1 [⟨some ⟨b2, off2, none⟩, xc, xl.take 30⟩] rfl (by simp only [srV]; exact hro) rfl (by have := HML.out; simp; omega) ?_
          intro v9 w9 bt9 hb9
          have HB9 := Lib.hid bt9
          clear bt9 hb9 hro
          go_wp2_with fail
          go_roundw
          case rel => exact ⟨k + 1, rfl, by omega, by omega, by rw [HP.out, HC.out]; exact HB9.out⟩
          case measure => simp [intOf]; omega
      · have hk66 : k = 6 := by omega
        have HE : Hid ((ls.take k).map cut30 = fews ls) := Lib.hid (by rw [hk66]; rfl)
        have g6 : (6 : Int) ≤ k := by omega
        clear hx hk66
        go_wp2_with fail
        go_ret
        have := HT.out.gives
        rwa [HE.out] at this
    · have HE : Hid ((ls.take k).map cut30 = fews ls) := Lib.hid (by unfold fews; rw [List.take_of_length_le (by omega), List.take_of_length_le (by omega)])
      go_wp2_with fail
      go_ret
      have := HT.out.gives
      rwa [HE.out] at this
end Mo
end Go.Proofs.Ytipmphkmeiogoaa
/- One source: what the code and the reference answer, as contracts; a region over a job's box. -/
namespace Go.Proofs.Ytipmphkmeiogoaa
open Go.ChangeShapes Go.WideShapes Go.ChangeAt Go.RowKit Go.Shelf Tick
set_option linter.unusedVariables false
set_option maxRecDepth 8000
namespace Mo
open Gen (TellsI TellsB SaysI lies_new1)
open Jo (Jb Ev Sr evIs srcOk insOk jbC jbV srV evL Srs)
open Pan (Pl Pn Rs adds)
/-- All that is asked of one source, n its length as it stands in the slice. -/
structure One (j : Jb) (s : Sr) (n : Nat) (w0 : World) : Prop where
  kept : ∀ w', Below w0.heap.size w0 w' → Calls Try.prog 10 #[jbV j, .slice s.A n s.c] w' (GivesE (keptOut j s) w')
  mark : ∀ w', Below w0.heap.size w0 w' → Calls Try.prog 13 #[jbV j, .slice s.A n s.c] w' (TellsI (markOut j s) w')
  len : n = s.l.length
  ok : SrOk w0 s
theorem one_of {j : Jb} {s : Sr} {n : Nat} {w0 : World} (hlim : Lp.inI j.limit) (h : SrOk w0 s) (hn : n = s.l.length) : One j s n w0 := by
  subst hn
  exact ⟨fun w' hb => mdKeptFn j hlim s h.fit h.len w' (h.row.below hb), fun w' hb => mdMark j s h.len w' (h.row.below hb), rfl, h⟩
/-- Of the reference. -/
structure OneR (j : Jb) (s : Sr) (n : Nat) (w0 : World) : Prop where
  check : ∀ w' b, Below w0.heap.size w0 w' → Row w' (some ⟨b, 0, none⟩) [.slice s.A n s.c] → Calls Try.prog 11 #[jbV j, .slice (some ⟨b, 0, none⟩) 1 1] w' (TellsI (chk j [s]) w')
  kept : s.l.length ≤ 1000 → ∀ w', Below w0.heap.size w0 w' → Calls Try.prog 15 #[jbV j, .slice s.A n s.c] w' (GivesEs (kept j 0 s.l) w')
  mark : s.l.length ≤ 1000 → ∀ w', Below w0.heap.size w0 w' → Calls Try.prog 16 #[jbV j, .slice s.A n s.c, .int .i64 (n : Int)] w' (TellsI (markOf j 0 s.l) w')
theorem oneR_of {j : Jb} {s : Sr} {n : Nat} {w0 : World} (hlim : Lp.inI j.limit) (h : SrOk w0 s) (hn : n = s.l.length) : OneR j s n w0 := by
  subst hn
  refine ⟨fun w' b hb hr => rfCheck j [s] _ 1 w' hr (srs_one (h.row.below hb) h.len) (by simp), fun hl w' hb => rfKept j hlim s.l h.fit s.A s.c hl w' (h.row.below hb), fun hl w' hb => ?_⟩
  have := rfMarkN j s.l s.A s.c s.l.length (Nat.le_refl _) (by omega) w' (h.row.below hb)
  rwa [List.take_length] at this
theorem keptOut_ok {j : Jb} {s : Sr} (h : chk j [s] = 0) : keptOut j s = (kept j 0 s.l, 0) := if_pos h
theorem keptOut_not {j : Jb} {s : Sr} (h : chk j [s] ≠ 0) : keptOut j s = ([], chk j [s]) := if_neg h
theorem markOut_ok {j : Jb} {s : Sr} (h : chk j [s] = 0) : markOut j s = markOf j 0 s.l := if_pos h
theorem markOut_not {j : Jb} {s : Sr} (h : chk j [s] ≠ 0) : markOut j s = 0 := if_neg h
theorem row_new1 (w : World) (v : Value) : Row (w.alloc (.cells #[v] 24)) (some ⟨w.heap.size, 0, none⟩) [v] := by
  refine .inr ⟨w.heap.size, 0, rfl, fun j u hu => ?_⟩
  rw [Nat.zero_add]
  exact (Lies.new w #[v] 24).cell (by simpa using hu)
theorem below9 {c0 c1 c2 c3 c4 c5 c6 c7 B : Prop} (h : c0 ∧ c1 ∧ c2 ∧ c3 ∧ c4 ∧ c5 ∧ c6 ∧ c7 ∧ B) : B := h.2.2.2.2.2.2.2.2
theorem keep9 {jb : Nat} {j : Jb} {w1 a b : World} (hb : Below a.heap.size a b) (h : a.cell? ⟨jb, 0, none⟩ = some (.int .i64 j.groups) ∧ a.cell? ⟨jb, 1, none⟩ = some (.int .i64 j.size) ∧ a.cell? ⟨jb, 2, none⟩ = some (.int .i64 j.slide) ∧ a.cell? ⟨jb, 3, none⟩ = some (.int .i64 j.fold) ∧ a.cell? ⟨jb, 4, none⟩ = some (.int .i64 j.fuel) ∧ a.cell? ⟨jb, 5, none⟩ = some (.int .i64 j.limit) ∧ a.cell? ⟨jb, 6, none⟩ = some (.int .i64 j.delay) ∧ a.cell? ⟨jb, 7, none⟩ = some (.int .i64 j.idle) ∧ Below w1.heap.size w1 a) : b.cell? ⟨jb, 0, none⟩ = some (.int .i64 j.groups) ∧ b.cell? ⟨jb, 1, none⟩ = some (.int .i64 j.size) ∧ b.cell? ⟨jb, 2, none⟩ = some (.int .i64 j.slide) ∧ b.cell? ⟨jb, 3, none⟩ = some (.int .i64 j.fold) ∧ b.cell? ⟨jb, 4, none⟩ = some (.int .i64 j.fuel) ∧ b.cell? ⟨jb, 5, none⟩ = some (.int .i64 j.limit) ∧ b.cell? ⟨jb, 6, none⟩ = some (.int .i64 j.delay) ∧ b.cell? ⟨jb, 7, none⟩ = some (.int .i64 j.idle) ∧ Below w1.heap.size w1 b := by
  obtain ⟨h0, h1, h2, h3, h4, h5, h6, h7, h8⟩ := h
  exact ⟨cell_below h0 hb, cell_below h1 hb, cell_below h2 hb, cell_below h3 hb, cell_below h4 hb, cell_below h5 hb, cell_below h6 hb, cell_below h7 hb, below_next h8 hb⟩
theorem start9 {jb : Nat} {j : Jb} {w1 : World} (h : Lies jb (jbC j) 23 w1) : w1.drew.cell? ⟨jb, 0, none⟩ = some (.int .i64 j.groups) ∧ w1.drew.cell? ⟨jb, 1, none⟩ = some (.int .i64 j.size) ∧ w1.drew.cell? ⟨jb, 2, none⟩ = some (.int .i64 j.slide) ∧ w1.drew.cell? ⟨jb, 3, none⟩ = some (.int .i64 j.fold) ∧ w1.drew.cell? ⟨jb, 4, none⟩ = some (.int .i64 j.fuel) ∧ w1.drew.cell? ⟨jb, 5, none⟩ = some (.int .i64 j.limit) ∧ w1.drew.cell? ⟨jb, 6, none⟩ = some (.int .i64 j.delay) ∧ w1.drew.cell? ⟨jb, 7, none⟩ = some (.int .i64 j.idle) ∧ Below w1.heap.size w1 w1.drew :=
  ⟨h.cell (j := 0) rfl, h.cell (j := 1) rfl, h.cell (j := 2) rfl, h.cell (j := 3) rfl, h.cell (j := 4) rfl, h.cell (j := 5) rfl, h.cell (j := 6) rfl, h.cell (j := 7) rfl, below_drewOf (Below.refl _ _)⟩
end Mo
end Go.Proofs.Ytipmphkmeiogoaa
