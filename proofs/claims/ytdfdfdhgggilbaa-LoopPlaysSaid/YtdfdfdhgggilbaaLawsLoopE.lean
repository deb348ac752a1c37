/- The walk of the law LoopPlays. -/
import Derived.Test.YtdfdfdhgggilbaaLoopRow
import Derived.Test.YtdfdfdhgggilbaaLawsLoopA
import Derived.Test.YtdfdfdhgggilbaaHold
import Derived.Deep.CutRange
namespace Go.Proofs.Ytdfdfdhgggilbaa
open Go.ChangeShapes Go.WideShapes Go.ChangeAt Go.RowKit
set_option linter.unusedVariables false
set_option maxRecDepth 100000
namespace Lp
open Gen
theorem que_len {w : World} {b : Nat} {L : Int} {F : Nat} {l : List Tr} (h : Que w b L F l) : l.length ≤ 16 := by
  obtain ⟨_, _, _, h4, _⟩ := h
  have := h4.len
  have := h4.few
  omega
def boL (b : Bool) : List Value := [.bool b]
theorem boL_len (b : Bool) : (boL b).length = 1 := rfl
theorem lcells_bool : Try.prog.cellsOf 4 = 1 := by kernel_rfl
section
variable {H : Type} {enc : TypeId × Value → H} {w : World} {base : Nat} {spare : Nat → Bool} {held : Bool}
theorem openBools {v : Value} {d : DataW H} {ps : List MemPlace} {r : Reach} {b0 : Nat} (hval : Value.okWide Try.prog w r b0 29 v) (h : DataW.Trod enc Try.prog w base spare held 29 v d ps) :
    ∃ (A : Option Addr) (c : Nat) (l : List Bool), v = .slice A l.length c ∧ l.length ≤ c ∧ c ≤ maxLen ∧ Row w A (l.flatMap boL) :=
  openRow (f := boL) Try.underlying29 lcells_bool (by omega) boL_len (fun fuel cs x hl hx => by
    match cs, hl with
    | [c0], _ =>
      obtain ⟨z, h1, _⟩ := DataW.trod_bool Try.underlying4 hx
      exact ⟨z, by simpa [boL] using h1⟩) hval h
end
theorem row_bo {w : World} {A : Option Addr} {l : List Bool} (h : Row w A (l.flatMap boL)) {k : Nat} {x : Bool} (hk : l[k]? = some x) : ∃ b off, A = some ⟨b, off, none⟩ ∧ w.cell? ⟨b, off + k, none⟩ = some (.bool x) := by
  obtain ⟨b, off, rfl, g⟩ := row_one boL_len (by omega) h hk
  exact ⟨b, off, rfl, by have := g 0 _ rfl; simpa using this⟩
/-- A Step of the row, whatever it holds. -/
theorem rfStep (B : Nat) (M : Nat → Prop) (rb : Nat) (q : List Tr) (l f : Int) (w : World) (H : RowQ B M w rb q) (hv : ∀ t ∈ q, inI t.ev.val) (hl : inI l) (hn : ∀ t ∈ q, t.n ≤ 1000) (hr : q.length ≤ 1000) (hB : B ≤ w.heap.size) :
    Calls Try.prog 16 #[.pointer (some ⟨rb, 0, none⟩), .int .i64 l, .int .i64 f] w fun r w' =>
      r = .returned (.tuple #[evV (evOf (step (limOf l) (fuelOf f) q).2), .bool (step (limOf l) (fuelOf f) q).2.isSome]) ∧ ∃ M', RowQ B M' w' rb (step (limOf l) (fuelOf f) q).1 ∧ Mine M w w' ∧ ∀ k, M' k → M k ∨ w.heap.size ≤ k := by
  have key : Calls Try.prog 16 #[.pointer (some ⟨rb, 0, none⟩), .int .i64 l, .int .i64 f] w (RowPost (limOf l) (fuelOf f) B M rb q w) := by
    cases q with
    | nil => exact rfStepNo _ _ B M rb l f w H
    | cons t r => exact rfStepOk B M rb t r l f w H (hv t (by simp)) hl (hn t (by simp)) (by rw [List.length_cons] at hr; omega) hB
  refine key.mono ?_
  rintro r w' ⟨o, l', hs, rfl, h⟩
  rw [hs]
  refine ⟨?_, h⟩
  cases o <;> rfl
theorem step_n {L : Int} {F : Nat} (hF : F ≤ 40) {q : List Tr} (h : ∀ t ∈ q, t.n ≤ 40) : ∀ t ∈ (step L F q).1, t.n ≤ 40 := by
  cases q with
  | nil => exact h
  | cons t r =>
    cases hq : leaves L F t
    · rw [step_on hq]
      intro u hu
      rcases List.mem_append.1 hu with h1 | h1
      · exact h u (by simp [h1])
      · rw [List.mem_singleton.1 h1]
        have := leaves_lt hq
        show t.n + 1 ≤ 40
        omega
    · rw [step_out hq]
      exact fun u hu => h u (by simp [hu])
/-- A queue and a row of the call's own. -/
structure QR (w0 : World) (b rb : Nat) (M : Nat → Prop) (L : Int) (F : Nat) (q p : List Tr) (w : World) : Prop where
  que : Que w b L F q
  row : RowQ w0.heap.size M w rb p
  ne : ¬ M b
  newb : w0.heap.size ≤ b
  below : Below w0.heap.size w0 w
theorem QR.up {w0 w w' : World} {b rb : Nat} {M : Nat → Prop} {L : Int} {F : Nat} {q p : List Tr} (h : QR w0 b rb M L F q p w) (hb : Below w.heap.size w w') : QR w0 b rb M L F q p w' :=
  ⟨h.que.below hb, h.row.below hb, h.ne, h.newb, below_next h.below hb⟩
theorem QR.turnQ {w0 w w' : World} {b rb : Nat} {M : Nat → Prop} {L : Int} {F : Nat} {q q' p : List Tr} (h : QR w0 b rb M L F q p w) (hq : Que w' b L F q') (hm : Mine (· = b) w w') : QR w0 b rb M L F q' p w' :=
  ⟨hq, h.row.mine hm (fun k hk e => h.ne (e ▸ hk)), h.ne, h.newb, Mine.below h.below hm (fun k hk => by rw [hk]; exact h.newb) h.below.size⟩
theorem QR.turnR {w0 w w' : World} {b rb : Nat} {M M' : Nat → Prop} {L : Int} {F : Nat} {q p p' : List Tr} (h : QR w0 b rb M L F q p w) (hr : RowQ w0.heap.size M' w' rb p') (hm : Mine M w w') (hM : ∀ k, M' k → M k ∨ w.heap.size ≤ k) : QR w0 b rb M' L F q p' w' :=
  ⟨h.que.mine hm h.ne, hr, fun hb => (hM b hb).elim h.ne fun h2 => by have := h.que.lt; omega, h.newb, Mine.below h.below hm h.row.base h.below.size⟩
theorem zeroRow (u : World) : (zeroValue 35).run Try.prog u = .ok (.agg #[.slice none 0 0, .slice none 0 0]) u := by kernel_rfl
theorem row_new (w0 w : World) (h : w0.heap.size ≤ w.heap.size) : RowQ w0.heap.size (· = w.heap.size) (w.alloc (.cells #[.slice none 0 0, .slice none 0 0] 35)) w.heap.size [] :=
  ⟨.slice none 0 0, .slice none 0 0, rfl, (fun k hk => by subst hk; simp), (fun k hk => by subst hk; exact h), Lies.new w _ _, tail_nil, tail_nil, (fun k hk => by cases hk), (fun k hk => by cases hk)⟩
set_option maxHeartbeats 8000000 in
theorem walkLoopPlays (l f : Int) (xs : List Ev) (A : Option Addr) (c : Nat) (ss : List Bool) (D : Option Addr) (d : Nat) (w : World) (hA : Row w A (xs.flatMap evL)) (hl : xs.length ≤ c) (hc : c ≤ 9223372036854775807) (hok : ∀ e ∈ xs, evOk e)
    (hD : Row w D (ss.flatMap boL)) (hd : ss.length ≤ d) (hd2 : d ≤ 9223372036854775807) (hli : inI l) :
    Calls Try.prog 4 #[.int .i64 l, .int .i64 f, .slice A xs.length c, .slice D ss.length d] w (TellsB true w) := by
  obtain ⟨L, hL⟩ : ∃ L, L = limOf l := ⟨_, rfl⟩
  obtain ⟨F, hF⟩ : ∃ F, F = fuelOf f := ⟨_, rfl⟩
  have hF40 : F ≤ 40 := by rw [hF]; exact fuelOf_le f
  have hLi := limOf_in hli
  rw [← hL] at hLi
  have HNEW := Lib.hid (fun w => lpNew l f hli w)
  have HRS := Lib.hid (fun (B : Nat) (M : Nat → Prop) (rb : Nat) (q : List Tr) (w : World) H hv hn hr hB => rfStep B M rb q l f w H hv hli hn hr hB)
  rw [← hL, ← hF] at HNEW HRS
  have HA := Lib.hid hA
  have HD := Lib.hid hD
  have HOK := Lib.hid hok
  have HLI := Lib.hid hLi
  have HF40 := Lib.hid hF40
  obtain ⟨i0, hi0, hz0, hz1, hz2⟩ := info3 evI0
  have HI0 := Lib.hid hi0; have HZ0 := Lib.hid hz0; have HZ1 := Lib.hid hz1; have HZ2 := Lib.hid hz2
  obtain ⟨i1, hj0, hy0, hy1, hy2⟩ := info3 intI0
  have HJ0 := Lib.hid hj0; have HY0 := Lib.hid hy0; have HY1 := Lib.hid hy1; have HY2 := Lib.hid hy2
  clear hi0 hz0 hz1 hz2 hj0 hy0 hy1 hy2
  obtain ⟨na, hna⟩ : ∃ n, n = xs.length := ⟨_, rfl⟩
  obtain ⟨nd, hnd⟩ : ∃ n, n = ss.length := ⟨_, rfl⟩
  rw [← hna] at hl ⊢
  rw [← hnd] at hd ⊢
  have HNA := Lib.hid hna
  have HND := Lib.hid hnd
  clear hA hD hok hLi hF40 hL hF hli hna hnd
  have hzr := zeroRow
  go_enter Try.func4, Try.ntmps4
  go_wp2_with fail
  refine (HNEW.out _).mono ?_
  rintro e w1 ⟨b, rfl, hb, hq, hbl⟩
  have Q0 : Hid (QR w b w1.heap.size (· = w1.heap.size) L F [] [] (w1.alloc (.cells #[.slice none 0 0, .slice none 0 0] 35))) := Lib.hid ⟨hq.below (below_al (Below.refl _ _)), row_new w w1 hbl.size, by have := hq.lt; intro e; omega, hb, below_al hbl⟩
  obtain ⟨rb, hrb⟩ : ∃ rb, rb = w1.heap.size := ⟨_, rfl⟩
  clear hq hbl hb
  go_wp2_with fail
  rw [← hrb] at Q0 ⊢
  clear hrb
  go_loopw [31, 11] (fun s31 s11 wr => ∃ (i k : Nat) (M : Nat → Prop) (q : List Tr), s31 = .int .i64 i ∧ s11 = .int .i64 k ∧ i ≤ nd ∧ k ≤ na ∧ QR w b rb M L F q q wr ∧ (∀ t ∈ q, inI t.ev.val) ∧ ∀ t ∈ q, t.n ≤ 40) (fun s31 _ _ => nd - (intOf s31).toNat)
  case atStart => exact ⟨0, 0, _, [], rfl, rfl, by omega, by omega, Q0.out, by simp, by simp⟩
  case round =>
    clear Q0
    obtain ⟨i, k, M, q, rfl, rfl, hi, hk, hp, hv, hn⟩ := hrel
    have HP := Lib.hid hp
    have HV := Lib.hid hv
    have HN := Lib.hid hn
    clear hp hv hn
    by_cases hlt : i < nd
    · obtain ⟨x, hx⟩ : ∃ x, ss[i]? = some x := ⟨_, List.getElem?_eq_getElem (by rw [← HND.out]; exact hlt)⟩
      obtain ⟨db, do_, rfl, dc⟩ := row_bo (HD.out.below HP.out.below) hx
      clear hx
      by_cases h300 : i < 300
      · have h3 : (i : Int) < 300 := by omega
        have hi9 : i < 1000 := by omega
        by_cases hput : x = true ∧ k < na
        · obtain ⟨rfl, hka⟩ := hput
          obtain ⟨e, hx⟩ : ∃ e, xs[k]? = some e := ⟨_, List.getElem?_eq_getElem (by rw [← HNA.out]; exact hka)⟩
          obtain ⟨bb, off, rfl, c0, c1, c2⟩ := row_evL (HA.out.below HP.out.below) hx
          have HE := Lib.hid (HOK.out e (List.mem_of_getElem? hx))
          obtain ⟨n, hn⟩ : ∃ n, n = q.length := ⟨_, rfl⟩
          obtain ⟨v1, v2, h⟩ := HP.out.row
          rw [← hn] at h
          obtain ⟨A1, k1, rfl, _, _⟩ := tail_slice h.o1
          have r0 := h.lies.cell (j := 0) rfl
          have r1 := h.lies.free 0
          have HH := Lib.hid h
          have hqf := que_len HP.out.que
          have ltr : rb < wr.heap.size := lt_of_block h.lies
          have ltb : bb < wr.heap.size := lt_of_cell c0
          have HNQ := Lib.hid hn
          rw [← hn] at hqf
          have HEV : Hid (∀ w', Below w.heap.size w w' → EvAt w' bb (off + k * 3) e) := Lib.hid (fun w' hb => by
            obtain ⟨b2, o2, he, g⟩ := row_evL (HA.out.below hb) hx
            cases he
            exact g)
          clear h hx hn
          by_cases hfull : n < 16
          · have hnn : q.length < 16 := by rw [← HNQ.out]; exact hfull
            have HLQ := Lib.hid hnn
            have hBr : w.heap.size ≤ wr.heap.size := HP.out.below.size
            clear hnn
            go_upto_region 14 with fail
            go_cut [63] from 51 to 63 (fun s63 wc => s63 = .pointer (some ⟨rb, 0, none⟩) ∧ ∃ (M1 : Nat → Prop) (A5 : Option Addr) (c5 : Nat), RowS w.heap.size M1 wc rb (.slice A5 (n + 1) c5) (n + 1) (evs q ++ evL e) v2 n (ns q) ∧ Mine M wr wc ∧ ∀ k, M1 k → M k ∨ wr.heap.size ≤ k)
            case first =>
              go_region_law (refine step_append_tail rfl (.tmp 55) (.tmp 60) 28 rfl w.heap.size 23 i0 _ 3 32 Try.underlying28 HI0.out HZ0.out HZ1.out HZ2.out rfl (by omega) (.slice A1 n k1) n (evs q) (by simp [Act.eval]) (tail_block HH.out.o1 fun k _ hk => Below.heap_alloc wr.drew _ k hk) ⟨wr.drew.heap.size, 0, none⟩ 1 1 (evL e) (by simp [Act.eval]) rfl (cell_newE wr.drew e _) (evL_ones _) (by unfold maxLen; omega) (by omega) (by simp; omega) ?_; intro v1' w5 ho5 hg5 hl5; obtain ⟨A5, c5, rfl, _, _⟩ := tail_slice ho5; obtain ⟨l5, M1, S1, m1, s1⟩ := RowS.push1 (HH.out.below ((below_drewOf (Below.refl _ _)).alloc (Nat.le_refl _) _)) ho5 hg5 hl5 (by simp; omega); have S1 := Lib.hid S1; have m1 := Lib.hid m1; have s1 := Lib.hid s1; have x0 := l5.cell (j := 0) rfl; have x1 := l5.free 0; clear ho5 hg5 hl5 l5)
              all_goals (
                go_wp2_with fail
                go_meet
                case rel => exact ⟨rfl, M1, A5, c5, S1.out, ((Mine.drew M wr).trans (Mine.alloc M _ _)).trans m1.out, fun k hk => (s1.out k hk).imp id fun h => by simp at h; omega⟩)
            case rest =>
              obtain ⟨rfl, M1, A5, c5, S1, m1, s1⟩ := hcut
              have S1 := Lib.hid S1
              have m1 := Lib.hid m1
              have s1 := Lib.hid s1
              obtain ⟨A8, c8, rfl, _, _⟩ := tail_slice S1.out.o2
              have x0 := S1.out.lies.cell (j := 1) rfl
              have x1 := S1.out.lies.free 1
              have ltc : rb < wc.heap.size := lt_of_block S1.out.lies
              have hsz := m1.out.size
              have hBc : w.heap.size ≤ wc.heap.size := by omega
              clear r0 r1 c0 c1 c2
              go_wp2_with (at_builtin; refine hold_mk ?_)
              refine hold_out ?_
              refine wpList_append_tail rfl (.tmp 68) (.tmp 69) 33 rfl w.heap.size 3 i1 _ 1 8 Try.underlying33 HJ0.out HY0.out HY1.out HY2.out rfl (by omega) (.slice A8 n c8) n (ns q) rfl (tail_below S1.out.o2 (below_al (Below.refl _ _))) ⟨wc.heap.size, 0, none⟩ 1 1 [.int .i64 0] rfl rfl (cell_one_new _ _ _) (int_ones _) (by unfold maxLen; omega) (by omega) (by simp; omega) ?_
              intro v7 w7 ho7 hg7 hl7
              obtain ⟨A7, c7, rfl, _, _⟩ := tail_slice ho7
              obtain ⟨l7, M2, S2, m2, s2⟩ := RowS.push2 (S1.out.below (below_al (Below.refl _ _))) ho7 hg7 hl7 (by simp; omega)
              have y0 := l7.cell (j := 1) rfl
              have y1 := l7.free 1
              have hb7 : Below w.heap.size w w7 := Mine.below (below_al (Mine.below HP.out.below m1.out HP.out.row.base HP.out.below.size)) (Mine.grown hg7 fun k hk => S1.out.m2 k hk) S1.out.base (by simp; omega)
              obtain ⟨c0, c1, c2⟩ := HEV.out _ hb7
              have hbw : bb < w.heap.size := lt_of_cell (HEV.out _ (Below.refl _ _)).c0
              have hrw : w.heap.size ≤ rb := HH.out.base _ HH.out.own
              have hq1 : RowQ w.heap.size M2 (w7.setCell ⟨rb, 1, none⟩ (.slice A7 (n + 1) c7)) rb (q ++ [⟨e, 0⟩]) := by
                refine ⟨.slice A5 (n + 1) c5, .slice A7 (n + 1) c7, ?_⟩
                rw [List.length_append, List.length_singleton, ← HNQ.out, evs_push, ns_push]
                exact S2
              have P3 := Lib.hid (HP.out.turnR hq1 (m1.out.next s1.out ((Mine.alloc M1 wc _).trans m2)) (fun k hk => (s2 k hk).elim (fun h => s1.out k h) fun h => .inr (by simp at h; omega)))
              clear ho7 hg7 hl7 l7 hb7 hq1 S2 m2 s2
              go_wp2_with fail
              refine (lpPut b L F q e _ P3.out.que HLQ.out).mono ?_
              rintro e1 w8 ⟨rfl, z1, z2⟩
              have P4 := Lib.hid (P3.out.turnQ z1 z2)
              clear z1 z2
              go_wp2_with fail
              go_roundw
              case rel =>
                refine ⟨i + 1, k + 1, M2, q ++ [⟨e, 0⟩], by go_num, by go_num, by omega, by omega, P4.out, fun t ht => ?_, fun t ht => ?_⟩
                · rcases List.mem_append.1 ht with h1 | h1
                  · exact HV.out t h1
                  · rw [List.mem_singleton.1 h1]; exact HE.out.2.1
                · rcases List.mem_append.1 ht with h1 | h1
                  · exact HN.out t h1
                  · rw [List.mem_singleton.1 h1]; exact Nat.zero_le _
              case measure => simp [intOf]; omega
          · have hn16 : n = 16 := by omega
            have HF := Lib.hid (lpPutFull b L F q e wr HP.out.que (by rw [← HNQ.out]; exact hn16))
            subst hn16
            clear hfull hqf
            go_wp2_with fail
            refine HF.out.mono ?_
            rintro e1 w2 ⟨rfl, hb2⟩
            have P2 := Lib.hid (HP.out.up hb2)
            clear hb2
            go_wp2_with fail
            go_roundw
            case rel => exact ⟨i + 1, k + 1, M, q, by go_num, by go_num, by omega, by omega, P2.out, HV.out, HN.out⟩
            case measure => simp [intOf]; omega
        · have HQS := Lib.hid (lpStep b L F q wr HP.out.que HV.out HLI.out HF40.out)
          have hn1 : ∀ t ∈ q, t.n ≤ 1000 := fun t ht => by have := HN.out t ht; omega
          have HSI := Lib.hid (step_in (L := L) (F := F) HV.out)
          have HSN := Lib.hid (step_n (L := L) HF40.out HN.out)
          have HN1 := Lib.hid hn1
          have HQF := Lib.hid (que_len HP.out.que)
          clear hn1
          obtain ⟨ev, hev⟩ : ∃ e, e = evOf (step L F q).2 := ⟨_, rfl⟩
          obtain ⟨bo, hbo⟩ : ∃ b, b = (step L F q).2.isSome := ⟨_, rfl⟩
          obtain ⟨q2, hq2⟩ : ∃ p, p = (step L F q).1 := ⟨_, rfl⟩
          have HR2 : Hid (∀ w2, QR w b rb M L F q2 q w2 → Calls Try.prog 16 #[.pointer (some ⟨rb, 0, none⟩), .int .i64 l, .int .i64 f] w2 fun r w' => r = .returned (.tuple #[evV ev, .bool bo]) ∧ ∃ M', RowQ w.heap.size M' w' rb q2 ∧ Mine M w2 w' ∧ ∀ k, M' k → M k ∨ w2.heap.size ≤ k) :=
            Lib.hid (fun w2 h2 => by
              have := HRS.out w.heap.size M rb q w2 h2.row HV.out HN1.out (by have := HQF.out; omega) h2.below.size
              rw [← hev, ← hbo, ← hq2] at this
              exact this)
          unfold StepPost at HQS
          rw [← hev, ← hbo, ← hq2] at HQS
          rw [← hq2] at HSI HSN
          clear hev hbo hq2
          have hway : x = false ∨ x = true ∧ ¬ k < na := by
            cases x
            · exact .inl rfl
            · exact .inr ⟨rfl, fun h => hput ⟨rfl, h⟩⟩
          clear hput
          have hse : ∀ w, (binOp .neq 23 (evV ev) (evV ev)).run Try.prog w = .ok (.bool false) w := fun w => run_neqEv ev w
          rcases hway with rfl | ⟨rfl, hka⟩
          all_goals (
            go_wp2_with fail
            refine HQS.out.mono ?_
            rintro e1 w2 ⟨rfl, z1, z2⟩
            have P2 := Lib.hid ((HP.out.turnQ z1 z2).up (below_al (o := .cells (evC ev) 23) (Below.refl _ _)))
            have L2 := Lib.hid (Lies.new w2 (evC ev) 23)
            have NM : Hid (¬ M w2.heap.size) := Lib.hid (fun hm => by have := HP.out.row.lt _ hm; have := z2.size; omega)
            clear z1 z2
            go_wp2_with fail
            refine (HR2.out _ P2.out).mono ?_
            rintro e2 w3 ⟨rfl, M', z1, z2, z3⟩
            have P3 := Lib.hid ((P2.out.turnR z1 z2 z3).up (below_al (o := .cells (evC ev) 23) (Below.refl _ _)))
            have L3 := Lib.hid ((z2.lies L2.out NM.out).al (o := .cells (evC ev) 23))
            have N3 := Lib.hid (Lies.new w3 (evC ev) 23)
            clear z1 z2 z3
            go_wp2_with fail
            obtain ⟨w4, hw4⟩ : ∃ w4, w4 = w3.alloc (.cells (evC ev) 23) := ⟨_, rfl⟩
            rw [← hw4] at P3 L3 N3 ⊢
            clear hw4
            have d0 := L3.out.cell (j := 0) rfl
            have d1 := L3.out.cell (j := 1) rfl
            have d2 := L3.out.cell (j := 2) rfl
            have g0 := N3.out.cell (j := 0) rfl
            have g1 := N3.out.cell (j := 1) rfl
            have g2 := N3.out.cell (j := 2) rfl
            obtain ⟨v1, v2, h⟩ := P3.out.row
            obtain ⟨A1, k1, rfl, _, _⟩ := tail_slice h.o1
            have r0 := h.lies.cell (j := 0) rfl
            obtain ⟨n2, hn2⟩ : ∃ n, n = q2.length := ⟨_, rfl⟩
            have HLE := Lib.hid (fun w (h : Que w b L F q2) => lpLen b L F q2 w h)
            rw [← hn2] at r0 HLE
            have HL2 : Hid (∀ n, Calls Try.prog 17 #[.pointer (some ⟨b, 0, none⟩)] (w4.drewN n) (SaysI (n2 : Int) (w4.drewN n))) := Lib.hid (fun n => HLE.out _ (P3.out.que.block rfl))
            clear h hn2 HLE
            go_quiet (first | (go_at_call 17; refine Calls.quiet_of_same (still_of (HL2.out _))))
            go_wp2_with fail
            go_roundw
            case rel => exact ⟨i + 1, k, M', q2, by go_num, rfl, by omega, by omega, P3.out.up (below_drewN (Below.refl _ _)), HSI.out, HSN.out⟩
            case measure => simp [intOf]; omega)
      · have h3 : ¬ (i : Int) < 300 := by omega
        go_wp2_with (first
          | (go_at_call 11; refine (half6 _).mono ?_; rintro e4 w4 ⟨rfl, rfl⟩)
          | (go_at_call 15; refine (lpStepNil _).mono ?_; rintro e4 w4 ⟨rfl, hb4⟩; have HB4 := Lib.hid (below_next HP.out.below hb4); clear hb4)
          | (go_at_call 17; refine (lpLenNil _).mono ?_; rintro e4 w4 ⟨rfl, rfl⟩)
          | (go_at_call 14; refine (lpPutNil zEv _).mono ?_; rintro e5 w5 ⟨rfl, hb5⟩; have HB5 := Lib.hid (below_next (below_al (o := .cells (evC zEv) 23) HB4.out) hb5); clear hb5))
        go_ret
        exact ⟨rfl, HB5.out⟩
    · have hge : nd ≤ i := by omega
      go_wp2_with (first
        | (go_at_call 11; refine (half6 _).mono ?_; rintro e4 w4 ⟨rfl, rfl⟩)
        | (go_at_call 15; refine (lpStepNil _).mono ?_; rintro e4 w4 ⟨rfl, hb4⟩; have HB4 := Lib.hid (below_next HP.out.below hb4); clear hb4)
        | (go_at_call 17; refine (lpLenNil _).mono ?_; rintro e4 w4 ⟨rfl, rfl⟩)
        | (go_at_call 14; refine (lpPutNil zEv _).mono ?_; rintro e5 w5 ⟨rfl, hb5⟩; have HB5 := Lib.hid (below_next (below_al (o := .cells (evC zEv) 23) HB4.out) hb5); clear hb5))
      go_ret
      exact ⟨rfl, HB5.out⟩
theorem lawLoopPlays : Lift.Owes 4 [2, 3, 28, 29] := by
  intro H enc W base args ds ps hval hA _ _
  obtain ⟨v0, v1, v2, v3, d0, d1, d2, d3, p0, p1, p2, p3, rfl, rfl, rfl, h0, h1, h2, h3⟩ := trodAll_four hA
  obtain ⟨x0, rfl, _, _, wf0⟩ := open_int Try.underlying2 (hval 0 _ v0 rfl rfl) h0
  obtain ⟨x1, rfl, _, _, wf1⟩ := open_int Try.underlying3 (hval 1 _ v1 rfl rfl) h1
  obtain ⟨A, c, xs, rfl, hl, hc, hrow, hok⟩ := openEvsL (hval 2 _ v2 rfl rfl) h2
  obtain ⟨D, d, ss, rfl, hd, hd2, hrow2⟩ := openBools (hval 3 _ v3 rfl rfl) h3
  exact walkLoopPlays x0 x1 xs A c ss D d W hrow hl hc hok hrow2 hd hd2 (lwf64 wf0)
end Lp
theorem lawLoopPlays : Lift.Owes 4 [2, 3, 28, 29] := Lp.lawLoopPlays
end Go.Proofs.Ytdfdfdhgggilbaa
