/- Drop: slices.DeleteFunc over a row of timers of the call's own; clear. -/
import Derived.Test.YtklgehfbfokdlaaTimAll
import Derived.Laws.IdiomCopy
namespace Go.Proofs.Ytklgehfbfokdlaa
open Go.RowKit
set_option linter.unusedVariables false
namespace Tim
theorem delC (x : Tm) (nm : List UInt8) (nb : Nat) (w : World) (hl : Lies nb #[.string (kS nm)] 9 w) : Calls Try.prog 26 #[tmV x, .pointer (some ⟨nb, 0, none⟩)] w (TellsB (decide (x.name = nm)) w) := by
  have hc := hl.cell (j := 0) rfl
  have hlt := lt_of_block hl
  have hb := Lib.hid (below_al (o := .cells (tmC x) 27) (Below.refl w.heap.size w))
  clear hl
  by_cases h : x.name = nm
  · have h4 : ((kS x.name).toList == (kS nm).toList) = true := by rw [kS_list, kS_list, beq_iff_eq]; exact h
    have hd := Lib.hid (decide_eq_true h)
    clear h
    go_enter Try.func26, Try.ntmps26
    go_wp2_with fail
    go_ret
    exact ⟨by rw [hd.out]; rfl, hb.out⟩
  · have h4 : ((kS x.name).toList == (kS nm).toList) = false := by rw [kS_list, kS_list, beq_eq_false_iff_ne]; exact h
    have hd := Lib.hid (decide_eq_false h)
    clear h
    go_enter Try.func26, Try.ntmps26
    go_wp2_with fail
    go_ret
    exact ⟨by rw [hd.out]; rfl, hb.out⟩
/-- Those of other names. -/
def others (nm : List UInt8) (l : List Tm) : List Tm := l.filter fun t => !decide (t.name = nm)
/-- p is the place of the first of that name. -/
structure IsFirst (d : List Tm) (nm : List UInt8) (p : Nat) : Prop where
  lt : p < d.length
  before : ∀ i x, i < p → d[i]? = some x → x.name ≠ nm
  here : ∀ x, d[p]? = some x → x.name = nm
def delV (nb : Nat) : Value := .func (.func 26) #[] #[.pointer (some ⟨nb, 0, none⟩)]
theorem idxF (d : List Tm) (A : Option Addr) (c : Nat) (nm : List UInt8) (nb : Nat) (w : World) (hr : Row w A (tc d)) (hlie : Lies nb #[.string (kS nm)] 9 w) (hl : d.length ≤ 100000) :
    Calls Try.prog 31 #[.slice A d.length c, .func (.func 26) #[] #[.pointer (some ⟨nb, 0, none⟩)]] w fun e w' =>
      Below w.heap.size w w' ∧ ((∃ p : Nat, e = .returned (.int .i64 p) ∧ IsFirst d nm p) ∨ (e = .returned (.int .i64 (-1)) ∧ ∀ x ∈ d, x.name ≠ nm)) := by
  have HR := Lib.hid hr
  have HLie := Lib.hid hlie
  clear hr hlie
  obtain ⟨n, hn⟩ : ∃ n, n = d.length := ⟨_, rfl⟩
  rw [← hn] at hl ⊢
  have HN := Lib.hid hn
  clear hn
  go_enter Try.func31, Try.ntmps31
  go_wp2_with fail
  go_loopw [8] (fun s8 wr => ∃ k : Nat, s8 = .int .i64 k ∧ k ≤ n ∧ (∀ i x, i < k → d[i]? = some x → x.name ≠ nm) ∧ Below w.heap.size w wr) (fun s8 _ => n - (intOf s8).toNat)
  case atStart => exact ⟨0, rfl, Nat.zero_le _, fun i x hi => absurd hi (Nat.not_lt_zero _), Below.refl _ _⟩
  case round =>
    obtain ⟨k, rfl, hk, hno, hb⟩ := hrel
    have HB := Lib.hid hb
    have HNO := Lib.hid hno
    clear hb hno
    by_cases hlt : k < n
    · obtain ⟨x, hx⟩ : ∃ x, d[k]? = some x := ⟨_, List.getElem?_eq_getElem (by rw [← HN.out]; exact hlt)⟩
      obtain ⟨b, off, rfl, c0, c1⟩ := row_at (HR.out.below HB.out) hx
      have HX := Lib.hid hx
      clear hx
      cases hq : decide (x.name = nm) with
      | true =>
        have HD := Lib.hid (delC x nm nb wr (HLie.out.below HB.out))
        rw [hq] at HD
        have HQ := Lib.hid (of_decide_eq_true hq)
        clear hq
        go_wp2_with (go_at_call 26; refine HD.out.mono ?_; rintro e w1 ⟨rfl, hb1⟩; have HB1 := Lib.hid (below_next HB.out hb1); clear hb1)
        go_ret
        exact ⟨HB1.out, .inl ⟨k, rfl, by rw [← HN.out]; exact hlt, HNO.out, fun y hy => by rw [HX.out] at hy; cases hy; exact HQ.out⟩⟩
      | false =>
        have HD := Lib.hid (delC x nm nb wr (HLie.out.below HB.out))
        rw [hq] at HD
        have HQ := Lib.hid (of_decide_eq_false hq)
        clear hq
        go_wp2_with (go_at_call 26; refine HD.out.mono ?_; rintro e w1 ⟨rfl, hb1⟩; have HB1 := Lib.hid (below_next HB.out hb1); clear hb1)
        go_roundw
        case rel =>
          refine ⟨k + 1, by go_num, by omega, fun i y hi hy => ?_, HB1.out⟩
          by_cases e : i = k
          · subst e
            rw [HX.out] at hy; cases hy
            exact HQ.out
          · exact HNO.out i y (by omega) hy
        case measure => simp [intOf]; omega
    · have hge : n ≤ k := by omega
      go_wp2_with fail
      go_ret
      refine ⟨HB.out, .inr ⟨rfl, fun x hx => ?_⟩⟩
      obtain ⟨i, hi⟩ := List.getElem?_of_mem hx
      exact HNO.out i x (by have := (List.getElem?_eq_some_iff.1 hi).1; have := HN.out; omega) hi
/-- Where the loop of DeleteFunc stands. -/
structure DelTo (d : List Tm) (nm : List UInt8) (g cap : Nat) (w : World) (i j : Nat) (c : List Tm) (wr : World) : Prop where
  lt : i < j
  le : j ≤ d.length
  len : c.length = d.length
  head : c.take i = others nm (d.take j)
  tail : ∀ k, j ≤ k → c[k]? = d[k]?
  own : wr.ownsRow 0 27 2 (.slice (some ⟨g, 0, none⟩) d.length cap) d.length (tc c)
  mine : Mine (· = g) w wr
theorem take_one {d : List Tm} {j : Nat} {x : Tm} (h : d[j]? = some x) : d.take (j + 1) = d.take j ++ [x] := by
  obtain ⟨hl, h⟩ := List.getElem?_eq_some_iff.1 h
  rw [List.take_succ_eq_append_getElem hl, h]
theorem DelTo.start {d : List Tm} {nm : List UInt8} {g cap p : Nat} {w wr : World} (h : IsFirst d nm p) (ho : wr.ownsRow 0 27 2 (.slice (some ⟨g, 0, none⟩) d.length cap) d.length (tc d)) (hm : Mine (· = g) w wr) : DelTo d nm g cap w p (p + 1) d wr := by
  refine ⟨Nat.lt_succ_self _, h.lt, rfl, ?_, fun _ _ => rfl, ho, hm⟩
  obtain ⟨x, hx⟩ : ∃ x, d[p]? = some x := ⟨_, List.getElem?_eq_getElem h.lt⟩
  rw [take_one hx]
  unfold others
  rw [List.filter_append, List.filter_eq_self.2, List.filter_cons, if_neg (by simp [h.here x hx]), List.filter_nil, List.append_nil]
  intro y hy
  obtain ⟨i, hi⟩ := List.getElem?_of_mem hy
  have hip : i < p := by have := (List.getElem?_eq_some_iff.1 hi).1; rw [List.length_take] at this; omega
  rw [List.getElem?_take, if_pos hip] at hi
  simpa using h.before i y hip hi
theorem DelTo.skip {d c : List Tm} {nm : List UInt8} {g cap i j : Nat} {w wr w1 : World} {x : Tm} (H : DelTo d nm g cap w i j c wr) (hx : d[j]? = some x) (hq : x.name = nm) (hg : g < wr.heap.size) (hb : Below wr.heap.size wr w1) : DelTo d nm g cap w i (j + 1) c w1 := by
  refine ⟨by have := H.lt; omega, (List.getElem?_eq_some_iff.1 hx).1, H.len, ?_, fun k hk => H.tail k (by omega), ownsRow_block H.own fun k _ hlt => hb.block k hlt, H.mine.trans (Mine.up hb)⟩
  rw [take_one hx, H.head]
  unfold others
  rw [List.filter_append, List.filter_cons, if_neg (by simp [hq]), List.filter_nil, List.append_nil]
theorem DelTo.keep {d c : List Tm} {nm : List UInt8} {g cap i j : Nat} {w wr w1 : World} {x : Tm} (H : DelTo d nm g cap w i j c wr) (hx : d[j]? = some x) (hq : x.name ≠ nm) (hb : Below wr.heap.size wr w1) :
    DelTo d nm g cap w (i + 1) (j + 1) (c.set i x) ((w1.setCell ⟨g, i * 2, none⟩ (.int .i64 x.at_)).setCell ⟨g, i * 2 + 1, none⟩ (.string (kS x.name))) := by
  have hjl := (List.getElem?_eq_some_iff.1 hx).1
  have hlt := H.lt
  have hlen := H.len
  refine ⟨by omega, hjl, by simpa using H.len, ?_, fun k hk => ?_, own_setT (ownsRow_block H.own fun k _ hlt => hb.block k hlt) x (by omega), (H.mine.trans (Mine.up hb)).trans ((Mine.set (M := (· = g)) w1 (a := ⟨g, i * 2, none⟩) _ rfl).trans (Mine.set (M := (· = g)) _ (a := ⟨g, i * 2 + 1, none⟩) _ rfl))⟩
  · have e : (c.set i x)[i]? = some x := by rw [List.getElem?_set_self (by omega)]
    rw [take_one e, take_one hx, List.take_set_of_le (Nat.le_refl _), H.head]
    unfold others
    rw [List.filter_append, List.filter_cons, if_pos (by simp [hq]), List.filter_nil]
  · rw [List.getElem?_set_ne (by omega)]
    exact H.tail k (by omega)
theorem setCells_block (g : Nat) : ∀ (vs : List Value) (o : Nat) (w : World) (k : Nat), k ≠ g → (w.setCells g o vs).heap[k]? = w.heap[k]?
  | [], _, _, _, _ => rfl
  | v :: r, o, w, k, hk => (setCells_block g r (o + 1) _ k hk).trans (Below.heap_setCell w ⟨g, o, none⟩ v k hk)
theorem setCells_mine (g : Nat) : ∀ (vs : List Value) (o : Nat) (w : World), Mine (· = g) w (w.setCells g o vs)
  | [], _, w => Mine.refl _ _
  | v :: r, o, w => (Mine.set (M := (· = g)) w (a := ⟨g, o, none⟩) v rfl).trans (setCells_mine g r (o + 1) _)
/-- Stores behind what is in view. -/
theorem own_behind {B g n cap : Nat} {e : TypeId} {xs : List Value} : ∀ (vs : List Value) (o : Nat) (w : World), w.ownsRow B e 2 (.slice (some ⟨g, 0, none⟩) n cap) n xs → n * 2 ≤ o → (w.setCells g o vs).ownsRow B e 2 (.slice (some ⟨g, 0, none⟩) n cap) n xs
  | [], _, _, h, _ => h
  | v :: r, o, w, h, ho => by
    have h1 := (h.stored o v).1
    rw [List.set_eq_of_length_le (by rw [h.1]; exact ho)] at h1
    exact own_behind r (o + 1) _ h1 (by omega)
theorem run_clear {P : Program} (w : World) (t e ty : TypeId) (z : Value) (ht : P.underlying t = some (.slice e)) (hv : ∀ w, (zeroValue e).run P w = .ok z w) (hz : z.cells.size = 2) (h1 : ∀ i, i < 2 → (z.cells[i]!).oneCell' = true) (b o n c : Nat) (hn : 0 < n)
    (hc : ∀ j, j < n * 2 → (w.cell? ⟨b, o + j, none⟩).isSome = true) (hf : ∀ j, j < n * 2 → w.frozen? ⟨b, o + j, none⟩ = false) :
    (Builtin.clear_ #[t] ty #[.slice (some ⟨b, o, none⟩) n c]).run P w = .ok (.tuple #[]) (w.setCells b o (Builtin.zeroCells z.cells n).toList) := by
  have hl : (Builtin.zeroCells z.cells n).toList.length = n * 2 := by simp [Builtin.zeroCells, hz]
  have hst := run_storeCells_cells (P := P) b o (Builtin.zeroCells z.cells n).toList 0 w (by rw [hl]; simpa using hc) (by rw [hl]; simpa using hf) (by
    intro v hv'
    simp only [Builtin.zeroCells, Array.toList_map, List.mem_map] at hv'
    obtain ⟨i, _, rfl⟩ := hv'
    rw [hz]
    exact h1 _ (Nat.mod_lt _ (by omega)))
  simp only [Nat.add_zero] at hst
  obtain ⟨m, rfl⟩ : ∃ m, n = m + 1 := ⟨n - 1, by omega⟩
  simp [Builtin.clear_, run_underlying ht, hv, hst]
theorem frozen_below {a b : World} {p : Addr} (h : a.frozen? p = false) (hl : p.block < a.heap.size) (hb : Below a.heap.size a b) : b.frozen? p = false := (World.frozen?_of_block (hb.block _ hl)).trans h
theorem tmZero (w : World) : (zeroValue 27).run Try.prog w = .ok (.agg #[.int .i64 0, .string ByteArray.empty]) w := by
  obtain ⟨i0, hi0, hz0, hz1, hz2⟩ := info_parts tmInfo
  simp [zeroValue, typeInfo, hi0, hz0]
theorem others_none {d : List Tm} {nm : List UInt8} (h : ∀ x ∈ d, x.name ≠ nm) : others nm d = d := List.filter_eq_self.2 fun x hx => by simpa using h x hx
set_option maxHeartbeats 2000000 in
theorem delF (d : List Tm) (g cap : Nat) (nm : List UInt8) (nb : Nat) (w : World) (ho : w.ownsRow 0 27 2 (.slice (some ⟨g, 0, none⟩) d.length cap) d.length (tc d)) (hlie : Lies nb #[.string (kS nm)] 9 w) (hne : nb ≠ g) (hl : d.length ≤ 100000) :
    Calls Try.prog 25 #[.slice (some ⟨g, 0, none⟩) d.length cap, .func (.func 26) #[] #[.pointer (some ⟨nb, 0, none⟩)]] w fun e w' =>
      e = .returned (.slice (some ⟨g, 0, none⟩) (others nm d).length cap) ∧ w'.ownsRow 0 27 2 (.slice (some ⟨g, 0, none⟩) (others nm d).length cap) (others nm d).length (tc (others nm d)) ∧ Mine (· = g) w w' := by
  obtain ⟨A, c2, e, hnc, hcm, _, hr, _⟩ := own_form ho (by omega)
  cases e
  have HR := Lib.hid hr
  have HO := Lib.hid ho
  have HLie := Lib.hid hlie
  clear hr ho hlie
  obtain ⟨n, hn⟩ : ∃ n, n = d.length := ⟨_, rfl⟩
  have hI := Lib.hid (idxF d (some ⟨g, 0, none⟩) cap nm nb w HR.out HLie.out hl)
  rw [← hn] at hl hI hnc ⊢
  have HN := Lib.hid hn
  clear hn
  unfold maxLen at hcm
  go_enter Try.func25, Try.ntmps25
  go_wp2_with fail
  refine hI.out.mono ?_
  rintro e w1 ⟨hb1, ⟨p, rfl, hf⟩ | ⟨rfl, hno⟩⟩
  · have hpn : p < n := by rw [HN.out]; exact hf.lt
    have hp1 : ((p : Int) == -1) = false := ne_b (by omega)
    have D1 : Hid (DelTo d nm g cap w p (p + 1) d w1) := Lib.hid (DelTo.start hf (ownsRow_block HO.out fun k _ hlt => hb1.block k hlt) (Mine.up hb1))
    have L1 := Lib.hid (HLie.out.below hb1)
    clear hb1 hf hI
    go_wp2_with fail
    go_loopw [5, 6] (fun s5 s6 wr => ∃ (i j : Nat) (c : List Tm), s5 = .int .i64 i ∧ s6 = .int .i64 j ∧ DelTo d nm g cap w i j c wr) (fun _ s6 _ => n - (intOf s6).toNat)
    case atStart => exact ⟨p, p + 1, d, rfl, by go_num, D1.out⟩
    case round =>
      clear D1 hp1 hpn L1
      obtain ⟨i, j, c, rfl, rfl, hat⟩ := hrel
      have HT := Lib.hid hat
      have hij := hat.lt
      have hjn : j ≤ n := by rw [HN.out]; exact hat.le
      clear hat
      have HLr := Lib.hid (HT.out.mine.lies HLie.out hne)
      by_cases hlt : j < n
      · obtain ⟨x, hx⟩ : ∃ x, d[j]? = some x := ⟨_, List.getElem?_eq_getElem (by rw [← HN.out]; exact hlt)⟩
        obtain ⟨y, hy⟩ : ∃ y, c[i]? = some y := ⟨_, List.getElem?_eq_getElem (by rw [HT.out.len, ← HN.out]; omega)⟩
        have hxc : c[j]? = some x := by rw [HT.out.tail j (Nat.le_refl _)]; exact hx
        obtain ⟨c0, c1, _, _⟩ := own_cellsT HT.out.own hxc
        obtain ⟨e0, e1, e2, e3⟩ := own_cellsT HT.out.own hy
        have hgl : g < wr.heap.size := lt_of_cell c0
        have HX := Lib.hid hx
        clear hx hy hxc
        have HB0 := Lib.hid (below_al (o := .cells (tmC x) 27) (Below.refl wr.heap.size wr))
        have LX := Lib.hid (Lies.new wr (tmC x) 27)
        cases hq : decide (x.name = nm) with
        | true =>
          have HD := Lib.hid (delC x nm nb _ (HLr.out.below HB0.out))
          rw [hq] at HD
          have HQ := Lib.hid (of_decide_eq_true hq)
          clear hq
          go_wp2_with (go_at_call 26; refine HD.out.mono ?_; rintro e w2 ⟨rfl, hb2⟩; have HB2 := Lib.hid (below_next HB0.out hb2); clear hb2)
          go_roundw
          case rel => exact ⟨i, j + 1, c, rfl, by go_num, HT.out.skip HX.out HQ.out hgl HB2.out⟩
          case measure => simp [intOf]; omega
        | false =>
          have HD := Lib.hid (delC x nm nb _ (HLr.out.below HB0.out))
          rw [hq] at HD
          have HQ := Lib.hid (of_decide_eq_false hq)
          clear hq
          go_wp2_with (go_at_call 26; refine HD.out.mono ?_; rintro e w2 ⟨rfl, hb2⟩; have HB2 := Lib.hid (below_next HB0.out hb2); have L2 := LX.out.below hb2; have k0 := L2.cell (j := 0) rfl; have k1 := L2.cell (j := 1) rfl; have m0 := cell_below e0 HB2.out; have m1 := cell_below e1 HB2.out; have m2 := frozen_below e2 hgl HB2.out; have m3 := frozen_below e3 hgl HB2.out; clear hb2 L2)
          go_roundw
          case rel => exact ⟨i + 1, j + 1, c.set i x, by go_num, by go_num, HT.out.keep HX.out HQ.out HB2.out⟩
          case measure => simp [intOf]; omega
      · have hjn' : j = n := by omega
        have hhead := HT.out.head
        rw [hjn', HN.out, List.take_length] at hhead
        have hlo : (others nm d).length = i := by rw [← hhead, List.length_take, HT.out.len, ← HN.out]; omega
        have HH := Lib.hid hhead
        have HLO := Lib.hid hlo
        have hge : n ≤ j := by omega
        have hcap : ¬ cap = i := by omega
        have HOW := Lib.hid HT.out.own
        rw [← HN.out] at HOW
        have hcl : ∀ ty, (Builtin.clear_ #[48] ty #[.slice (some ⟨g, i * 2, none⟩) (n - i) (cap - i)]).run Try.prog wr = .ok (.tuple #[]) (wr.setCells g (i * 2) (Builtin.zeroCells (Value.agg #[.int .i64 0, .string ByteArray.empty]).cells (n - i)).toList) :=
          fun ty => run_clear wr _ _ ty _ Try.underlying48 tmZero rfl (fun i hi => by rcases i with _ | _ | i; rfl; rfl; omega) g (i * 2) (n - i) (cap - i) (by omega) (fun k hk => by rw [HOW.out.cellAt _ (by omega), Option.isSome_iff_ne_none, ne_eq, List.getElem?_eq_none_iff, tc_len, HT.out.len, ← HN.out]; omega) (fun k hk => HOW.out.frozenAt _)
        clear hhead hlo
        go_wp2_with fail
        go_ret
        have h1 := own_cut HOW.out (n := i) (by omega)
        rw [tc_take, HH.out] at h1
        rw [HLO.out]
        exact ⟨rfl, own_behind _ _ _ h1 (Nat.le_refl _), HT.out.mine.trans (setCells_mine g _ _ _)⟩
  · have E := Lib.hid (others_none hno)
    have HB1 := Lib.hid hb1
    clear hb1 hI hno
    go_wp2_with fail
    go_ret
    rw [E.out]
    exact ⟨by rw [← HN.out]; rfl, ownsRow_block HO.out fun k _ hlt => HB1.out.block k hlt, Mine.up HB1.out⟩
end Tim
end Go.Proofs.Ytklgehfbfokdlaa
