/- ModRefRun, put together. -/
import Derived.Test.YtipmphkmeiogoaaZ33
import Derived.Deep.RegionHeld3
import Derived.Deep.CutBlock
/- The reference's Run. -/
namespace Go.Proofs.Ytipmphkmeiogoaa
open Go.RowKit Go.Shelf Tick
set_option linter.unusedVariables false
set_option maxRecDepth 8000
namespace Mo
open Gen (TellsI TellsB SaysI lies_new1)
open Jo (Jb Ev Sr evIs srcOk insOk jbC jbV srV evL Srs)
open Pan (Pl Pn Rs adds ins get)
abbrev pnC (lo hi : Int) (key : ByteArray) (z : Acm.Ac) : Array Value := #[.int .i64 lo, .int .i64 hi, .string key, .int .i64 z.n, .int .i64 z.a, .int .i64 z.b]
theorem keepR {wb eb jb : Nat} {x : Int × Int} {e : Ev} {j : Jb} {w0 a b : World} (hb : Below a.heap.size a b) (h : a.cell? ⟨wb, 0, none⟩ = some (.int .i64 x.1) ∧ a.cell? ⟨wb, 1, none⟩ = some (.int .i64 x.2) ∧ a.cell? ⟨eb, 0, none⟩ = some (.string e.key) ∧ a.cell? ⟨jb, 3, none⟩ = some (.int .i64 j.fold) ∧ Below w0.heap.size w0 a) : b.cell? ⟨wb, 0, none⟩ = some (.int .i64 x.1) ∧ b.cell? ⟨wb, 1, none⟩ = some (.int .i64 x.2) ∧ b.cell? ⟨eb, 0, none⟩ = some (.string e.key) ∧ b.cell? ⟨jb, 3, none⟩ = some (.int .i64 j.fold) ∧ Below w0.heap.size w0 b := by
  obtain ⟨h0, h1, h2, h3, h4⟩ := h
  exact ⟨cell_below h0 hb, cell_below h1 hb, cell_below h2 hb, cell_below h3 hb, below_next h4 hb⟩
theorem keepRs {wb eb jb k o : Nat} {x : Int × Int} {e : Ev} {j : Jb} {w0 a : World} {v : Value} (h1 : k ≠ wb) (h2 : k ≠ eb) (h3 : k ≠ jb) (h4 : w0.heap.size ≤ k) (h : a.cell? ⟨wb, 0, none⟩ = some (.int .i64 x.1) ∧ a.cell? ⟨wb, 1, none⟩ = some (.int .i64 x.2) ∧ a.cell? ⟨eb, 0, none⟩ = some (.string e.key) ∧ a.cell? ⟨jb, 3, none⟩ = some (.int .i64 j.fold) ∧ Below w0.heap.size w0 a) : (a.setCell ⟨k, o, none⟩ v).cell? ⟨wb, 0, none⟩ = some (.int .i64 x.1) ∧ (a.setCell ⟨k, o, none⟩ v).cell? ⟨wb, 1, none⟩ = some (.int .i64 x.2) ∧ (a.setCell ⟨k, o, none⟩ v).cell? ⟨eb, 0, none⟩ = some (.string e.key) ∧ (a.setCell ⟨k, o, none⟩ v).cell? ⟨jb, 3, none⟩ = some (.int .i64 j.fold) ∧ Below w0.heap.size w0 (a.setCell ⟨k, o, none⟩ v) := by
  obtain ⟨g0, g1, g2, g3, g4⟩ := h
  refine ⟨?_, ?_, ?_, ?_, g4.setCell (p := ⟨k, o, none⟩) h4 _⟩
  · rw [World.cell?_setCell_far _ _ _ _ h1]; exact g0
  · rw [World.cell?_setCell_far _ _ _ _ h1]; exact g1
  · rw [World.cell?_setCell_far _ _ _ _ h2]; exact g2
  · rw [World.cell?_setCell_far _ _ _ _ h3]; exact g3
/-- The reference's row of panes behind some cells. -/
def rrows (j : Jb) (all : List Ev) (cs : List (Pl × Int)) : List Pn := rows j.fold (fun q => Pan.vals q (flat j all)) cs
structure RAt (w : World) (j : Jb) (all : List Ev) (AA : Option Addr) (cs : List (Pl × Int)) (PA : Option Addr) (pcap : Nat) (wr : World) : Prop where
  job : Lies w.heap.size (jbC j) 23 wr
  row : Row wr AA (ec all)
  pan : Row wr PA (pc (rrows j all cs))
  few : (rrows j all cs).length ≤ pcap
  cap : pcap ≤ maxLen
  below : Below w.heap.size w wr
theorem RAt.next {w : World} {j : Jb} {all : List Ev} {AA : Option Addr} {cs : List (Pl × Int)} {PA : Option Addr} {pcap : Nat} {a b : World} (h : RAt w j all AA cs PA pcap a) (hb : Below a.heap.size a b) : RAt w j all AA cs PA pcap b :=
  ⟨h.job.below hb, h.row.below hb, h.pan.below hb, h.few, h.cap, below_next h.below hb⟩
theorem rrows_len {j : Jb} {all : List Ev} {cs : List (Pl × Int)} (h : cs.length ≤ 1999) : (rrows j all cs).length < 2000 := by
  have := rows_len j.fold (fun q => Pan.vals q (flat j all)) cs
  unfold rrows
  omega
theorem flat_take_len (j : Jb) (all : List Ev) (k m : Nat) (e : Ev) (hk : k < 120) : (flat j (all.take k) ++ (cells1 j e).take m).length ≤ 1999 := by
  have h1 := flat_len j (all.take k)
  have h2 := cells1_len j e
  have h3 : (all.take k).length ≤ k := by rw [List.length_take]; omega
  have h4 : ((cells1 j e).take m).length ≤ 16 := by rw [List.length_take]; omega
  rw [List.length_append]
  omega
theorem flat_take_push (j : Jb) {all : List Ev} {k : Nat} {e : Ev} (h : all[k]? = some e) : flat j (all.take (k + 1)) = flat j (all.take k) ++ cells1 j e := by
  rw [take_push h, flat_append, flat_one]
/-- One window more of an event. -/
theorem rrows_push {j : Jb} {all : List Ev} {cs : List (Pl × Int)} {e : Ev} {x : Int × Int} {m : Nat} (hr : Jo.right j = true) (hall : ∀ z ∈ all, evIs z = true) (he : evIs e = true) (hx : (Win.of j.size j.slide e.at_)[m]? = some x) :
    (cells1 j e).take (m + 1) = (cells1 j e).take m ++ [(⟨x.1, x.2, kb e.key⟩, e.val)] ∧
    rrows j all (cs ++ [(⟨x.1, x.2, kb e.key⟩, e.val)]) = if (rrows j all cs).any (fun a => decide (a.p = ⟨x.1, x.2, kb e.key⟩)) then rrows j all cs else ins j.fold ⟨⟨x.1, x.2, kb e.key⟩, Acm.all j.fold (valsOf all e.key x.1 x.2)⟩ (rrows j all cs) := by
  have hc : (cells1 j e)[m]? = some (⟨x.1, x.2, kb e.key⟩, e.val) := by unfold cells1; rw [List.getElem?_map, hx]; rfl
  refine ⟨take_push hc, ?_⟩
  have hm := (mem_of (good_of hr he) x).1 (List.mem_of_getElem? hx)
  have hw : WinR j x.1 x.2 := ⟨hm.1, hm.2.1, hm.2.2.2.2⟩
  have hv := vals_flat (key := e.key) hr hw all hall
  unfold rrows
  rw [rows_push]
  unfold refStep
  rw [get_any]
  simp only [hv]
theorem wOut_no {j : Jb} {all : List Ev} {cs : List (Pl × Int)} {q : Pl} {z : Acm.Ac} (h : (rrows j all cs).any (fun a => decide (a.p = q)) = false) (hl : (rrows j all cs).length < 2000) : Pan.wOut j.fold ⟨q, z⟩ (rrows j all cs) = (ins j.fold ⟨q, z⟩ (rrows j all cs), 0) := by
  refine wOut_none ?_ hl
  rw [← get_any] at h
  cases hg : get (rrows j all cs) q with
  | none => rfl
  | some v => rw [hg] at h; cases h
theorem rrows_all {j : Jb} (hr : Jo.right j = true) (all : List Ev) : rrows j all (flat j all) = panes j all := rows_eq (fold_ok hr) _
structure LAt (w : World) (j : Jb) (all : List Ev) (AA : Option Addr) (cs : List (Pl × Int)) (PA : Option Addr) (pcap : Nat) (eb : Nat) (e : Ev) (WA : Option Addr) (xs : List (Int × Int)) (wr : World) : Prop where
  at_ : RAt w j all AA cs PA pcap wr
  ev : Lies eb (evC e) 45 wr
  win : Row wr WA (wc xs)
theorem LAt.next {w : World} {j : Jb} {all : List Ev} {AA : Option Addr} {cs : List (Pl × Int)} {PA : Option Addr} {pcap eb : Nat} {e : Ev} {WA : Option Addr} {xs : List (Int × Int)} {a b : World} (h : LAt w j all AA cs PA pcap eb e WA xs a) (hb : Below a.heap.size a b) : LAt w j all AA cs PA pcap eb e WA xs b :=
  ⟨h.at_.next hb, h.ev.below hb, h.win.below hb⟩
theorem lies_set6 {b : Nat} {T : TypeId} {w : World} {u0 u1 u2 u3 u4 u5 : Value} (h : Lies b #[u0, u1, u2, u3, u4, u5] T w) (v0 v1 v2 v3 v4 v5 : Value) :
    Lies b #[v0, v1, v2, v3, v4, v5] T ((((((w.setCell ⟨b, 0, none⟩ v0).setCell ⟨b, 1, none⟩ v1).setCell ⟨b, 2, none⟩ v2).setCell ⟨b, 3, none⟩ v3).setCell ⟨b, 4, none⟩ v4).setCell ⟨b, 5, none⟩ v5) := by
  have h2 := (((((h.set 0 v0).set 1 v1).set 2 v2).set 3 v3).set 4 v4).set 5 v5
  simpa using h2
theorem below_set6M {B b : Nat} {u w : World} (h : Below B u w) (hb : B ≤ b) (v0 v1 v2 v3 v4 v5 : Value) :
    Below B u ((((((w.setCell ⟨b, 0, none⟩ v0).setCell ⟨b, 1, none⟩ v1).setCell ⟨b, 2, none⟩ v2).setCell ⟨b, 3, none⟩ v3).setCell ⟨b, 4, none⟩ v4).setCell ⟨b, 5, none⟩ v5) :=
  (((((h.setCell (p := ⟨b, 0, none⟩) hb _).setCell (p := ⟨b, 1, none⟩) hb _).setCell (p := ⟨b, 2, none⟩) hb _).setCell (p := ⟨b, 3, none⟩) hb _).setCell (p := ⟨b, 4, none⟩) hb _).setCell (p := ⟨b, 5, none⟩) hb _
theorem keepLP {a b : World} (hb : Below a.heap.size a b) : ∀ k C, Lies k C 82 a → Lies k C 82 b := fun k C h => h.below hb
theorem below5 {c0 c1 c2 c3 B : Prop} (h : c0 ∧ c1 ∧ c2 ∧ c3 ∧ B) : B := h.2.2.2.2
theorem pn_key {y : Pn} {lo hi : Int} {key : ByteArray} : ((kS y.p.key).toList == key.toList) = decide (y.p.key = kb key) := by
  rw [kS_list, kb_list]
  by_cases h : y.p.key = kb key
  · rw [h]; simp
  · rw [decide_eq_false h, beq_eq_false_iff_ne]; exact h
theorem pn_same {y : Pn} {lo hi : Int} {key : List UInt8} : decide (y.p = ⟨lo, hi, key⟩) = (((y.p.lo == lo) && (y.p.hi == hi)) && decide (y.p.key = key)) := by
  rw [Bool.eq_iff_iff]
  simp only [decide_eq_true_eq, Bool.and_eq_true, beq_iff_eq]
  constructor
  · intro h; rw [h]; exact ⟨⟨rfl, rfl⟩, rfl⟩
  · rintro ⟨⟨h1, h2⟩, h3⟩
    obtain ⟨⟨a, b, c⟩, _⟩ := y
    simp only at h1 h2 h3
    rw [h1, h2, h3]
set_option maxRecDepth 100000 in
set_option maxHeartbeats 4000000 in
theorem rfRunM (j : Jb) (hj : Jo.right j = true) (hlim : Lp.inI j.limit) (ls : List Sr) (A : Option Addr) (c : Nat) (w : World) (h : Row w A (ls.flatMap fun s => [srV s])) (hi : Srs w ls) (hio : insOk ls = true) (hfit : ∀ s ∈ ls, ∀ e ∈ s.l, fit e)
    (hb : (keptAll j (ls.map (·.l))).length ≤ 120) : Calls Try.prog 19 #[jbV j, .slice A ls.length c] w (GivesRE (res j (keptAll j (ls.map (·.l))), 0) w) := by
  have h4 := insOk_all4 hio
  have hb0 := below_al (o := .cells (jbC j) 23) (Below.refl w.heap.size w)
  have HKT := Lib.hid (fun s (hs : s ∈ ls) w' (hb : Below w.heap.size w w') (hr : Row w' s.A (s.l.flatMap evL)) => rfKept j hlim s.l (hfit s hs) s.A s.c (by have := (h4.2 s hs).1; omega) w' hr)
  have hall : ∀ z ∈ keptAll j (ls.map (·.l)), evIs z = true := by
    intro z hz2
    obtain ⟨t, ht, hzt⟩ := List.mem_flatMap.1 hz2
    obtain ⟨s, hs, rfl⟩ := List.mem_map.1 ht
    exact kept_is ((h4.2 s hs).2) z hzt
  have hfa : ∀ z ∈ keptAll j (ls.map (·.l)), fit z := by
    intro z hz2
    obtain ⟨t, ht, hzt⟩ := List.mem_flatMap.1 hz2
    obtain ⟨s, hs, rfl⟩ := List.mem_map.1 ht
    exact kept_fit (hfit s hs) z hzt
  have HTL := Lib.hid (fun k => keptAll_take_le j ls k)
  have HAP := Lib.hid (fun k x (hx : ls[k]? = some x) => all_take_push j hx)
  have HR := Lib.hid h
  have HI := Lib.hid hi
  have HLS := Lib.hid h4.1
  have HB := Lib.hid hb
  have LJ := Lib.hid ((Lies.new w (jbC j) 23).al (o := .cells #[] 45))
  have T0 : Hid (BuiltE w ((w.alloc (.cells (jbC j) 23)).alloc (.cells #[] 45)) (.slice (some ⟨w.heap.size + 1, 0, none⟩) 0 0) []) := Lib.hid ⟨by
    have h := own_new (B := w.heap.size) (e := 45) (size := 3) (w := w.alloc (.cells (jbC j) 23)) (by simp)
    rw [World.size_alloc] at h
    exact h, below_al hb0⟩
  obtain ⟨all, hal⟩ : ∃ all, all = keptAll j (ls.map (·.l)) := ⟨_, rfl⟩
  rw [← hal] at hall hfa HB HTL ⊢
  have HAL := Lib.hid hal
  have HIS := Lib.hid hall
  have HFA := Lib.hid hfa
  have HJ := Lib.hid hj
  clear h hi hb hb0 hal hall hfa hj h4 hio hfit hlim
  go_enter Try.func19, Try.ntmps19
  go_wp2_with fail
  go_loopw [6, 23] (fun v i wr => ∃ k : Nat, i = .int .i64 k ∧ k ≤ ls.length ∧ BuiltE w wr v (keptAll j ((ls.take k).map (·.l))) ∧ Lies w.heap.size (jbC j) 23 wr ∧ v.ownBlock ≠ some w.heap.size) (fun _ i _ => ls.length - (intOf i).toNat)
  case atStart => exact ⟨0, rfl, Nat.zero_le _, T0.out, LJ.out, by intro e; have := Option.some.inj (show some (w.heap.size + 1) = some w.heap.size from e); omega⟩
  case round =>
    clear T0 LJ
    obtain ⟨k, rfl, hk, hT, hL, hne⟩ := hrel
    have HT := Lib.hid hT
    have HL := Lib.hid hL
    have HNE := Lib.hid hne
    clear hT hL hne
    by_cases hlt : k < ls.length
    · obtain ⟨x, hx⟩ : ∃ x, ls[k]? = some x := ⟨_, List.getElem?_eq_getElem hlt⟩
      obtain ⟨b, off, rfl, d0⟩ := Jo.row_sr (HR.out.below HT.out.below) hx
      simp only [srV] at d0
      have HPU := Lib.hid (HAP.out k x hx)
      have hw := wrapM (k := k) (by have := HLS.out; omega)
      have HK1 := Lib.hid (HKT.out x (List.mem_of_getElem? hx) wr HT.out.below ((HI.out.below HT.out.below) k x hx).1)
      have HTL1 := Lib.hid (HTL.out (k + 1))
      have x0 := HL.out.cell (j := 0) rfl; have x1 := HL.out.cell (j := 1) rfl; have x2 := HL.out.cell (j := 2) rfl; have x3 := HL.out.cell (j := 3) rfl; have x4 := HL.out.cell (j := 4) rfl; have x5 := HL.out.cell (j := 5) rfl; have x6 := HL.out.cell (j := 6) rfl; have x7 := HL.out.cell (j := 7) rfl
      obtain ⟨ms, hms⟩ : ∃ ms, ms = keptAll j ((ls.take k).map (·.l)) := ⟨_, rfl⟩
      rw [← hms] at HT HPU
      obtain ⟨ks, hks⟩ : ∃ ks, ks = kept j 0 x.l := ⟨_, rfl⟩
      rw [← hks] at HK1 HPU
      clear hx hms hks
      go_wp2_with fail
      refine HK1.out.mono ?_
      rintro e w2 ⟨A2, c2, rfl, q1, q2, q3, hb2⟩
      have Q3 := Lib.hid q3
      have HT2 := Lib.hid (HT.out.up hb2)
      have HL2 := Lib.hid (HL.out.below hb2)
      clear hb2 q3 x0 x1 x2 x3 x4 x5 x6 x7 d0
      go_wp2_with (at_builtin; refine hold_mk ?_)
      refine hold_out ?_
      refine wpPushE rfl _ _ rfl u6 ms rfl HT2.out A2 ks.length c2 ks rfl Q3.out rfl (by have h1 := HTL1.out; rw [HPU.out, List.length_append] at h1; have := HB.out; omega) ?_
      intro v9 w9 bt9 hg9 hat9
      have HB9 := Lib.hid bt9
      have HL9 := Lib.hid (lies_grown HL2.out hg9 HNE.out)
      have HN9 : Hid (v9.ownBlock ≠ some w.heap.size) := Lib.hid (by
        rcases hat9 with e | e
        · rw [e]; exact HNE.out
        · rw [e]; intro e2; have h1 := Option.some.inj e2; have h2 := lt_of_block HL2.out; omega)
      clear bt9 hg9 hat9
      go_wp2_with fail
      go_roundw
      case rel => exact ⟨k + 1, rfl, by omega, by rw [HPU.out]; exact HB9.out, HL9.out, HN9.out⟩
      case measure => simp [intOf]; omega
    · have hkl : k = ls.length := by omega
      have hmm : keptAll j ((ls.take k).map (·.l)) = all := by rw [hkl, List.take_length]; exact HAL.out.symm
      rw [hmm] at HT
      obtain ⟨AA, ac, hv, a1, a2, _, a3, _⟩ := own_form HT.out.own (by omega)
      subst hv
      have R0 : Hid (RAt w j all AA [] (some ⟨wr.heap.size, 0, none⟩) 0 (wr.alloc (.cells #[] 82))) := Lib.hid ⟨HL.out.al, a3.below (below_al (Below.refl _ _)), .inl rfl, Nat.le_refl _, by simp [maxLen], below_al HT.out.below⟩
      obtain ⟨N, hN⟩ : ∃ N, N = all.length := ⟨_, rfl⟩
      have HN := Lib.hid hN
      have hN120 : N ≤ 120 := by have := HB.out; omega
      have hge : ls.length ≤ k := by omega
      have hdd : decide (k < ls.length) = false := by rw [decide_eq_false_iff_not]; omega
      clear hkl hmm a3 HT HL HNE hlt hk a1 a2
      rw [← hN]
      clear hN
      go_wp2_with fail
      go_loopw [9, 36] (fun pv i wr => ∃ (k : Nat) (PA : Option Addr) (pcap : Nat), pv = .slice PA (rrows j all (flat j (all.take k))).length pcap ∧ i = .int .i64 k ∧ k ≤ N ∧ RAt w j all AA (flat j (all.take k)) PA pcap wr) (fun _ i _ => N - (intOf i).toNat)
      case atStart => exact ⟨0, _, 0, rfl, rfl, Nat.zero_le _, R0.out⟩
      case round =>
        clear R0
        obtain ⟨k, PA, pcap, rfl, rfl, hk, hR⟩ := hrel
        have HR2 := Lib.hid hR
        have hjb := lt_of_block hR.job
        clear hR
        by_cases hlt : k < N
        · obtain ⟨e, he⟩ : ∃ e, all[k]? = some e := ⟨_, List.getElem?_eq_getElem (by rw [← HN.out]; exact hlt)⟩
          obtain ⟨b, off, rfl, d0, d1, d2⟩ := Jo.row_evC HR2.out.row he
          have HEM := Lib.hid (HIS.out e (List.mem_of_getElem? he))
          have HFP := Lib.hid (flat_take_push j he)
          have hw := wrapM (k := k) (by omega)
          have x1 := HR2.out.job.cell (j := 1) rfl; have x2 := HR2.out.job.cell (j := 2) rfl
          have HOF := Lib.hid (fun w => refOf j.size j.slide e.at_ w)
          have HXS := Lib.hid (of_len16 j.size j.slide e.at_)
          have HCL : Hid ((cells1 j e).length = (Win.of j.size j.slide e.at_).length) := Lib.hid (by unfold cells1; rw [List.length_map])
          obtain ⟨xs, hxs⟩ : ∃ xs, xs = Win.of j.size j.slide e.at_ := ⟨_, rfl⟩
          have HRP := Lib.hid (fun cs (x : Int × Int) m (hx : xs[m]? = some x) => rrows_push (cs := cs) HJ.out HIS.out HEM.out (by rw [← hxs]; exact hx))
          rw [← hxs] at HOF HXS HCL
          have LE := Lib.hid (Lies.new wr (evC e) 45)
          have HRE := Lib.hid (HR2.out.next (below_al (o := .cells (evC e) 45) (Below.refl _ _)))
          clear he hxs
          go_wp2_with fail
          refine (HOF.out _).mono ?_
          rintro e1 w2 ⟨WA, wcap, rfl, m1, m2, m3, hb2⟩
          have L2 : Hid (LAt w j all (some ⟨b, off, none⟩) (flat j (all.take k)) PA pcap wr.heap.size e WA xs w2) := Lib.hid ⟨HRE.out.next hb2, LE.out.below hb2, m3⟩
          clear m1 m2 m3 hb2 x1 x2 d0 d1 d2 hjb
          obtain ⟨eb, heb⟩ : ∃ eb, eb = wr.heap.size := ⟨_, rfl⟩
          go_wp2_with fail
          rw [← heb] at L2 ⊢
          clear heb HR2 LE HRE
          go_loopw [9, 48] (fun pv i wr => ∃ (m : Nat) (PA : Option Addr) (pcap : Nat), pv = .slice PA (rrows j all (flat j (all.take k) ++ (cells1 j e).take m)).length pcap ∧ i = .int .i64 m ∧ m ≤ xs.length ∧ LAt w j all (some ⟨b, off, none⟩) (flat j (all.take k) ++ (cells1 j e).take m) PA pcap eb e WA xs wr) (fun _ i _ => xs.length - (intOf i).toNat)
          case atStart => exact ⟨0, PA, pcap, by rw [List.take_zero, List.append_nil], rfl, Nat.zero_le _, by rw [List.take_zero, List.append_nil]; exact L2.out⟩
          case round =>
            clear L2
            obtain ⟨m, PA, pcap, rfl, rfl, hm, hL⟩ := hrel
            have HLA := Lib.hid hL
            clear hL
            have hcl := flat_take_len j all k m e (by omega)
            have HCSL := Lib.hid hcl
            obtain ⟨cs, hcs⟩ : ∃ cs, cs = flat j (all.take k) ++ (cells1 j e).take m := ⟨_, rfl⟩
            have HCS := Lib.hid hcs
            rw [← hcs] at HLA HCSL ⊢
            clear hcl hcs
            by_cases hlm : m < xs.length
            · obtain ⟨x, hx⟩ : ∃ x, xs[m]? = some x := ⟨_, List.getElem?_eq_getElem hlm⟩
              obtain ⟨b3, o3, rfl, d0, d1⟩ := HLA.out.win.win hx
              obtain ⟨hp1, hp2⟩ := HRP.out cs x m hx
              have HP1 := Lib.hid hp1
              have HP2 := Lib.hid hp2
              have hw2 := wrapM (k := m) (by have := HXS.out; omega)
              obtain ⟨ps, hps⟩ : ∃ ps, ps = rrows j all cs := ⟨_, rfl⟩
              have HPL : Hid (ps.length < 2000) := Lib.hid (by rw [hps]; exact rrows_len HCSL.out)
              have HWN : Hid (∀ z, ps.any (fun a => decide (a.p = ⟨x.1, x.2, kb e.key⟩)) = false → Pan.wOut j.fold ⟨⟨x.1, x.2, kb e.key⟩, z⟩ ps = (ins j.fold ⟨⟨x.1, x.2, kb e.key⟩, z⟩ ps, 0)) := Lib.hid (fun z h => by rw [hps] at h ⊢; exact wOut_no h (rrows_len HCSL.out))
              have HOR : Hid (Pan.Ord ps) := Lib.hid (by rw [hps]; exact rows_ord _ _ _)
              have HPS := Lib.hid hps
              have hpan := HLA.out.at_.pan
              have hpfew := HLA.out.at_.few
              rw [← hps] at hpan hpfew HP2 ⊢
              obtain ⟨zs, hzs⟩ : ∃ zs, zs = valsOf all e.key x.1 x.2 := ⟨_, rfl⟩
              have HZR : Hid (∀ n ∈ zs, -9223372036854775808 ≤ n ∧ n ≤ 9223372036854775807) := Lib.hid (by
                intro n hn
                rw [hzs] at hn
                obtain ⟨y, hy, rfl⟩ := List.mem_map.1 hn
                exact (HFA.out y (List.mem_filter.1 hy).1).2)
              have HZL : Hid (zs.length ≤ 120) := Lib.hid (by rw [hzs]; exact Nat.le_trans (valsOf_len _ _ _ _) HB.out)
              have HVALS := Lib.hid (fun w' (hr : Row w' (some ⟨b, off, none⟩) (ec all)) => show Calls Try.prog 35 #[.slice (some ⟨b, off, none⟩) N ac, .string e.key, .agg #[.int .i64 x.1, .int .i64 x.2]] w' (GivesN zs w') from by
                rw [hzs, HN.out]; exact rfVals all e.key x.1 x.2 _ ac (by have := HB.out; omega) w' hr)
              obtain ⟨z, hz⟩ : ∃ z, z = Acm.all j.fold zs := ⟨_, rfl⟩
              have HALF := Lib.hid (fun A6 c6 w' (hr : Row w' A6 (zs.map (Value.int .i64))) => show Calls Try.prog 34 #[.int .i64 j.fold, .slice A6 zs.length c6] w' (GivesAc z w') from by
                rw [hz]; exact rfAll j.fold A6 c6 zs w' hr (by have := HZL.out; omega) HZR.out)
              rw [← hzs, ← hz] at HP2
              have HPAN := Lib.hid hpan
              have HPFEW := Lib.hid hpfew
              obtain ⟨wo, hwo⟩ : ∃ wo, wo = wr := ⟨_, rfl⟩
              subst hwo
              have hb5 := below_al (o := .cells #[.int .i64 x.1, .int .i64 x.2] 48) (Below.refl wo.heap.size wo)
              have L5 := Lib.hid (HLA.out.next hb5)
              have P5 := Lib.hid (hpan.below hb5)
              have LW5 := Lib.hid (Lies.new wo #[.int .i64 x.1, .int .i64 x.2] 48)
              obtain ⟨w5, hw5⟩ : ∃ w5, w5 = wo.alloc (.cells #[.int .i64 x.1, .int .i64 x.2] 48) := ⟨_, rfl⟩
              have hsz5 : w5.heap.size = wo.heap.size + 1 := by rw [hw5]; simp
              obtain ⟨wb, hwb⟩ : ∃ wb, wb = wo.heap.size := ⟨_, rfl⟩
              clear hx hps hzs hz hp1 hp2 hpan hpfew hb5
              go_upto_region 14 with fail
              rw [← hw5, ← hwb]
              rw [← hw5] at L5 P5 LW5
              rw [← hwb] at LW5
              have hwb5 := lt_of_block LW5.out
              have heb5 := lt_of_block L5.out.ev
              have hjb5 := lt_of_block L5.out.at_.job
              obtain ⟨jb, hjb⟩ : ∃ jb, jb = w.heap.size := ⟨_, rfl⟩
              rw [← hjb] at hjb5
              have LJ5 := Lib.hid (hjb ▸ L5.out.at_.job)
              have S3 : w5.cell? ⟨wb, 0, none⟩ = some (.int .i64 x.1) ∧ w5.cell? ⟨wb, 1, none⟩ = some (.int .i64 x.2) ∧ w5.cell? ⟨eb, 0, none⟩ = some (.string e.key) ∧ w5.cell? ⟨jb, 3, none⟩ = some (.int .i64 j.fold) ∧ Below w5.heap.size w5 w5 := ⟨LW5.out.cell (j := 0) rfl, LW5.out.cell (j := 1) rfl, L5.out.ev.cell (j := 0) rfl, LJ5.out.cell (j := 3) rfl, Below.refl _ _⟩
              have S0 := keepR (below_drewOf (Below.refl w5.heap.size w5)) S3
              go_cut [14] from 52 to 63 (fun s wx => ∃ pb, s = .pointer (some ⟨pb, 0, none⟩) ∧ Lies pb (pnC x.1 x.2 e.key z) 82 wx ∧ Below w5.heap.size w5 wx)
              case first =>
                rw [← hjb]
                have HJBE := Lib.hid hjb
                clear hw5 hwb hjb d0 d1 HLA hsz5
                go_region_held3 (fun w' => w'.cell? ⟨wb, 0, none⟩ = some (.int .i64 x.1) ∧ w'.cell? ⟨wb, 1, none⟩ = some (.int .i64 x.2) ∧ w'.cell? ⟨eb, 0, none⟩ = some (.string e.key) ∧ w'.cell? ⟨jb, 3, none⟩ = some (.int .i64 j.fold) ∧ Below w5.heap.size w5 w')
                  (first | with_reducible assumption | ((with_reducible refine keepRs ?_ ?_ ?_ ?_ (keepRs ?_ ?_ ?_ ?_ (keepRs ?_ ?_ ?_ ?_ (keepRs ?_ ?_ ?_ ?_ (keepRs ?_ ?_ ?_ ?_ (keepRs ?_ ?_ ?_ ?_ ?_)))))) <;> first | with_reducible assumption | (with_reducible exact HS7.out) | omega) | with_reducible exact keepR (below_drewOf (below_al (Below.refl _ _))) S3 | (with_reducible refine keepR hb5 ?_; with_reducible assumption) | (with_reducible refine keepR (below_al (Below.refl _ _)) ?_; with_reducible assumption) | (with_reducible refine keepR (below_al (Below.refl _ _)) ?_; with_reducible exact HS7.out) | (with_reducible refine keepR (below_al (Below.refl _ _)) ?_; with_reducible exact HS6.out))
                  (first
                    | (go_at_call 35
                       refine (HVALS.out _ (L5.out.at_.row.below (below5 (by with_reducible assumption)))).mono ?_
                       rintro e5 w6 ⟨A6, c6, rfl, r6, hb5⟩
                       have R6 := Lib.hid r6
                       have hz6 := hb5.size
                       (try rw [World.size_drew] at hz6)
                       (try rw [World.size_alloc] at hz6)
                       have HS6 := Lib.hid (keepR hb5 (by with_reducible assumption))
                       have HK6 := Lib.hid (keepLP hb5)
                       (try have hlz := HK6.out _ _ (by first | with_reducible exact (Lies.new _ _ _).drew | with_reducible exact Lies.new _ _ _))
                       (try have HLZ := Lib.hid hlz)
                       (try clear hlz)
                       clear r6
                       dsimp only)
                    | (go_at_call 34
                       refine (HALF.out A6 c6 _ (by first | with_reducible exact R6.out | with_reducible exact R6.out.below (below_al (Below.refl _ _)))).mono ?_
                       rintro e6 w7 ⟨rfl, hb5⟩
                       have hz7 := hb5.size
                       (try rw [World.size_drew] at hz7)
                       (try rw [World.size_alloc] at hz7)
                       have HS7 := Lib.hid (keepR hb5 (by with_reducible assumption))
                       have HK7 := Lib.hid (keepLP hb5)
                       (try have hly := HK7.out _ _ (by first | with_reducible exact HLZ.out | with_reducible exact Lies.new _ _ _))
                       (try have HLY := Lib.hid hly)
                       (try clear hly)
                       (try have z0 := HLY.out.cell (j := 0) rfl)
                       (try have z1 := HLY.out.cell (j := 1) rfl)
                       (try have z2 := HLY.out.cell (j := 2) rfl)
                       (try have z3 := HLY.out.cell (j := 3) rfl)
                       (try have z4 := HLY.out.cell (j := 4) rfl)
                       (try have z5 := HLY.out.cell (j := 5) rfl)
                       (try have f0 := HLY.out.free 0)
                       (try have f1 := HLY.out.free 1)
                       (try have f2 := HLY.out.free 2)
                       (try have f3 := HLY.out.free 3)
                       (try have f4 := HLY.out.free 4)
                       (try have f5 := HLY.out.free 5)
                       dsimp only))
                · have hjb2 := HJBE.out
                  subst hjb2
                  go_wp2_with fail
                  go_meet
                  case rel => exact ⟨_, rfl, Lies.new _ _ _, below_al (below5 HS7.out)⟩
                · have hjb2 := HJBE.out
                  subst hjb2
                  go_wp2_with fail
                  go_meet
                  case rel => exact ⟨_, rfl, lies_set6 HLY.out _ _ _ _ _ _, below_set6M (below5 HS7.out) (by omega) _ _ _ _ _ _⟩
                · have hjb2 := HJBE.out
                  subst hjb2
                  go_wp2_with fail
                  go_meet
                  case rel => exact ⟨_, rfl, lies_set6 HLY.out _ _ _ _ _ _, below_set6M (below5 HS7.out) (by omega) _ _ _ _ _ _⟩
              case rest =>
                obtain ⟨pb, rfl, hLp, hbp⟩ := hcut
                obtain ⟨wa, hwa⟩ : ∃ wa, wa = wc := ⟨_, rfl⟩
                subst hwa
                clear S0 S3 d0 d1 HVALS HALF hwb5 heb5 hjb5 hw5 hwb hjb hsz5 HLA
                have LP := Lib.hid hLp
                have L6 := Lib.hid (L5.out.next hbp)
                have P6 := Lib.hid (P5.out.below hbp)
                have LW6 := Lib.hid (LW5.out.below hbp)
                clear hLp hbp L5 P5 LW5
                have hpl : ps.length ≤ 2000 := by have := HPL.out; omega
                go_wp2_with fail
                go_loopw [15, 66] (fun tv i wr => ∃ n : Nat, tv = .bool ((ps.take n).any fun a => decide (a.p = ⟨x.1, x.2, kb e.key⟩)) ∧ i = .int .i64 n ∧ n ≤ ps.length ∧ Below wa.heap.size wa wr) (fun _ i _ => ps.length - (intOf i).toNat)
                case atStart => exact ⟨0, by simp, rfl, Nat.zero_le _, Below.refl _ _⟩
                case round =>
                  obtain ⟨n, rfl, rfl, hn, hbn⟩ := hrel
                  have HBN := Lib.hid hbn
                  clear hbn
                  obtain ⟨t, ht⟩ : ∃ t, t = (ps.take n).any fun a => decide (a.p = ⟨x.1, x.2, kb e.key⟩) := ⟨_, rfl⟩
                  rw [← ht]
                  have HTT := Lib.hid ht
                  clear ht
                  by_cases hln : n < ps.length
                  · obtain ⟨y, hy⟩ : ∃ y, ps[n]? = some y := ⟨_, List.getElem?_eq_getElem hln⟩
                    obtain ⟨b7, o7, rfl, c0, c1, c2, c3, c4, c5⟩ := (P6.out.below HBN.out).pn hy
                    have HNX : Hid ((ps.take (n + 1)).any (fun a => decide (a.p = ⟨x.1, x.2, kb e.key⟩)) = (t || decide (y.p = ⟨x.1, x.2, kb e.key⟩))) := Lib.hid (by rw [take_push hy, List.any_append, ← HTT.out]; simp)
                    have hw3 := wrapM (k := n) (by omega)
                    have hke := pn_key (y := y) (lo := x.1) (hi := x.2) (key := e.key)
                    have HSM := Lib.hid (pn_same (y := y) (lo := x.1) (hi := x.2) (key := kb e.key))
                    obtain ⟨kk, hkk⟩ : ∃ kk, kk = decide (y.p.key = kb e.key) := ⟨_, rfl⟩
                    rw [← hkk] at hke HSM
                    have hwin : ∀ w, (binOp .eql 48 (.agg #[.int .i64 y.p.lo, .int .i64 y.p.hi]) (.agg #[.int .i64 x.1, .int .i64 x.2])).run Try.prog w = .ok (.bool ((y.p.lo == x.1) && (y.p.hi == x.2))) w := fun w => run_eqPW _ _ _ _ w
                    obtain ⟨ww, hww⟩ : ∃ ww, ww = ((y.p.lo == x.1) && (y.p.hi == x.2)) := ⟨_, rfl⟩
                    rw [← hww] at hwin HSM
                    have v0 := cell_below (LW6.out.cell (j := 0) rfl) HBN.out
                    have v1 := cell_below (LW6.out.cell (j := 1) rfl) HBN.out
                    have v2 := cell_below (L6.out.ev.cell (j := 0) rfl) HBN.out
                    have hlt1 := lt_of_cell v0
                    have hlt2 := lt_of_cell v2
                    simp only at hlt1 hlt2
                    clear hy hkk hww
                    cases t
                    · cases ww
                      · go_wp2_with fail
                        go_roundw
                        case rel => exact ⟨n + 1, by rw [HNX.out, HSM.out]; rfl, rfl, by omega, below_al HBN.out⟩
                        case measure => simp [intOf]; omega
                      · cases kk
                        all_goals
                          go_wp2_with fail
                          go_roundw
                          case rel => exact ⟨n + 1, by rw [HNX.out, HSM.out]; rfl, rfl, by omega, below_al HBN.out⟩
                          case measure => simp [intOf]; omega
                    · go_wp2_with fail
                      go_roundw
                      case rel => exact ⟨n + 1, by rw [HNX.out]; rfl, rfl, by omega, below_al HBN.out⟩
                      case measure => simp [intOf]; omega
                  · have hge2 : ps.length ≤ n := by omega
                    have HT2 : Hid (ps.any (fun a => decide (a.p = ⟨x.1, x.2, kb e.key⟩)) = t) := Lib.hid (by have := HTT.out; rw [List.take_of_length_le hge2] at this; exact this.symm)
                    cases t
                    · have HADD : Hid (rrows j all (cs ++ [(⟨x.1, x.2, kb e.key⟩, e.val)]) = ins j.fold ⟨⟨x.1, x.2, kb e.key⟩, z⟩ ps) := Lib.hid (by rw [HP2.out, HT2.out]; rfl)
                      have HWITH := Lib.hid (fun w' (hr : Row w' PA (pc ps)) => show Calls Try.prog 36 #[.slice PA ps.length pcap, .int .i64 j.fold, .agg (pnC x.1 x.2 e.key z)] w' (GivesPE (ins j.fold ⟨⟨x.1, x.2, kb e.key⟩, z⟩ ps, 0) w') from by
                        have h := rfWith j.fold ⟨⟨x.1, x.2, kb e.key⟩, z⟩ ps PA pcap w' hr hpl HOR.out
                        rw [HWN.out z HT2.out] at h
                        have hk : paV ⟨⟨x.1, x.2, kb e.key⟩, z⟩ = .agg (pnC x.1 x.2 e.key z) := by rw [paV, paC, kS_kb]
                        rwa [hk] at h)
                      have LP7 := LP.out.below HBN.out
                      have g0 := LP7.cell (j := 0) rfl; have g1 := LP7.cell (j := 1) rfl; have g2 := LP7.cell (j := 2) rfl; have g3 := LP7.cell (j := 3) rfl; have g4 := LP7.cell (j := 4) rfl; have g5 := LP7.cell (j := 5) rfl
                      have j3 := (L6.out.at_.job.below HBN.out).cell (j := 3) rfl
                      clear LP7
                      go_wp2_with fail
                      refine (HWITH.out _ (P6.out.below HBN.out)).mono ?_
                      rintro e9 w9 ⟨A9, c9, rfl, k1, k2, k3, hb9⟩
                      simp only at k1 k3
                      have L9 := Lib.hid (L6.out.next (below_next HBN.out hb9))
                      have K3 := Lib.hid k3
                      clear hb9 k3 g0 g1 g2 g3 g4 g5 j3
                      rw [← HADD.out] at k1 K3
                      simp only
                      rw [← HADD.out]
                      go_wp2_with fail
                      go_roundw
                      case rel =>
                        have e1 : flat j (all.take k) ++ (cells1 j e).take (m + 1) = cs ++ [(⟨x.1, x.2, kb e.key⟩, e.val)] := by rw [HP1.out, HCS.out, List.append_assoc]
                        exact ⟨m + 1, A9, c9, by rw [e1], rfl, by omega, by rw [e1]; exact ⟨⟨L9.out.at_.job, L9.out.at_.row, K3.out, k1, k2, L9.out.at_.below⟩, L9.out.ev, L9.out.win⟩⟩
                      case measure => simp [intOf]; omega
                    · have HADD : Hid (rrows j all (cs ++ [(⟨x.1, x.2, kb e.key⟩, e.val)]) = ps) := Lib.hid (by rw [HP2.out, HT2.out]; rfl)
                      go_wp2_with fail
                      go_roundw
                      case rel =>
                        have e1 : flat j (all.take k) ++ (cells1 j e).take (m + 1) = cs ++ [(⟨x.1, x.2, kb e.key⟩, e.val)] := by rw [HP1.out, HCS.out, List.append_assoc]
                        have L9 := L6.out.next HBN.out
                        exact ⟨m + 1, PA, pcap, by rw [e1, HADD.out], rfl, by omega, by rw [e1]; exact ⟨⟨L9.at_.job, L9.at_.row, by rw [HADD.out]; exact P6.out.below HBN.out, by rw [HADD.out]; exact HPFEW.out, L9.at_.cap, L9.at_.below⟩, L9.ev, L9.win⟩⟩
                      case measure => simp [intOf]; omega
            · have hge2 : xs.length ≤ m := by omega
              have HEND : Hid (cs = flat j (all.take (k + 1))) := Lib.hid (by rw [HCS.out, HFP.out, List.take_of_length_le (l := cells1 j e) (by rw [HCL.out]; exact hge2)])
              rw [HEND.out] at HLA ⊢
              go_wp2_with fail
              go_roundw
              case rel => exact ⟨k + 1, PA, pcap, rfl, rfl, by omega, HLA.out.at_⟩
              case measure => simp [intOf]; omega
        · have hkN : k = N := by omega
          have HEND : Hid (rrows j all (flat j (all.take k)) = panes j all) := Lib.hid (by rw [hkN, HN.out, List.take_length]; exact rrows_all HJ.out all)
          have HPQ : Hid (Row wr PA (pc (panes j all))) := Lib.hid (HEND.out ▸ HR2.out.pan)
          have HRES := Lib.hid (fun w' (hr : Row w' PA (pc (panes j all))) => show Calls Try.prog 37 #[.int .i64 j.fold, .slice PA (panes j all).length pcap] w' (GivesR (res j all) w') from by
            have h := rfResults j.fold (panes j all) PA pcap w' hr (by have := panes_len j all; have := HB.out; omega)
            rwa [res_eq HJ.out HIS.out HB.out] at h)
          have x3 := HR2.out.job.cell (j := 3) rfl
          rw [HEND.out]
          clear hkN
          go_wp2_with fail
          refine (HRES.out _ HPQ.out).mono ?_
          rintro e9 w9 ⟨A9, c9, rfl, k1, k2, k3, hb9⟩
          have HB9 := Lib.hid (below_next HR2.out.below hb9)
          have K3 := Lib.hid k3
          clear hb9 k3 x3
          go_wp2_with fail
          go_ret2
          exact ⟨A9, c9, rfl, k1, k2, K3.out, HB9.out⟩
end Mo
end Go.Proofs.Ytipmphkmeiogoaa
