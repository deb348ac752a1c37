/- The reference's With, Parts, Without: rows that are built. -/
import Derived.Test.YtklgehfbfokdlaaTimRef
import Derived.Test.YtklgehfbfokdlaaTimDrop
namespace Go.Proofs.Ytklgehfbfokdlaa
open Go.RowKit
set_option linter.unusedVariables false
namespace Tim
theorem Built.new_ (w w1 : World) (hb : Below w.heap.size w w1) : Built w (w1.alloc (.cells #[] 27)) (.slice (some ⟨w1.heap.size, 0, none⟩) 0 0) [] := ⟨own_new hb.size, below_al hb⟩
theorem GivesL.of {w w' : World} {v : Value} {ms : List Tm} (h : Built w w' v ms) : GivesL ms w (.returned v) w' := ⟨v, rfl, h.own, h.below⟩
theorem ins_last {x : Tm} {a : List Tm} (h : ∀ t ∈ a, ahead x t = false) : ins x a = a ++ [x] := by
  induction a with
  | nil => rfl
  | cons t r ih =>
    unfold ins
    rw [if_neg (by simp [h t (by simp)]), ih fun t ht => h t (by simp [ht])]
    rfl
theorem ins_here {x t : Tm} {a : List Tm} (h : ∀ t ∈ a, ahead x t = false) (ht : ahead x t = true) : ins x (a ++ [t]) = a ++ [x] ++ [t] := by
  induction a with
  | nil => simp [ins, ht]
  | cons u r ih =>
    rw [List.cons_append]
    unfold ins
    rw [if_neg (by simp [h u (by simp)]), ih fun t ht => h t (by simp [ht])]
    rfl
theorem ins_on {x t : Tm} {a : List Tm} (h : ∃ t ∈ a, ahead x t = true) : ins x (a ++ [t]) = ins x a ++ [t] := by
  induction a with
  | nil => obtain ⟨_, h, _⟩ := h; cases h
  | cons u r ih =>
    rw [List.cons_append]
    by_cases hu : ahead x u = true
    · simp [ins, hu]
    · have : ∃ t ∈ r, ahead x t = true := by
        obtain ⟨t, ht, h2⟩ := h
        rcases List.mem_cons.1 ht with rfl | ht
        · exact absurd h2 hu
        · exact ⟨t, ht, h2⟩
      simp [ins, hu, ih this]
/-- Where With's loop stands. -/
structure WithTo (x : Tm) (l : List Tm) (bx : Nat) (w : World) (k : Nat) (b : Bool) (out : List Tm) (v : Value) (wr : World) : Prop where
  le : k ≤ l.length
  case : (b = false ∧ out = l.take k ∧ ∀ t ∈ l.take k, ahead x t = false) ∨ (b = true ∧ out = ins x (l.take k) ∧ ∃ t ∈ l.take k, ahead x t = true)
  built : Built w wr v out
  box : Lies bx (tmC x) 27 wr
  far : v.ownBlock ≠ some bx
theorem WithTo.len {x : Tm} {l : List Tm} {bx : Nat} {w : World} {k : Nat} {b : Bool} {out : List Tm} {v : Value} {wr : World} (h : WithTo x l bx w k b out v wr) : out.length ≤ l.length + 1 := by
  rcases h.case with ⟨_, h1, _⟩ | ⟨_, h1, _⟩
  · rw [h1, List.length_take]; omega
  · rw [h1, ins_len, List.length_take]; omega
set_option maxHeartbeats 2000000 in
theorem rfWith (x : Tm) (l : List Tm) (A : Option Addr) (c : Nat) (w : World) (hA : Row w A (tc l)) (hl : l.length ≤ 10000) :
    Calls Try.prog 11 #[.slice A l.length c, tmV x] w (GivesL (ins x l) w) := by
  have HA := Lib.hid hA
  clear hA
  obtain ⟨n, hn⟩ : ∃ n, n = l.length := ⟨_, rfl⟩
  rw [← hn] at hl ⊢
  have HN := Lib.hid hn
  clear hn
  have hbx := Lib.hid (below_al (o := .cells (tmC x) 27) (Below.refl w.heap.size w))
  have HB0 := Lib.hid (Built.new_ w _ hbx.out)
  have HX0 := Lib.hid ((Lies.new w (tmC x) 27).al (o := .cells #[] 27))
  rw [World.size_alloc] at HB0
  go_enter Try.func11, Try.ntmps11
  go_wp2_with fail
  go_loopw [12, 6, 5] (fun s12 s6 s5 wr => ∃ (k : Nat) (b : Bool) (out : List Tm), s12 = .int .i64 k ∧ s6 = .bool b ∧ WithTo x l w.heap.size w k b out s5 wr) (fun s12 _ _ _ => n - (intOf s12).toNat)
  case atStart => exact ⟨0, false, [], rfl, rfl, Nat.zero_le _, .inl ⟨rfl, rfl, fun t ht => by cases ht⟩, HB0.out, HX0.out, by intro e; simp [Value.ownBlock] at e⟩
  case round =>
    clear HB0 HX0 hbx
    obtain ⟨k, b, out, rfl, rfl, hat⟩ := hrel
    have HT := Lib.hid hat
    clear hat
    have x0 := HT.out.box.cell (j := 0) rfl
    have x1 := HT.out.box.cell (j := 1) rfl
    have hxl := lt_of_block HT.out.box
    by_cases hlt : k < n
    · obtain ⟨t, ht⟩ : ∃ t, l[k]? = some t := ⟨_, List.getElem?_eq_getElem (by rw [← HN.out]; exact hlt)⟩
      obtain ⟨bb, off, rfl, c0, c1⟩ := row_at (HA.out.below HT.out.built.below) ht
      have HK := Lib.hid (take_one ht)
      have HKL := Lib.hid (List.getElem?_eq_some_iff.1 ht).1
      clear ht
      have HBT := Lib.hid (HT.out.built.up (below_al (o := .cells (tmC t) 27) (Below.refl _ _)))
      have HLT := Lib.hid (Lies.new wr (tmC t) 27)
      have HLX := Lib.hid (HT.out.box.al (o := .cells (tmC t) 27))
      have HFT : Hid (u5.ownBlock ≠ some wr.heap.size) := Lib.hid fun e => by have := (HT.out.built.far e).2; omega
      have HOL := Lib.hid HT.out.len
      cases b with
      | true =>
        go_wp2_with (at_builtin; refine hold_mk ?_)
        refine hold_out ?_
        refine wpPush rfl _ _ rfl _ out rfl (HBT.out.up (below_al (o := .cells (tmC t) 27) (Below.refl _ _))) _ 1 1 [t] rfl (by have h := one_row (wr.alloc (.cells (tmC t) 27)) t; rw [World.size_alloc] at h; exact h) rfl (by have := HOL.out; have := HN.out; simp; omega) ?_
        intro v2 w2 hb2 hg2 hl2
        have HB2 := Lib.hid hb2
        have HX2 := Lib.hid (lies_grownR (HLX.out.al (o := .cells (tmC t) 27)) hg2 HT.out.far)
        have HF2 : Hid (v2.ownBlock ≠ some w.heap.size) := Lib.hid fun e => by
          rcases hl2 with e2 | e2
          · exact HT.out.far (e2 ▸ e)
          · rw [e2] at e; have := Option.some.inj e; simp at this; omega
        clear hb2 hg2 hl2
        go_wp2_with fail
        go_roundw
        case rel =>
          refine ⟨k + 1, true, out ++ [t], by go_num, rfl, HKL.out, .inr ⟨rfl, ?_, ?_⟩, HB2.out, HX2.out, HF2.out⟩
          · obtain ⟨_, h1, h2⟩ := HT.out.case.elim (fun h => by cases h.1) fun h => h
            rw [HK.out, ins_on h2, h1]
          · obtain ⟨_, h1, u, h2, h3⟩ := HT.out.case.elim (fun h => by cases h.1) fun h => h
            exact ⟨u, by rw [HK.out]; exact List.mem_append_left _ h2, h3⟩
        case measure => simp [intOf]; omega
      | false =>
        cases hq : ahead x t with
        | false =>
          have HD := Lib.hid (fun W => rfAhead x t W)
          rw [hq] at HD
          have HQ := Lib.hid hq
          clear hq
          go_wp2_with first
            | (go_at_call 20
               refine (HD.out _).mono ?_
               rintro e w1 ⟨rfl, hb1⟩
               have t0 := (HLT.out.below hb1).cell (j := 0) rfl
               have t1 := (HLT.out.below hb1).cell (j := 1) rfl
               have htl := lt_of_block (HLT.out.below hb1)
               have HB1 := Lib.hid hb1
               clear hb1)
            | (at_builtin; refine hold_mk ?_)
          refine hold_out ?_
          refine wpPush rfl _ _ rfl _ out rfl ((HBT.out.up HB1.out).up (below_al (o := .cells (tmC t) 27) (Below.refl _ _))) _ 1 1 [t] rfl (one_row w1 t) rfl (by have := HOL.out; have := HN.out; simp; omega) ?_
          intro v2 w2 hb2 hg2 hl2
          have HB2 := Lib.hid hb2
          have HX2 := Lib.hid (lies_grownR ((HLX.out.below HB1.out).al (o := .cells (tmC t) 27)) hg2 HT.out.far)
          have HF2 : Hid (v2.ownBlock ≠ some w.heap.size) := Lib.hid fun e => by
            rcases hl2 with e2 | e2
            · exact HT.out.far (e2 ▸ e)
            · rw [e2] at e; have := Option.some.inj e; have := HB1.out.size; simp at *; omega
          clear hb2 hg2 hl2
          go_wp2_with fail
          go_roundw
          case rel =>
            obtain ⟨_, h1, h2⟩ := HT.out.case.elim (fun h => h) fun h => by cases h.1
            refine ⟨k + 1, false, out ++ [t], by go_num, rfl, HKL.out, .inl ⟨rfl, by rw [HK.out, h1], fun u hu => ?_⟩, HB2.out, HX2.out, HF2.out⟩
            rw [HK.out] at hu
            rcases List.mem_append.1 hu with hu | hu
            · exact h2 u hu
            · rw [List.mem_singleton.1 hu]; exact HQ.out
          case measure => simp [intOf]; omega
        | true =>
          have HD := Lib.hid (fun W => rfAhead x t W)
          rw [hq] at HD
          have HQ := Lib.hid hq
          clear hq
          go_wp2_with first
            | (go_at_call 20
               refine (HD.out _).mono ?_
               rintro e w1 ⟨rfl, hb1⟩
               have t0 := (HLX.out.below hb1).cell (j := 0) rfl
               have t1 := (HLX.out.below hb1).cell (j := 1) rfl
               have htl := lt_of_block (HLX.out.below hb1)
               have HB1 := Lib.hid hb1
               clear hb1)
            | (at_builtin; refine hold_mk ?_)
          refine hold_out ?_
          refine wpPush rfl _ _ rfl _ out rfl ((HBT.out.up HB1.out).up (below_al (o := .cells (tmC x) 27) (Below.refl _ _))) _ 1 1 [x] rfl (one_row w1 x) rfl (by have := HOL.out; have := HN.out; simp; omega) ?_
          intro v2 w2 hb2 hg2 hl2
          have HB2 := Lib.hid hb2
          have HX2 := Lib.hid (lies_grownR ((HLX.out.below HB1.out).al (o := .cells (tmC x) 27)) hg2 HT.out.far)
          have HT2 := Lib.hid (lies_grownR ((HLT.out.below HB1.out).al (o := .cells (tmC x) 27)) hg2 HFT.out)
          have HF2 : Hid (v2.ownBlock ≠ some w.heap.size) := Lib.hid fun e => by
            rcases hl2 with e2 | e2
            · exact HT.out.far (e2 ▸ e)
            · rw [e2] at e; have := Option.some.inj e; have := HB1.out.size; simp at *; omega
          have s0 := HT2.out.cell (j := 0) rfl
          have s1 := HT2.out.cell (j := 1) rfl
          have hsl := lt_of_block HT2.out
          clear hb2 hg2 hl2 t0 t1 htl
          go_wp2_with (at_builtin; refine hold_mk ?_)
          refine hold_out ?_
          refine wpPush rfl _ _ rfl _ _ rfl (HB2.out.up (below_al (o := .cells (tmC t) 27) (Below.refl _ _))) _ 1 1 [t] rfl (one_row w2 t) rfl (by have := HOL.out; have := HN.out; simp; omega) ?_
          intro v3 w3 hb3 hg3 hl3
          have HB3 := Lib.hid hb3
          have HX3 := Lib.hid (lies_grownR (HX2.out.al (o := .cells (tmC t) 27)) hg3 HF2.out)
          have HF3 : Hid (v3.ownBlock ≠ some w.heap.size) := Lib.hid fun e => by
            rcases hl3 with e2 | e2
            · exact HF2.out (e2 ▸ e)
            · rw [e2] at e; have := Option.some.inj e; have := lt_of_block HX2.out; simp at *; omega
          clear hb3 hg3 hl3
          go_wp2_with fail
          go_roundw
          case rel =>
            obtain ⟨_, h1, h2⟩ := HT.out.case.elim (fun h => h) fun h => by cases h.1
            exact ⟨k + 1, true, out ++ [x] ++ [t], by go_num, rfl, HKL.out, .inr ⟨rfl, by rw [HK.out, ins_here h2 HQ.out, h1], t, by rw [HK.out]; simp, HQ.out⟩, HB3.out, HX3.out, HF3.out⟩
          case measure => simp [intOf]; omega
    · have hkn : k = n := by have := HT.out.le; have := HN.out; omega
      have HKN : Hid (l.take k = l) := Lib.hid (by rw [hkn, HN.out, List.take_length])
      have hge : n ≤ k := by omega
      clear hkn
      have HOL := Lib.hid HT.out.len
      cases b with
      | true =>
        go_wp2_with fail
        go_ret
        obtain ⟨_, h1, _⟩ := HT.out.case.elim (fun h => by cases h.1) fun h => h
        rw [HKN.out] at h1
        rw [← h1]
        exact GivesL.of HT.out.built
      | false =>
        go_wp2_with (at_builtin; refine hold_mk ?_)
        refine hold_out ?_
        refine wpPush rfl _ _ rfl _ out rfl (HT.out.built.up (below_al (o := .cells (tmC x) 27) (Below.refl _ _))) _ 1 1 [x] rfl (one_row wr x) rfl (by have := HOL.out; have := HN.out; simp; omega) ?_
        intro v2 w2 hb2 hg2 hl2
        have HB2 := Lib.hid hb2
        clear hb2 hg2 hl2
        go_wp2_with fail
        go_ret
        obtain ⟨_, h1, h2⟩ := HT.out.case.elim (fun h => h) fun h => by cases h.1
        rw [HKN.out] at h1 h2
        rw [ins_last h2, ← h1]
        exact GivesL.of HB2.out
theorem others_take {d : List Tm} {nm : List UInt8} {j : Nat} {x : Tm} (h : d[j]? = some x) : others nm (d.take (j + 1)) = others nm (d.take j) ++ (if x.name = nm then [] else [x]) := by
  rw [take_one h]
  unfold others
  rw [List.filter_append]
  by_cases hq : x.name = nm <;> simp [hq]
/-- Where Without's loop stands. -/
structure OutTo (nm : List UInt8) (l : List Tm) (w : World) (k : Nat) (v : Value) (wr : World) : Prop where
  le : k ≤ l.length
  built : Built w wr v (others nm (l.take k))
set_option maxHeartbeats 2000000 in
theorem rfWithout (nm : List UInt8) (l : List Tm) (A : Option Addr) (c : Nat) (w : World) (hA : Row w A (tc l)) (hl : l.length ≤ 10000) :
    Calls Try.prog 16 #[.slice A l.length c, .string (kS nm)] w (GivesL (others nm l) w) := by
  have HA := Lib.hid hA
  clear hA
  obtain ⟨n, hn⟩ : ∃ n, n = l.length := ⟨_, rfl⟩
  rw [← hn] at hl ⊢
  have HN := Lib.hid hn
  clear hn
  have HB0 := Lib.hid (Built.new_ w _ (Below.refl _ _))
  go_enter Try.func16, Try.ntmps16
  go_wp2_with fail
  go_loopw [11, 5] (fun s11 s5 wr => ∃ (k : Nat), s11 = .int .i64 k ∧ OutTo nm l w k s5 wr) (fun s11 _ _ => n - (intOf s11).toNat)
  case atStart => exact ⟨0, rfl, Nat.zero_le _, HB0.out⟩
  case round =>
    clear HB0
    obtain ⟨k, rfl, hat⟩ := hrel
    have HT := Lib.hid hat
    clear hat
    by_cases hlt : k < n
    · obtain ⟨t, ht⟩ : ∃ t, l[k]? = some t := ⟨_, List.getElem?_eq_getElem (by rw [← HN.out]; exact hlt)⟩
      obtain ⟨bb, off, rfl, c0, c1⟩ := row_at (HA.out.below HT.out.built.below) ht
      have HK := Lib.hid (others_take (nm := nm) ht)
      have HKL := Lib.hid (List.getElem?_eq_some_iff.1 ht).1
      clear ht
      have HBT := Lib.hid (HT.out.built.up (below_al (o := .cells (tmC t) 27) (Below.refl _ _)))
      have HOL := Lib.hid (others_le nm (l.take k))
      by_cases hq : t.name = nm
      · have h4 : ((kS t.name).toList == (kS nm).toList) = true := by rw [kS_list, kS_list, beq_iff_eq]; exact hq
        rw [if_pos hq, List.append_nil] at HK
        clear hq
        go_wp2_with fail
        go_roundw
        case rel => exact ⟨k + 1, by go_num, HKL.out, by rw [HK.out]; exact HBT.out⟩
        case measure => simp [intOf]; omega
      · have h4 : ((kS t.name).toList == (kS nm).toList) = false := by rw [kS_list, kS_list, beq_eq_false_iff_ne]; exact hq
        rw [if_neg hq] at HK
        clear hq
        go_wp2_with (at_builtin; refine hold_mk ?_)
        refine hold_out ?_
        refine wpPush rfl _ _ rfl _ _ rfl (HBT.out.up (below_al (o := .cells (tmC t) 27) (Below.refl _ _))) _ 1 1 [t] rfl (by have h := one_row (wr.alloc (.cells (tmC t) 27)) t; rw [World.size_alloc] at h; exact h) rfl (by have := HOL.out; have := HN.out; rw [List.length_take] at *; simp; omega) ?_
        intro v2 w2 hb2 hg2 hl2
        have HB2 := Lib.hid hb2
        clear hb2 hg2 hl2
        go_wp2_with fail
        go_roundw
        case rel => exact ⟨k + 1, by go_num, HKL.out, by rw [HK.out]; exact HB2.out⟩
        case measure => simp [intOf]; omega
    · have hkn : k = n := by have := HT.out.le; have := HN.out; omega
      have HKN : Hid (l.take k = l) := Lib.hid (by rw [hkn, HN.out, List.take_length])
      have hge : n ≤ k := by omega
      clear hkn
      go_wp2_with fail
      go_ret
      have h1 := HT.out.built
      rw [HKN.out] at h1
      exact GivesL.of h1
/-- Two rows that are being built. -/
structure Two (w0 w : World) (v1 v2 : Value) (m1 m2 : List Tm) : Prop where
  a : Built w0 w v1 m1
  b : Built w0 w v2 m2
  ne : ∀ q, v1.ownBlock = some q → v2.ownBlock ≠ some q
theorem Two.up {w0 a b : World} {v1 v2 : Value} {m1 m2 : List Tm} (h : Two w0 a v1 v2 m1 m2) (hb : Below a.heap.size a b) : Two w0 b v1 v2 m1 m2 := ⟨h.a.up hb, h.b.up hb, h.ne⟩
theorem Two.pushA {w0 a b : World} {v1 v2 v' : Value} {m1 m2 m' : List Tm} (h : Two w0 a v1 v2 m1 m2) (bt : Built w0 b v' m') (hg : a.grownBy b v1.ownBlock) (hat : v'.ownBlock = v1.ownBlock ∨ v'.ownBlock = some a.heap.size) : Two w0 b v' v2 m' m2 :=
  ⟨bt, h.b.keep hg (fun q hq e => h.ne q e hq) bt.below, fun q hq => by
    rcases hat with e | e
    · rw [e] at hq; exact h.ne q hq
    · rw [e] at hq; intro h2; have := (h.b.far h2).2; have := Option.some.inj hq; omega⟩
theorem Two.pushB {w0 a b : World} {v1 v2 v' : Value} {m1 m2 m' : List Tm} (h : Two w0 a v1 v2 m1 m2) (bt : Built w0 b v' m') (hg : a.grownBy b v2.ownBlock) (hat : v'.ownBlock = v2.ownBlock ∨ v'.ownBlock = some a.heap.size) : Two w0 b v1 v' m1 m' :=
  ⟨h.a.keep hg (fun q hq => h.ne q hq) bt.below, bt, fun q hq => by
    rcases hat with e | e
    · rw [e]; exact h.ne q hq
    · rw [e]; intro h2; have := (h.a.far hq).2; have := Option.some.inj h2; omega⟩
theorem due_take {m : Int} {l : List Tm} {j : Nat} {x : Tm} (h : l[j]? = some x) : due m (l.take (j + 1)) = due m (l.take j) ++ (if x.at_ ≤ m then [x] else []) ∧ rest m (l.take (j + 1)) = rest m (l.take j) ++ (if x.at_ ≤ m then [] else [x]) := by
  rw [take_one h]
  unfold due rest
  rw [List.filter_append, List.filter_append]
  by_cases hq : x.at_ ≤ m <;> simp [hq]
/-- Hands back two rows of its own. -/
def GivesLL (xs ys : List Tm) (w : World) (e : Ending) (w' : World) : Prop := ∃ v1 v2, e = .returned (.tuple #[v1, v2]) ∧ Two w w' v1 v2 xs ys
structure PartTo (m : Int) (l : List Tm) (w : World) (k : Nat) (v1 v2 : Value) (wr : World) : Prop where
  le : k ≤ l.length
  two : Two w wr v1 v2 (due m (l.take k)) (rest m (l.take k))
theorem due_le (m : Int) (l : List Tm) : (due m l).length ≤ l.length := List.length_filter_le _ _
theorem rest_le (m : Int) (l : List Tm) : (rest m l).length ≤ l.length := List.length_filter_le _ _
set_option maxHeartbeats 2000000 in
theorem rfParts (m : Int) (l : List Tm) (A : Option Addr) (c : Nat) (w : World) (hA : Row w A (tc l)) (hl : l.length ≤ 10000) :
    Calls Try.prog 13 #[.slice A l.length c, .int .i64 m] w (GivesLL (due m l) (rest m l) w) := by
  have HA := Lib.hid hA
  clear hA
  obtain ⟨n, hn⟩ : ∃ n, n = l.length := ⟨_, rfl⟩
  rw [← hn] at hl ⊢
  have HN := Lib.hid hn
  clear hn
  have HB0 : Hid (Two w ((w.alloc (.cells #[] 27)).alloc (.cells #[] 27)) (.slice (some ⟨w.heap.size, 0, none⟩) 0 0) (.slice (some ⟨w.heap.size + 1, 0, none⟩) 0 0) [] []) := by
    have h2 := Built.new_ w (w.alloc (.cells #[] 27)) (below_al (Below.refl _ _))
    rw [World.size_alloc] at h2
    exact Lib.hid ⟨(Built.new_ w _ (Below.refl _ _)).up (below_al (Below.refl _ _)), h2, fun q hq e => by simp [Value.ownBlock] at hq e; omega⟩
  go_enter Try.func13, Try.ntmps13
  go_wp2_with fail
  go_loopw [14, 6, 7] (fun s14 s6 s7 wr => ∃ (k : Nat), s14 = .int .i64 k ∧ PartTo m l w k s6 s7 wr) (fun s14 _ _ _ => n - (intOf s14).toNat)
  case atStart => exact ⟨0, rfl, Nat.zero_le _, HB0.out⟩
  case round =>
    clear HB0
    obtain ⟨k, rfl, hat⟩ := hrel
    have HT := Lib.hid hat
    clear hat
    by_cases hlt : k < n
    · obtain ⟨t, ht⟩ : ∃ t, l[k]? = some t := ⟨_, List.getElem?_eq_getElem (by rw [← HN.out]; exact hlt)⟩
      obtain ⟨bb, off, rfl, c0, c1⟩ := row_at (HA.out.below HT.out.two.a.below) ht
      have HK := Lib.hid (due_take (m := m) ht)
      have HKL := Lib.hid (List.getElem?_eq_some_iff.1 ht).1
      clear ht
      have HBT := Lib.hid ((HT.out.two.up (below_al (o := .cells (tmC t) 27) (Below.refl _ _))).up (below_al (o := .cells (tmC t) 27) (Below.refl _ _)))
      have HOL := Lib.hid (due_le m (l.take k))
      have HRL := Lib.hid (rest_le m (l.take k))
      by_cases hq : t.at_ ≤ m
      · rw [if_pos hq, if_pos hq, List.append_nil] at HK
        go_wp2_with (at_builtin; refine hold_mk ?_)
        refine hold_out ?_
        refine wpPush rfl _ _ rfl _ _ rfl HBT.out.a _ 1 1 [t] rfl (by have h := one_row (wr.alloc (.cells (tmC t) 27)) t; rw [World.size_alloc] at h; exact h) rfl (by have := HOL.out; have := HN.out; rw [List.length_take] at *; simp; omega) ?_
        intro v2 w2 hb2 hg2 hl2
        have HB2 := Lib.hid (HBT.out.pushA hb2 hg2 hl2)
        clear hb2 hg2 hl2
        go_wp2_with fail
        go_roundw
        case rel => exact ⟨k + 1, by go_num, HKL.out, by rw [HK.out.1, HK.out.2]; exact HB2.out⟩
        case measure => simp [intOf]; omega
      · rw [if_neg hq, if_neg hq, List.append_nil] at HK
        go_wp2_with (at_builtin; refine hold_mk ?_)
        refine hold_out ?_
        refine wpPush rfl _ _ rfl _ _ rfl HBT.out.b _ 1 1 [t] rfl (by have h := one_row (wr.alloc (.cells (tmC t) 27)) t; rw [World.size_alloc] at h; exact h) rfl (by have := HRL.out; have := HN.out; rw [List.length_take] at *; simp; omega) ?_
        intro v2 w2 hb2 hg2 hl2
        have HB2 := Lib.hid (HBT.out.pushB hb2 hg2 hl2)
        clear hb2 hg2 hl2
        go_wp2_with fail
        go_roundw
        case rel => exact ⟨k + 1, by go_num, HKL.out, by rw [HK.out.1, HK.out.2]; exact HB2.out⟩
        case measure => simp [intOf]; omega
    · have hkn : k = n := by have := HT.out.le; have := HN.out; omega
      have HKN : Hid (l.take k = l) := Lib.hid (by rw [hkn, HN.out, List.take_length])
      have hge : n ≤ k := by omega
      clear hkn
      go_wp2_with fail
      go_ret2
      have h1 := HT.out.two
      rw [HKN.out] at h1
      exact ⟨_, _, rfl, h1⟩
end Tim
end Go.Proofs.Ytklgehfbfokdlaa
