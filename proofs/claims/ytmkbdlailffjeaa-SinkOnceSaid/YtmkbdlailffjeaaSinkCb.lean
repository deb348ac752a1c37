/- The code's rightStages, has. -/
import Derived.Test.YtmkbdlailffjeaaSinkCa
namespace Go.Proofs.Ytmkbdlailffjeaa
open Go.ChangeShapes Go.WideShapes Go.ChangeAt Go.RowKit
set_option linter.unusedVariables false
set_option maxRecDepth 8000
namespace Sk
open Gen (TellsB row_one flat_len flat_get Mine)
abbrev sgV (x : Sg) (m : Nat) : Value := .agg #[.int .i64 x.1, .slice x.2.1 m x.2.2.1]
theorem ckNotSt (x : Sg) (m : Nat) (hm : m = x.2.2.2.length) (r : Bool) (hr : r = x.2.2.2.all okR) (w : World) (h : Row w x.2.1 (rec_ x.2.2.2)) (hl : m ≤ 4611686018427387904) : Calls Try.prog 41 #[sgV x m] w (TellsB (!r) w) := by
  have hb0 := below_al (o := .cells #[.int .i64 x.1, .slice x.2.1 m x.2.2.1] 50) (Below.refl w.heap.size w)
  have HC := Lib.hid (fun w' (hb : Below w.heap.size w w') => ckAllR x.2.2.2 m x.2.1 x.2.2.1 r hm hr w' (h.below hb) hl)
  have HB := Lib.hid hb0
  have L := Lib.hid (Lies.new w #[.int .i64 x.1, .slice x.2.1 m x.2.2.1] 50)
  clear hb0 hr h hm hl
  go_enter Try.func41, Try.ntmps41
  go_upto_region 1 with fail
  obtain ⟨tb, htb⟩ : ∃ b, b = w.heap.size := ⟨_, rfl⟩
  obtain ⟨W, hW⟩ : ∃ W, W = w.alloc (.cells #[.int .i64 x.1, .slice x.2.1 m x.2.2.1] 50) := ⟨_, rfl⟩
  rw [← hW] at L HB ⊢
  rw [← htb] at L ⊢
  clear hW htb
  have x1 := L.out.cell (j := 1) rfl
  go_wp2_with fail
  refine (HC.out _ HB.out).mono ?_
  rintro e w1 ⟨rfl, hb1⟩
  have HB1 := Lib.hid (below_next HB.out hb1)
  clear hb1 x1
  go_wp2_with fail
  go_ret
  exact ⟨rfl, HB1.out⟩
theorem ckHas1 (x : Sg) (m : Nat) (n : Int) (b : Nat) (w : World) (hc : w.cell? ⟨b, 0, none⟩ = some (.int .i64 n)) : Calls Try.prog 42 #[sgV x m, .pointer (some ⟨b, 0, none⟩)] w (TellsB (decide (x.1 = n)) w) := by
  have hb0 := below_al (o := .cells #[.int .i64 x.1, .slice x.2.1 m x.2.2.1] 50) (Below.refl w.heap.size w)
  have HB := Lib.hid hb0
  have L := Lib.hid (Lies.new w #[.int .i64 x.1, .slice x.2.1 m x.2.2.1] 50)
  have HC := Lib.hid (Gen.cell_below hc hb0)
  obtain ⟨q, hq⟩ : ∃ q, q = decide (x.1 = n) := ⟨_, rfl⟩
  have g1 : (x.1 == n) = q := by rw [hq]; by_cases e : x.1 = n <;> simp [e]
  rw [← hq]
  clear hb0 hc hq
  go_enter Try.func42, Try.ntmps42
  go_upto_region 1 with fail
  obtain ⟨tb, htb⟩ : ∃ b, b = w.heap.size := ⟨_, rfl⟩
  obtain ⟨W, hW⟩ : ∃ W, W = w.alloc (.cells #[.int .i64 x.1, .slice x.2.1 m x.2.2.1] 50) := ⟨_, rfl⟩
  rw [← hW] at L HB HC ⊢
  rw [← htb] at L ⊢
  clear hW htb
  have x0 := L.out.cell (j := 0) rfl
  have c0 := HC.out
  go_wp2_with fail
  go_ret
  exact ⟨rfl, HB.out⟩
def okG (x : Pg) : Bool := x.2.all okR
theorem any_not {l : List Pg} {f : Pg → Bool} {n : Nat} (hn : n = l.length) (h : ∀ i x, i < n → l[i]? = some x → f x = false) : l.any f = false := by
  rw [List.any_eq_false]
  intro x hx
  obtain ⟨i, hi⟩ := List.getElem?_of_mem hx
  rw [h i x (by rw [hn]; exact (List.getElem?_eq_some_iff.1 hi).1) hi]
  simp
theorem any_of {l : List Pg} {f : Pg → Bool} {i : Nat} {x : Pg} (hx : l[i]? = some x) (h : f x = true) : l.any f = true :=
  List.any_eq_true.2 ⟨x, List.mem_of_getElem? hx, h⟩
/-- The place of one for which it holds, or none. -/
def AtAny (r : Bool) (w : World) (e : Ending) (w' : World) : Prop := Below w.heap.size w w' ∧ ((∃ p : Nat, e = .returned (.int .i64 p) ∧ r = true) ∨ (e = .returned (.int .i64 (-1)) ∧ r = false))
set_option maxRecDepth 100000 in
set_option maxHeartbeats 1000000 in
theorem ckIdxG (sg : List Sg) (st : List Pg) (hg : sg.map pgOf = st) (n : Nat) (A : Option Addr) (c : Nat) (r : Bool) (hn : n = st.length) (hr : r = st.any (fun x => !okG x)) (w : World) (h : GAt w A sg) (hl : n ≤ 4611686018427387904) (hle : ∀ x ∈ st, x.2.length ≤ 4611686018427387904) :
    Calls Try.prog 47 #[.slice A n c, .func (.func 41) #[] #[]] w (AtAny r w) := by
  have HR := Lib.hid h
  have HN := Lib.hid hn
  have HRR := Lib.hid hr
  have HG := Lib.hid hg
  have HLE := Lib.hid hle
  clear h hn hr hg hle
  go_enter Try.func47, Try.ntmps47
  go_wp2_with fail
  go_loopw [8] (fun s8 wr => ∃ j : Nat, s8 = .int .i64 j ∧ j ≤ n ∧ (∀ i x, i < j → st[i]? = some x → (fun x => !okG x) x = false) ∧ Below w.heap.size w wr) (fun s8 _ => n - (intOf s8).toNat)
  case atStart => exact ⟨0, rfl, Nat.zero_le _, fun i x hi => absurd hi (Nat.not_lt_zero _), Below.refl _ _⟩
  case round =>
    obtain ⟨j, rfl, hk, hno, hb⟩ := hrel
    have HB := Lib.hid hb
    have HNO := Lib.hid hno
    clear hb hno
    by_cases hlt : j < n
    · obtain ⟨⟨N, Ax, cx, l⟩, hx⟩ : ∃ x, sg[j]? = some x := ⟨_, List.getElem?_eq_getElem (by have h1 := congrArg List.length HG.out; rw [List.length_map, ← HN.out] at h1; omega)⟩
      have hp : st[j]? = some (N, l) := by rw [← HG.out, List.getElem?_map, hx]; rfl
      obtain ⟨b0, off, hA1, d0, d1⟩ := stage_row (HR.out.row.below HB.out) hx
      subst hA1
      have HX := Lib.hid hp
      have HIT := Lib.hid ((HR.out.each _ (List.mem_of_getElem? hx)).below HB.out)
      obtain ⟨m, hm⟩ : ∃ m, m = l.length := ⟨_, rfl⟩
      have HLM : Hid (m ≤ 4611686018427387904) := Lib.hid (by rw [hm]; exact HLE.out _ (List.mem_of_getElem? hp))
      simp only at d0 d1
      rw [← hm] at d1
      have hki : (j : Int) < (n : Int) := by omega
      have HW := wrapKS (k := j) (by omega)
      have HK := Lib.hid hlt
      obtain ⟨q, hq⟩ : ∃ q, q = (fun x => !okG x) (N, l) := ⟨_, rfl⟩
      have HQ := Lib.hid hq
      have HD := Lib.hid (ckNotSt (N, Ax, cx, l) m hm (!q) (by rw [hq]; exact Bool.not_not (l.all okR)) wr HIT.out HLM.out)
      rw [Bool.not_not] at HD
      clear hx hp hlt hk hq hm
      cases q with
      | true =>
        go_wp2_with (go_at_call 41; refine HD.out.mono ?_; rintro e w1 ⟨rfl, hb1⟩; have HB1 := Lib.hid (below_next HB.out hb1); clear hb1)
        go_ret
        exact ⟨HB1.out, .inl ⟨j, rfl, HRR.out.trans (any_of HX.out HQ.out.symm)⟩⟩
      | false =>
        go_wp2_with (go_at_call 41; refine HD.out.mono ?_; rintro e w1 ⟨rfl, hb1⟩; have HB1 := Lib.hid (below_next HB.out hb1); clear hb1)
        go_roundw
        case rel =>
          refine ⟨j + 1, rfl, HK.out, fun i y hi hy => ?_, HB1.out⟩
          by_cases h1 : i = j
          · rw [h1, HX.out] at hy; cases hy; exact HQ.out.symm
          · exact HNO.out i y (by omega) hy
        case measure => simp [intOf]; have := HK.out; omega
    · have hge : ¬ (j : Int) < (n : Int) := by omega
      have HU : Hid (∀ i x, i < n → st[i]? = some x → (fun x => !okG x) x = false) := Lib.hid (by rw [show n = j by omega]; exact HNO.out)
      clear hlt hk
      go_wp2_with fail
      go_ret
      exact ⟨HB.out, .inr ⟨rfl, HRR.out.trans (any_not HN.out HU.out)⟩⟩
set_option maxHeartbeats 1000000 in
theorem ckContG (sg : List Sg) (st : List Pg) (hg : sg.map pgOf = st) (n : Nat) (A : Option Addr) (c : Nat) (r : Bool) (hn : n = st.length) (hr : r = st.any (fun x => !okG x)) (w : World) (h : GAt w A sg) (hl : n ≤ 4611686018427387904) (hle : ∀ x ∈ st, x.2.length ≤ 4611686018427387904) :
    Calls Try.prog 40 #[.slice A n c, .func (.func 41) #[] #[]] w (TellsB r w) := by
  have HI := Lib.hid (ckIdxG sg st hg n A c r hn hr w h hl hle)
  clear h hn hr hl hg hle
  go_enter Try.func40, Try.ntmps40
  go_wp2_with fail
  refine HI.out.mono ?_
  rintro e w1 ⟨hb1, ⟨p, rfl, rfl⟩ | ⟨rfl, rfl⟩⟩
  · have HB := Lib.hid hb1
    have hp : decide ((0 : Int) ≤ (p : Int)) = true := decide_eq_true (by omega)
    clear hb1
    go_wp2_with fail
    go_ret
    exact ⟨rfl, HB.out⟩
  · have HB := Lib.hid hb1
    clear hb1
    go_wp2_with fail
    go_ret
    exact ⟨rfl, HB.out⟩
set_option maxRecDepth 100000 in
set_option maxHeartbeats 1000000 in
theorem ckIdxH (sg : List Sg) (st : List Pg) (hg : sg.map pgOf = st) (m0 : Int) (b : Nat) (n : Nat) (A : Option Addr) (c : Nat) (r : Bool) (hn : n = st.length) (hr : r = st.any (fun x => decide (x.1 = m0))) (w : World) (h : GAt w A sg) (hc : w.cell? ⟨b, 0, none⟩ = some (.int .i64 m0)) (hl : n ≤ 4611686018427387904) (hle : ∀ x ∈ st, x.2.length ≤ 4611686018427387904) :
    Calls Try.prog 47 #[.slice A n c, .func (.func 42) #[] #[.pointer (some ⟨b, 0, none⟩)]] w (AtAny r w) := by
  have HR := Lib.hid h
  have HN := Lib.hid hn
  have HRR := Lib.hid hr
  have HG := Lib.hid hg
  have HLE := Lib.hid hle
  have HC := Lib.hid hc
  clear hc
  clear h hn hr hg hle
  go_enter Try.func47, Try.ntmps47
  go_wp2_with fail
  go_loopw [8] (fun s8 wr => ∃ j : Nat, s8 = .int .i64 j ∧ j ≤ n ∧ (∀ i x, i < j → st[i]? = some x → (fun x => decide (x.1 = m0)) x = false) ∧ Below w.heap.size w wr) (fun s8 _ => n - (intOf s8).toNat)
  case atStart => exact ⟨0, rfl, Nat.zero_le _, fun i x hi => absurd hi (Nat.not_lt_zero _), Below.refl _ _⟩
  case round =>
    obtain ⟨j, rfl, hk, hno, hb⟩ := hrel
    have HB := Lib.hid hb
    have HNO := Lib.hid hno
    clear hb hno
    by_cases hlt : j < n
    · obtain ⟨⟨N, Ax, cx, l⟩, hx⟩ : ∃ x, sg[j]? = some x := ⟨_, List.getElem?_eq_getElem (by have h1 := congrArg List.length HG.out; rw [List.length_map, ← HN.out] at h1; omega)⟩
      have hp : st[j]? = some (N, l) := by rw [← HG.out, List.getElem?_map, hx]; rfl
      obtain ⟨b0, off, hA1, d0, d1⟩ := stage_row (HR.out.row.below HB.out) hx
      subst hA1
      have HX := Lib.hid hp
      have HIT := Lib.hid ((HR.out.each _ (List.mem_of_getElem? hx)).below HB.out)
      obtain ⟨m, hm⟩ : ∃ m, m = l.length := ⟨_, rfl⟩
      have HLM : Hid (m ≤ 4611686018427387904) := Lib.hid (by rw [hm]; exact HLE.out _ (List.mem_of_getElem? hp))
      simp only at d0 d1
      rw [← hm] at d1
      have hki : (j : Int) < (n : Int) := by omega
      have HW := wrapKS (k := j) (by omega)
      have HK := Lib.hid hlt
      obtain ⟨q, hq⟩ : ∃ q, q = (fun x => decide (x.1 = m0)) (N, l) := ⟨_, rfl⟩
      have HQ := Lib.hid hq
      have HD : Hid (Calls Try.prog 42 #[sgV (N, Ax, cx, l) m, .pointer (some ⟨b, 0, none⟩)] wr (TellsB q wr)) := Lib.hid (by rw [hq]; exact ckHas1 (N, Ax, cx, l) m m0 b wr (Gen.cell_below HC.out HB.out))
      clear hx hp hlt hk hq hm
      cases q with
      | true =>
        go_wp2_with (go_at_call 42; refine HD.out.mono ?_; rintro e w1 ⟨rfl, hb1⟩; have HB1 := Lib.hid (below_next HB.out hb1); clear hb1)
        go_ret
        exact ⟨HB1.out, .inl ⟨j, rfl, HRR.out.trans (any_of HX.out HQ.out.symm)⟩⟩
      | false =>
        go_wp2_with (go_at_call 42; refine HD.out.mono ?_; rintro e w1 ⟨rfl, hb1⟩; have HB1 := Lib.hid (below_next HB.out hb1); clear hb1)
        go_roundw
        case rel =>
          refine ⟨j + 1, rfl, HK.out, fun i y hi hy => ?_, HB1.out⟩
          by_cases h1 : i = j
          · rw [h1, HX.out] at hy; cases hy; exact HQ.out.symm
          · exact HNO.out i y (by omega) hy
        case measure => simp [intOf]; have := HK.out; omega
    · have hge : ¬ (j : Int) < (n : Int) := by omega
      have HU : Hid (∀ i x, i < n → st[i]? = some x → (fun x => decide (x.1 = m0)) x = false) := Lib.hid (by rw [show n = j by omega]; exact HNO.out)
      clear hlt hk
      go_wp2_with fail
      go_ret
      exact ⟨HB.out, .inr ⟨rfl, HRR.out.trans (any_not HN.out HU.out)⟩⟩
set_option maxHeartbeats 1000000 in
theorem ckContH (sg : List Sg) (st : List Pg) (hg : sg.map pgOf = st) (m0 : Int) (b : Nat) (n : Nat) (A : Option Addr) (c : Nat) (r : Bool) (hn : n = st.length) (hr : r = st.any (fun x => decide (x.1 = m0))) (w : World) (h : GAt w A sg) (hc : w.cell? ⟨b, 0, none⟩ = some (.int .i64 m0)) (hl : n ≤ 4611686018427387904) (hle : ∀ x ∈ st, x.2.length ≤ 4611686018427387904) :
    Calls Try.prog 40 #[.slice A n c, .func (.func 42) #[] #[.pointer (some ⟨b, 0, none⟩)]] w (TellsB r w) := by
  have HI := Lib.hid (ckIdxH sg st hg m0 b n A c r hn hr w h hc hl hle)
  clear h hn hr hl hg hle
  clear hc
  go_enter Try.func40, Try.ntmps40
  go_wp2_with fail
  refine HI.out.mono ?_
  rintro e w1 ⟨hb1, ⟨p, rfl, rfl⟩ | ⟨rfl, rfl⟩⟩
  · have HB := Lib.hid hb1
    have hp : decide ((0 : Int) ≤ (p : Int)) = true := decide_eq_true (by omega)
    clear hb1
    go_wp2_with fail
    go_ret
    exact ⟨rfl, HB.out⟩
  · have HB := Lib.hid hb1
    clear hb1
    go_wp2_with fail
    go_ret
    exact ⟨rfl, HB.out⟩
theorem okG_all (st : List Pg) : st.all okG = !(st.any fun x => !okG x) := by
  induction st with
  | nil => rfl
  | cons x l ih => rw [List.all_cons, List.any_cons, ih]; cases okG x <;> cases (l.any fun x => !okG x) <;> rfl
theorem ckAllG (sg : List Sg) (st : List Pg) (hg : sg.map pgOf = st) (n : Nat) (A : Option Addr) (c : Nat) (r : Bool) (hn : n = st.length) (hr : r = st.all okG) (w : World) (h : GAt w A sg) (hl : n ≤ 4611686018427387904) (hle : ∀ x ∈ st, x.2.length ≤ 4611686018427387904) :
    Calls Try.prog 30 #[.slice A n c] w (TellsB r w) := by
  have HI := Lib.hid (ckContG sg st hg n A c (!r) hn (by rw [hr, okG_all, Bool.not_not]) w h hl hle)
  clear h hn hr hl hg hle
  go_enter Try.func30, Try.ntmps30
  go_wp2_with fail
  refine HI.out.mono ?_
  rintro e w1 ⟨rfl, hb1⟩
  have HB := Lib.hid hb1
  clear hb1
  go_wp2_with fail
  go_ret
  exact ⟨by cases r <;> rfl, HB.out⟩
theorem ckHas (sg : List Sg) (st : List Pg) (hg : sg.map pgOf = st) (m0 : Int) (n : Nat) (A : Option Addr) (c : Nat) (r : Bool) (hn : n = st.length) (hr : r = thereO m0 st) (w : World) (h : GAt w A sg) (hl : n ≤ 4611686018427387904) (hle : ∀ x ∈ st, x.2.length ≤ 4611686018427387904) :
    Calls Try.prog 31 #[.slice A n c, .int .i64 m0] w (TellsB r w) := by
  have hb0 := below_al (o := .cells #[.int .i64 m0] 3) (Below.refl w.heap.size w)
  have HI := Lib.hid (fun w' (hb : Below w.heap.size w w') b hc => ckContH sg st hg m0 b n A c r hn hr w' (h.below hb) hc hl hle)
  have HB := Lib.hid hb0
  have L := Lib.hid (Lies.new w #[.int .i64 m0] 3)
  have hmf : ∀ (fn : Fn) (first cap : Array Value) (w : World), (Instr.makeFunc fn first cap).run Try.prog w = .ok (.func fn first cap) w := fun _ _ _ _ => rfl
  clear h hn hr hl hg hle hb0
  go_enter Try.func31, Try.ntmps31
  go_upto_region 1 with fail
  obtain ⟨tb, htb⟩ : ∃ b, b = w.heap.size := ⟨_, rfl⟩
  obtain ⟨W, hW⟩ : ∃ W, W = w.alloc (.cells #[.int .i64 m0] 3) := ⟨_, rfl⟩
  rw [← hW] at L HB ⊢
  rw [← htb] at L ⊢
  clear hW htb
  have HC := Lib.hid (L.out.cell (j := 0) rfl)
  go_wp2_with fail
  refine (HI.out _ HB.out _ HC.out).mono ?_
  rintro e w1 ⟨rfl, hb1⟩
  have HB1 := Lib.hid (below_next HB.out hb1)
  clear hb1
  go_wp2_with fail
  go_ret
  exact ⟨rfl, HB1.out⟩
end Sk
end Go.Proofs.Ytmkbdlailffjeaa
