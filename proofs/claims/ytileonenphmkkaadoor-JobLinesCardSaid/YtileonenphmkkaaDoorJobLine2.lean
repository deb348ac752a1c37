/- line of two numbers. -/
import Derived.Test.YtileonenphmkkaaDoorJobPair
namespace Go.Proofs.YtileonenphmkkaaDoor
open Go.RowKit
set_option linter.unusedVariables false
set_option maxRecDepth 8000
namespace Jo
open Gen
theorem ln2_sk (wd : List UInt8) (x : Option (List UInt8)) : (x.bind (ln2 wd)).map (·.2.2) = sk [10] ((nu (sk [32] ((nu (sk (wd ++ [32]) x)).map (·.2)))).map (·.2)) := by
  cases x with
  | none => rfl
  | some s =>
    show (ln2 wd s).map (·.2.2) = sk [10] ((nu (sk [32] ((nu (pre (wd ++ [32]) s)).map (·.2)))).map (·.2))
    unfold ln2
    cases pre (wd ++ [32]) s with
    | none => rfl
    | some s1 =>
      change ((rd s1).bind fun x => (pre [32] x.2).bind fun s => (rd s).bind fun y => (pre [10] y.2).map fun r => (x.1, y.1, r)).map (·.2.2) = sk [10] ((nu (sk [32] ((rd s1).map (·.2)))).map (·.2))
      cases rd s1 with
      | none => rfl
      | some q =>
        change ((pre [32] q.2).bind fun s => (rd s).bind fun y => (pre [10] y.2).map fun r => (q.1, y.1, r)).map (·.2.2) = sk [10] ((nu (pre [32] q.2)).map (·.2))
        cases pre [32] q.2 with
        | none => rfl
        | some s2 =>
          change ((rd s2).bind fun y => (pre [10] y.2).map fun r => (q.1, y.1, r)).map (·.2.2) = sk [10] ((rd s2).map (·.2))
          cases rd s2 with
          | none => rfl
          | some q2 =>
            change ((pre [10] q2.2).map fun r => (q.1, q2.1, r)).map (·.2.2) = pre [10] q2.2
            cases pre [10] q2.2 <;> rfl
theorem ln2_parts {wd s : List UInt8} {n m : Nat} {r : List UInt8} (h : ln2 wd s = some (n, m, r)) :
    ∃ s1 r1 s2 r2, pre (wd ++ [32]) s = some s1 ∧ rd s1 = some (n, r1) ∧ pre [32] r1 = some s2 ∧ rd s2 = some (m, r2) ∧ pre [10] r2 = some r := by
  unfold ln2 at h
  cases h1 : pre (wd ++ [32]) s with
  | none => rw [h1] at h; cases h
  | some s1 =>
    rw [h1] at h
    change ((rd s1).bind fun x => (pre [32] x.2).bind fun s => (rd s).bind fun y => (pre [10] y.2).map fun r => (x.1, y.1, r)) = _ at h
    cases h2 : rd s1 with
    | none => rw [h2] at h; cases h
    | some q =>
      rw [h2] at h
      change ((pre [32] q.2).bind fun s => (rd s).bind fun y => (pre [10] y.2).map fun r => (q.1, y.1, r)) = _ at h
      cases h3 : pre [32] q.2 with
      | none => rw [h3] at h; cases h
      | some s2 =>
        rw [h3] at h
        change ((rd s2).bind fun y => (pre [10] y.2).map fun r => (q.1, y.1, r)) = _ at h
        cases h4 : rd s2 with
        | none => rw [h4] at h; cases h
        | some q2 =>
          rw [h4] at h
          change ((pre [10] q2.2).map fun r => (q.1, q2.1, r)) = _ at h
          cases h5 : pre [10] q2.2 with
          | none => rw [h5] at h; cases h
          | some t =>
            rw [h5] at h
            simp only [Option.map_some, Option.some.injEq, Prod.mk.injEq] at h
            obtain ⟨rfl, rfl, rfl⟩ := h
            exact ⟨s1, q.2, s2, q2.2, rfl, h2, h3, h4, h5⟩
theorem ln2_val {wd : List UInt8} {x : Option (List UInt8)} {n m : Nat} {r : List UInt8} (h : x.bind (ln2 wd) = some (n, m, r)) :
    (∃ r', nu (sk (wd ++ [32]) x) = some (n, r')) ∧ ∃ r', nu (sk [32] ((nu (sk (wd ++ [32]) x)).map (·.2))) = some (m, r') := by
  cases x with
  | none => cases h
  | some s =>
    obtain ⟨s1, r1, s2, r2, h1, h2, h3, h4, _⟩ := ln2_parts (show ln2 wd s = some (n, m, r) from h)
    have e : nu (sk (wd ++ [32]) (some s)) = some (n, r1) := by
      show (pre (wd ++ [32]) s).bind rd = _
      rw [h1]
      exact h2
    refine ⟨⟨r1, e⟩, r2, ?_⟩
    rw [e]
    show (pre [32] r1).bind rd = _
    rw [h3]
    exact h4
/-- A line of two numbers handed back. -/
def Num2 (w0 : World) (b : Nat) (x : Option (Nat × Nat × List UInt8)) (k : Nat) (w : World) (e : Ending) (w' : World) : Prop :=
  ∃ n m : Nat, e = .returned (arV n m) ∧ n ≤ 9223372036854775807 ∧ m ≤ 9223372036854775807 ∧ (∀ a c r, x = some (a, c, r) → n = a ∧ m = c) ∧ Sta w0 b (x.map (·.2.2)) k w' ∧ Mine (· = b) w w'
theorem line2_ret {n m : Nat} {rb : Nat} {w : World} {act : Act} {Q : Ending → World → Prop} (ht : act.tmps.getD 6 undef = .pointer (some ⟨rb, 0, none⟩)) (hd : act.defers = []) (hl : Lies rb (arC n m) 68 w) (h : Q (.returned (arV n m)) w) :
    bodyPost Tryd.prog Tryd.f39 Q Exit.ret act w := by
  have c0 : w.cell? ⟨rb, 0, none⟩ = some (.int .i64 (n : Int)) := hl.cell (j := 0) rfl
  have c1 : w.cell? ⟨rb, 1, none⟩ = some (.int .i64 (m : Int)) := hl.cell (j := 1) rfl
  have ht2 : act.tmps[6]?.getD undef = .pointer (some ⟨rb, 0, none⟩) := by simpa using ht
  exact bodyPost_ret (v := arV n m) (by simp [results, Tryd.results39, go_sem, ht2, c0, c1]) hd h
abbrev zAr : Obj := .cells #[.int .i64 0, .int .i64 0] 68
theorem al2_below (w : World) : Below w.heap.size w ((w.alloc zAr).alloc zAr) := below_al (below_al (Below.refl _ _))
set_option maxHeartbeats 4000000 in
theorem sLine2 (w0 : World) (b : Nat) (x : Option (List UInt8)) (wd : List UInt8) (hwd : wd.length ≤ 16) (k : Nat) (hk : k ≤ 100) (w : World) (h : Sta w0 b x k w) :
    Calls Tryd.prog 39 #[.pointer (some ⟨b, 0, none⟩), strv wd, .func (.func 40) #[] #[]] w (Num2 w0 b (x.bind (ln2 wd)) (kx x k) w) := by
  have HLo := Lib.hid (And.intro h.lo h.lt)
  have L6 := Lib.hid (Lies.al (o := zAr) (Lies.new w #[.int .i64 0, .int .i64 0] 68))
  have L7 := Lib.hid (Lies.new (w.alloc zAr) #[.int .i64 0, .int .i64 0] 68)
  cases x with
  | none =>
    obtain ⟨s, h⟩ := h
    have S0 := Lib.hid (show Sta w0 b none k w from ⟨s, h⟩)
    have l0 := lt_of_block h.st
    have c2 := h.st.cells.2.2
    clear h
    go_enter Tryd.func39, Tryd.ntmps39
    go_wp2_with fail
    refine line2_ret (n := 0) (m := 0) (rb := w.heap.size) rfl rfl ?_ ?_
    · exact L6.out
    · exact ⟨0, 0, rfl, by omega, by omega, fun a c r h => (by cases h), S0.out.up (al2_below w), Mine.up (al2_below w)⟩
  | some s =>
    have H0 := Lib.hid (show Good w0 b s k w from h)
    have l0 := lt_of_block H0.out.st
    have c2 := H0.out.st.cells.2.2
    have c1 := H0.out.st.cells.2.1
    have f1 := H0.out.st.free 1
    clear h
    have hw := wrap_k hk
    have ha := addS wd [32] (by simp; omega)
    obtain ⟨wa, hwa⟩ : ∃ wa, wa = w.setCell ⟨b, 1, none⟩ (.int .i64 ((k + 1 : Nat) : Int)) := ⟨_, rfl⟩
    have S1 := Lib.hid (show Sta w0 b (some s) (k + 1) ((wa.alloc zAr).alloc zAr) from by
      refine Sta.up ?_ (al2_below wa)
      rw [hwa]
      exact ⟨H0.out.st.set1 (k + 1), H0.out.wh.mine (Mine.set (M := (· = b)) w (a := ⟨b, 1, none⟩) _ rfl), H0.out.len⟩)
    have M1 := Lib.hid (show Mine (· = b) w ((wa.alloc zAr).alloc zAr) from by
      refine Mine.trans ?_ (Mine.up (al2_below wa))
      rw [hwa]
      exact Mine.set (M := (· = b)) w (a := ⟨b, 1, none⟩) _ rfl)
    have hsz : wa.heap.size = w.heap.size := by rw [hwa]; simp
    have Q6 := Lib.hid (show Lies w.heap.size #[.int .i64 0, .int .i64 0] 68 ((wa.alloc zAr).alloc zAr) from hsz ▸ Lies.al (o := zAr) (Lies.new wa #[.int .i64 0, .int .i64 0] 68))
    rw [hwa] at S1 M1 Q6
    clear hwa hsz
    have HS := Lib.hid (fun x t w h => sSkip w0 b x t (k + 1) w h)
    have HN := Lib.hid (fun x w h => sPair w0 b x (k + 1) w h)
    have HV := Lib.hid (fun n m r => ln2_val (wd := wd) (x := some s) (n := n) (m := m) (r := r))
    have HE := Lib.hid (ln2_sk wd (some s))
    obtain ⟨y1, hy1⟩ : ∃ y, y = sk (wd ++ [32]) (some s) := ⟨_, rfl⟩
    obtain ⟨y2, hy2⟩ : ∃ y, y = nu y1 := ⟨_, rfl⟩
    obtain ⟨y3, hy3⟩ : ∃ y, y = nu (sk [32] (y2.map (·.2))) := ⟨_, rfl⟩
    obtain ⟨z, hz⟩ : ∃ z, z = (some s).bind (ln2 wd) := ⟨_, rfl⟩
    rw [← hy1, ← hy2, ← hy3] at HV
    rw [← hy1, ← hy2, ← hy3, ← hz] at HE
    rw [← hz] at HV ⊢
    have Y1 := Lib.hid hy1
    have Y2 := Lib.hid hy2
    have Y3 := Lib.hid hy3
    clear hy1 hy2 hy3 hz
    go_enter Tryd.func39, Tryd.ntmps39
    go_wp2_with fail
    refine (HS.out _ _ _ S1.out).mono ?_
    rintro e w2 ⟨rfl, s2, m2⟩
    rw [← Y1.out] at s2
    have S2 := Lib.hid s2
    have M2 := Lib.hid (M1.out.trans m2)
    have L2 := Lib.hid (m2.lies Q6.out (fun e => by omega))
    clear s2 m2
    go_wp2_with fail
    refine (HN.out _ _ S2.out).mono ?_
    rintro e w3 ⟨n, m, rfl, hn, hm, hv, hv2, s3, m3⟩
    rw [← Y2.out] at s3 hv hv2
    rw [← Y3.out] at s3 hv2
    have S3 := Lib.hid s3
    have M3 := Lib.hid (M2.out.trans m3)
    have L3 := Lib.hid (m3.lies L2.out (fun e => by omega))
    have NV := Lib.hid (And.intro (And.intro hn hm) (And.intro hv hv2))
    clear s3 m3 hn hm hv hv2
    have T3 := Lib.hid (Lies.new w3 (arC n m) 68)
    have A3 := Lib.hid (below_al (o := .cells (arC n m) 68) (Below.refl w3.heap.size w3))
    have S3' := Lib.hid (S3.out.up A3.out)
    have L3' := Lib.hid (show Lies w.heap.size #[.int .i64 0, .int .i64 0] 68 _ from (A3.out.block _ (lt_of_block L3.out)).trans L3.out)
    have M3' := Lib.hid (M3.out.trans (Mine.up A3.out))
    have q3 := S3.out.lt
    have q4 : w.heap.size ≤ w3.heap.size := M3.out.size
    go_wp2_with fail
    refine (HS.out _ _ _ S3'.out).mono ?_
    rintro e w4 ⟨rfl, s4, m4⟩
    rw [← HE.out] at s4
    have S4 := Lib.hid s4
    have M4 := Lib.hid (M3'.out.trans m4)
    have T4 := Lib.hid (m4.lies T3.out (fun e => by omega))
    have L4 := Lib.hid (m4.lies L3'.out (fun e => by omega))
    have z0 := T4.out.cell (j := 0) rfl
    have z1 := T4.out.cell (j := 1) rfl
    have g0 := L4.out.cell (j := 0) rfl
    have g1 := L4.out.cell (j := 1) rfl
    have f0 := L4.out.free 0
    have f2 := L4.out.free 1
    clear s4 m4 q3 q4
    go_wp2_with fail
    refine line2_ret (n := n) (m := m) (rb := w.heap.size) rfl rfl ?_ ?_
    · exact lies2 L4.out rfl _ _
    · refine ⟨n, m, rfl, NV.out.1.1, NV.out.1.2, fun a c r h => ?_, ?_, ?_⟩
      · obtain ⟨⟨r1, h1⟩, r2, h2⟩ := HV.out a c r h
        exact ⟨NV.out.2.1 a r1 h1, NV.out.2.2 c r2 h2⟩
      · exact S4.out.set2 (by omega) (by have := HLo.out; omega) _ _ _ _
      · exact mine_new2 M4.out (Nat.le_refl _) _ _ _ _
end Jo
end Go.Proofs.YtileonenphmkkaaDoor
