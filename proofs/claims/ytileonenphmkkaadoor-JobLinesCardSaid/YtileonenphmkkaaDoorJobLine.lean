/- A line of one number, of two numbers, as the code reads it. -/
import Derived.Test.YtileonenphmkkaaDoorJobNumC
namespace Go.Proofs.YtileonenphmkkaaDoor
open Go.RowKit
set_option linter.unusedVariables false
set_option maxRecDepth 8000
namespace Jo
open Gen
theorem trim_pre (s t : List UInt8) : Lib.trimPrefix s t = (pre t s).getD s ∧ Lib.hasPrefix s t = (pre t s).isSome := by
  unfold pre Lib.trimPrefix Lib.hasPrefix
  cases h : t.isPrefixOf s <;> simp
theorem trim_some {s t r : List UInt8} (h : pre t s = some r) : Lib.trimPrefix s t = r ∧ Lib.hasPrefix s t = true := by
  obtain ⟨h1, h2⟩ := trim_pre s t
  rw [h] at h1 h2
  exact ⟨h1, h2⟩
theorem trim_none {s t : List UInt8} (h : pre t s = none) : Lib.trimPrefix s t = s ∧ Lib.hasPrefix s t = false := by
  obtain ⟨h1, h2⟩ := trim_pre s t
  rw [h] at h1 h2
  exact ⟨h1, h2⟩
theorem trim_len (s t : List UInt8) : (Lib.trimPrefix s t).length ≤ s.length := by
  unfold Lib.trimPrefix
  split
  · rw [List.length_drop]; omega
  · exact Nat.le_refl _
theorem drop_len (s : List UInt8) : (s.dropWhile isD).length ≤ s.length := by
  have := congrArg List.length (List.takeWhile_append_dropWhile (p := isD) (l := s))
  rw [List.length_append] at this
  omega
theorem rd_yes {s r : List UInt8} {n : Nat} (h : rd s = some (n, r)) : numOk s = true ∧ val (s.takeWhile isD) = n ∧ s.dropWhile isD = r := by
  rw [rd_num] at h
  split at h
  · rename_i hc
    simp only [Option.some.injEq, Prod.mk.injEq] at h
    exact ⟨hc, h.1, h.2⟩
  · cases h
theorem rd_no {s : List UInt8} (h : rd s = none) : numOk s = false := by
  rw [rd_num] at h
  split at h
  · cases h
  · rename_i hc; simpa using hc
/-- The reader stands at a text; or it was wrong in a line. -/
structure Good (w0 : World) (b : Nat) (s : List UInt8) (k : Nat) (w : World) : Prop where
  st : St b s k false w
  wh : Wh w0 b w
  len : s.length ≤ 140737488355328
structure Bad (w0 : World) (b : Nat) (s : List UInt8) (k : Nat) (w : World) : Prop where
  st : St b s k true w
  wh : Wh w0 b w
  len : s.length ≤ 140737488355328
/-- Where the reader stands: at a text, or behind a wrong line. -/
def Sta (w0 : World) (b : Nat) (x : Option (List UInt8)) (k : Nat) (w : World) : Prop := match x with
  | some s => Good w0 b s k w
  | none => ∃ s, Bad w0 b s k w
/-- skip, over where the reader stands. -/
def sk (t : List UInt8) (x : Option (List UInt8)) : Option (List UInt8) := x.bind (pre t)
def Went (w0 : World) (b : Nat) (x : Option (List UInt8)) (k : Nat) (w : World) (e : Ending) (w' : World) : Prop := e = .returned (.tuple #[]) ∧ Sta w0 b x k w' ∧ Mine (· = b) w w'
theorem sSkip (w0 : World) (b : Nat) (x : Option (List UInt8)) (t : List UInt8) (k : Nat) (w : World) (h : Sta w0 b x k w) :
    Calls Tryd.prog 52 #[.pointer (some ⟨b, 0, none⟩), strv t] w (Went w0 b (sk t x) k w) := by
  cases x with
  | none =>
    obtain ⟨s, h⟩ := h
    refine (jSkip b s t k true w h.st).mono fun e w' ⟨h1, h2, h3⟩ => ⟨h1, ⟨_, h2, h.wh.mine h3, Nat.le_trans (trim_len s t) h.len⟩, h3⟩
  | some s =>
    refine (jSkip b s t k false w h.st).mono fun e w' ⟨h1, h2, h3⟩ => ⟨h1, ?_, h3⟩
    cases hp : pre t s with
    | some r =>
      obtain ⟨e1, e2⟩ := trim_some hp
      rw [e1, e2] at h2
      show Sta w0 b (pre t s) k w'
      rw [hp]
      exact ⟨h2, h.wh.mine h3, e1 ▸ Nat.le_trans (trim_len s t) h.len⟩
    | none =>
      obtain ⟨e1, e2⟩ := trim_none hp
      rw [e1, e2] at h2
      show Sta w0 b (pre t s) k w'
      rw [hp]
      exact ⟨s, h2, h.wh.mine h3, h.len⟩
/-- number, over where the reader stands. -/
def nu (x : Option (List UInt8)) : Option (Nat × List UInt8) := x.bind rd
def Num (w0 : World) (b : Nat) (x : Option (Nat × List UInt8)) (k : Nat) (w : World) (e : Ending) (w' : World) : Prop :=
  ∃ n : Nat, e = .returned (.int .i64 (n : Int)) ∧ n ≤ 9223372036854775807 ∧ (∀ m r, x = some (m, r) → n = m) ∧ Sta w0 b (x.map (·.2)) k w' ∧ Mine (· = b) w w'
theorem sNumber (w0 : World) (b : Nat) (x : Option (List UInt8)) (k : Nat) (w : World) (h : Sta w0 b x k w) :
    Calls Tryd.prog 38 #[.pointer (some ⟨b, 0, none⟩)] w (Num w0 b (nu x) k w) := by
  cases x with
  | none =>
    obtain ⟨s, h⟩ := h
    refine (jNumber w0 b s k true w h.st h.len h.wh).mono fun e w' ⟨n, h1, h2, h3, h4, h5⟩ => ⟨n, h1, h2, fun m r h => (by cases h), ⟨_, h4, h.wh.mine h5, Nat.le_trans (drop_len s) h.len⟩, h5⟩
  | some s =>
    refine (jNumber w0 b s k false w h.st h.len h.wh).mono fun e w' ⟨n, h1, h2, h3, h4, h5⟩ => ?_
    show Num w0 b (rd s) k w e w'
    cases hp : rd s with
    | some q =>
      obtain ⟨m, r⟩ := q
      obtain ⟨e1, e2, e3⟩ := rd_yes hp
      rw [e1, e3] at h4
      refine ⟨n, h1, h2, fun m' r' h => ?_, ⟨h4, h.wh.mine h5, e3 ▸ Nat.le_trans (drop_len s) h.len⟩, h5⟩
      simp only [Option.some.injEq, Prod.mk.injEq] at h
      rw [h3 e1, e2, h.1]
    | none =>
      rw [rd_no hp] at h4
      exact ⟨n, h1, h2, fun m r h => (by cases h), ⟨_, h4, h.wh.mine h5, Nat.le_trans (drop_len s) h.len⟩, h5⟩
/-- The line's number, as long as lines are right. -/
def kx (x : Option (List UInt8)) (k : Nat) : Nat := if x.isSome then k + 1 else k
theorem ln1_sk (wd : List UInt8) (x : Option (List UInt8)) : (x.bind (ln1 wd)).map (·.2) = sk [10] ((nu (sk (wd ++ [32]) x)).map (·.2)) := by
  cases x with
  | none => rfl
  | some s =>
    show (ln1 wd s).map (·.2) = sk [10] ((nu (pre (wd ++ [32]) s)).map (·.2))
    unfold ln1
    cases pre (wd ++ [32]) s with
    | none => rfl
    | some s1 =>
      show (((rd s1).bind fun x => (pre [10] x.2).map fun r => (x.1, r))).map (·.2) = sk [10] ((rd s1).map (·.2))
      cases rd s1 with
      | none => rfl
      | some q =>
        show ((pre [10] q.2).map fun r => (q.1, r)).map (·.2) = pre [10] q.2
        cases pre [10] q.2 <;> rfl
theorem ln1_parts {wd s : List UInt8} {m : Nat} {r : List UInt8} (h : ln1 wd s = some (m, r)) : ∃ s1 r', pre (wd ++ [32]) s = some s1 ∧ rd s1 = some (m, r') ∧ pre [10] r' = some r := by
  unfold ln1 at h
  cases h1 : pre (wd ++ [32]) s with
  | none => rw [h1] at h; cases h
  | some s1 =>
    rw [h1] at h
    change ((rd s1).bind fun x => (pre [10] x.2).map fun r => (x.1, r)) = _ at h
    cases h2 : rd s1 with
    | none => rw [h2] at h; cases h
    | some q =>
      rw [h2] at h
      change ((pre [10] q.2).map fun r => (q.1, r)) = _ at h
      cases h3 : pre [10] q.2 with
      | none => rw [h3] at h; cases h
      | some t =>
        rw [h3] at h
        simp only [Option.map_some, Option.some.injEq, Prod.mk.injEq] at h
        obtain ⟨rfl, rfl⟩ := h
        exact ⟨s1, q.2, rfl, h2, h3⟩
theorem ln1_val {wd : List UInt8} {x : Option (List UInt8)} {m : Nat} {r : List UInt8} (h : x.bind (ln1 wd) = some (m, r)) : ∃ r', nu (sk (wd ++ [32]) x) = some (m, r') := by
  cases x with
  | none => cases h
  | some s =>
    obtain ⟨s1, r', h1, h2, _⟩ := ln1_parts (show ln1 wd s = some (m, r) from h)
    refine ⟨r', ?_⟩
    show (pre (wd ++ [32]) s).bind rd = _
    rw [h1]
    exact h2
theorem Sta.mine {w0 w w' : World} {b : Nat} {x : Option (List UInt8)} {k : Nat} {M : Nat → Prop} (h : Sta w0 b x k w) (hm : Mine M w w') (hb : ¬ M b) (hM : ∀ j, M j → w0.heap.size ≤ j) : Sta w0 b x k w' := by
  cases x with
  | none => obtain ⟨s, h⟩ := h; exact ⟨s, h.st.mine hm hb, ⟨h.wh.vr, h.wh.lo, Mine.below h.wh.bl hm hM h.wh.bl.size⟩, h.len⟩
  | some s => exact ⟨Good.st h |>.mine hm hb, ⟨(Good.wh h).vr, (Good.wh h).lo, Mine.below (Good.wh h).bl hm hM (Good.wh h).bl.size⟩, Good.len h⟩
theorem addS (a b : List UInt8) (h : a.length + b.length ≤ 100000) (w : World) : (Op.stringOp .add (⟨a.toArray⟩ : ByteArray) (⟨b.toArray⟩ : ByteArray)).run Tryd.prog w = .ok (strv (a ++ b)) w := by
  rw [run_string_add_sum (P := Tryd.prog) w _ _ (by rw [bsz, bsz]; omega)]
  rfl
theorem wrap_k {k : Nat} (h : k ≤ 100) : IntKind.i64.wrap ((k : Int) + 1) = ((k + 1 : Nat) : Int) := by
  simp [IntKind.wrap, IntKind.bits, IntKind.signed]; omega
set_option maxHeartbeats 2000000 in
theorem sLine1 (w0 : World) (b : Nat) (x : Option (List UInt8)) (wd : List UInt8) (hwd : wd.length ≤ 16) (k : Nat) (hk : k ≤ 100) (w : World) (h : Sta w0 b x k w) :
    Calls Tryd.prog 37 #[.pointer (some ⟨b, 0, none⟩), strv wd, .func (.func 38) #[] #[]] w (Num w0 b (x.bind (ln1 wd)) (kx x k) w) := by
  cases x with
  | none =>
    obtain ⟨s, h⟩ := h
    have H0 := Lib.hid h
    have c2 := h.st.cells.2.2
    clear h
    go_enter Tryd.func37, Tryd.ntmps37
    go_wp2_with fail
    go_ret
    exact ⟨0, rfl, by omega, fun m r h => (by cases h), ⟨s, H0.out⟩, Mine.refl _ _⟩
  | some s =>
    have H0 := Lib.hid (show Good w0 b s k w from h)
    have c2 := H0.out.st.cells.2.2
    have c1 := H0.out.st.cells.2.1
    have f1 := H0.out.st.free 1
    clear h
    have hw := wrap_k hk
    have ha := addS wd [32] (by simp; omega)
    have S1 := Lib.hid (show Sta w0 b (some s) (k + 1) (w.setCell ⟨b, 1, none⟩ (.int .i64 ((k + 1 : Nat) : Int))) from
      ⟨H0.out.st.set1 (k + 1), H0.out.wh.mine (Mine.set (M := (· = b)) w (a := ⟨b, 1, none⟩) _ rfl), H0.out.len⟩)
    have M1 := Lib.hid (Mine.set (M := (· = b)) w (a := ⟨b, 1, none⟩) (.int .i64 ((k + 1 : Nat) : Int)) rfl)
    have HS := Lib.hid (fun x t w h => sSkip w0 b x t (k + 1) w h)
    have HN := Lib.hid (fun x w h => sNumber w0 b x (k + 1) w h)
    have HV := Lib.hid (fun m r => ln1_val (wd := wd) (x := some s) (m := m) (r := r))
    have HE := Lib.hid (ln1_sk wd (some s))
    obtain ⟨y1, hy1⟩ : ∃ y, y = sk (wd ++ [32]) (some s) := ⟨_, rfl⟩
    obtain ⟨y2, hy2⟩ : ∃ y, y = nu y1 := ⟨_, rfl⟩
    obtain ⟨z, hz⟩ : ∃ z, z = (some s).bind (ln1 wd) := ⟨_, rfl⟩
    rw [← hy1, ← hy2] at HV
    rw [← hy1, ← hy2, ← hz] at HE
    rw [← hz] at HV ⊢
    have Y1 := Lib.hid hy1
    have Y2 := Lib.hid hy2
    clear hy1 hy2 hz
    go_enter Tryd.func37, Tryd.ntmps37
    go_wp2_with fail
    refine (HS.out _ _ _ S1.out).mono ?_
    rintro e w2 ⟨rfl, s2, m2⟩
    have S2 := Lib.hid (Y1.out ▸ s2)
    have M2 := Lib.hid (M1.out.trans m2)
    clear s2 m2
    go_wp2_with fail
    refine (HN.out _ _ S2.out).mono ?_
    rintro e w3 ⟨n, rfl, hn, hv, s3, m3⟩
    have S3 := Lib.hid (Y2.out ▸ s3)
    have M3 := Lib.hid (M2.out.trans m3)
    have NV := Lib.hid (And.intro hn (Y2.out ▸ hv))
    clear s3 m3 hn hv
    go_wp2_with fail
    refine (HS.out _ _ _ S3.out).mono ?_
    rintro e w4 ⟨rfl, s4, m4⟩
    have S4 := Lib.hid s4
    have M4 := Lib.hid (M3.out.trans m4)
    clear s4 m4
    go_wp2_with fail
    go_ret
    refine ⟨n, rfl, NV.out.1, fun m r h => ?_, ?_, M4.out⟩
    · obtain ⟨r', h'⟩ := HV.out m r h
      exact NV.out.2 m r' h'
    · rw [HE.out]
      exact S4.out
end Jo
end Go.Proofs.YtileonenphmkkaaDoor
