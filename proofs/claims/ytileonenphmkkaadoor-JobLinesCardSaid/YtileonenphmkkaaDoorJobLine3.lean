/- The fold's line; few. -/
import Derived.Test.YtileonenphmkkaaDoorJobKind
import Derived.Lib.MinMax
namespace Go.Proofs.YtileonenphmkkaaDoor
open Go.RowKit
set_option linter.unusedVariables false
set_option maxRecDepth 8000
namespace Jo
open Gen
def kin (x : Option (List UInt8)) : Option (Nat × List UInt8) := x.bind fun s => (kd s).map fun j => (j, s.drop (word s).length)
theorem sKind (w0 : World) (b : Nat) (x : Option (List UInt8)) (k : Nat) (w : World) (h : Sta w0 b x k w) :
    Calls Tryd.prog 42 #[.pointer (some ⟨b, 0, none⟩)] w (Num w0 b (kin x) k w) := by
  have hdl : ∀ s : List UInt8, (s.drop (word s).length).length ≤ s.length := fun s => by rw [List.length_drop]; omega
  cases x with
  | none =>
    obtain ⟨s, h⟩ := h
    refine (jKind b s k true w h.st h.len).mono fun e w' ⟨n, h1, h2, h3, h4⟩ => ⟨n, h2, by omega, fun m r h => (by cases h), ?_, h4⟩
    rcases h3 with ⟨_, h3⟩ | ⟨_, _, h3⟩
    · exact ⟨_, h3, h.wh.mine h4, Nat.le_trans (hdl s) h.len⟩
    · exact ⟨_, h3, h.wh.mine h4, h.len⟩
  | some s =>
    refine (jKind b s k false w (Good.st h) (Good.len h)).mono fun e w' ⟨n, h1, h2, h3, h4⟩ => ?_
    show Num w0 b ((kd s).map fun j => (j, s.drop (word s).length)) k w e w'
    rcases h3 with ⟨h5, h3⟩ | ⟨h5, _, h3⟩
    · rw [h5]
      refine ⟨n, h2, by omega, fun m r h => ?_, ⟨h3, (Good.wh h).mine h4, Nat.le_trans (hdl s) (Good.len h)⟩, h4⟩
      simp only [Option.map_some, Option.some.injEq, Prod.mk.injEq] at h
      exact h.1
    · rw [h5]
      exact ⟨n, h2, by omega, fun m r h => (by cases h), ⟨s, h3, (Good.wh h).mine h4, (Good.len h)⟩, h4⟩
theorem word_name {j : Nat} (h1 : 1 ≤ j) (h5 : j ≤ 5) (r : List UInt8) : word (name j ++ 10 :: r) = name j := by
  have hj : j = 1 ∨ j = 2 ∨ j = 3 ∨ j = 4 ∨ j = 5 := by omega
  rcases hj with rfl | rfl | rfl | rfl | rfl <;> rfl
theorem kd_some {s : List UInt8} {j : Nat} (h : kd s = some j) : word s = name j ∧ 1 ≤ j ∧ j ≤ 5 := by
  unfold kd at h
  split at h
  · cases h; exact ⟨by assumption, by omega, by omega⟩
  · split at h
    · cases h; exact ⟨by assumption, by omega, by omega⟩
    · split at h
      · cases h; exact ⟨by assumption, by omega, by omega⟩
      · split at h
        · cases h; exact ⟨by assumption, by omega, by omega⟩
        · split at h
          · cases h; exact ⟨by assumption, by omega, by omega⟩
          · cases h
/-- The fold's line, step by step. -/
def chF (s : List UInt8) : Option (Nat × List UInt8) := (pre wFold s).bind fun s1 => (kd s1).bind fun j => (pre [10] (s1.drop (word s1).length)).map fun r => (j, r)
theorem chF_parts {s r : List UInt8} {j : Nat} : chF s = some (j, r) ↔ ∃ s1, pre wFold s = some s1 ∧ kd s1 = some j ∧ pre [10] (s1.drop (word s1).length) = some r := by
  unfold chF
  constructor
  · intro h
    cases h1 : pre wFold s with
    | none => rw [h1] at h; cases h
    | some s1 =>
      rw [h1] at h
      change ((kd s1).bind fun j => (pre [10] (s1.drop (word s1).length)).map fun r => (j, r)) = _ at h
      cases h2 : kd s1 with
      | none => rw [h2] at h; cases h
      | some i =>
        rw [h2] at h
        change ((pre [10] (s1.drop (word s1).length)).map fun r => (i, r)) = _ at h
        cases h3 : pre [10] (s1.drop (word s1).length) with
        | none => rw [h3] at h; cases h
        | some t =>
          rw [h3] at h
          simp only [Option.map_some, Option.some.injEq, Prod.mk.injEq] at h
          obtain ⟨rfl, rfl⟩ := h
          exact ⟨s1, rfl, h2, h3⟩
  · rintro ⟨s1, h1, h2, h3⟩
    rw [h1]
    show ((kd s1).bind fun j => (pre [10] (s1.drop (word s1).length)).map fun r => (j, r)) = _
    rw [h2]
    show ((pre [10] (s1.drop (word s1).length)).map fun r => (j, r)) = _
    rw [h3]
    rfl
theorem lnF_iff {s r : List UInt8} {j : Nat} : lnF s = some (j, r) ↔ chF s = some (j, r) := by
  rw [chF_parts]
  constructor
  · intro h
    obtain ⟨e, h1, h5⟩ := lnF_once h
    have e2 : s = wFold ++ (name j ++ 10 :: r) := by rw [e]; simp [txF]
    refine ⟨name j ++ 10 :: r, by rw [e2, pre_app], ?_, ?_⟩
    · exact kd_yes h1 h5 (word_name h1 h5 r)
    · rw [word_name h1 h5 r, List.drop_left]
      exact pre_app [10] r
  · rintro ⟨s1, h1, h2, h3⟩
    obtain ⟨hw, g1, g5⟩ := kd_some h2
    have e1 := pre_once h1
    have e3 := pre_once h3
    have e : s = txF j ++ r := by
      rw [e1]
      have : s1 = word s1 ++ s1.drop (word s1).length := by
        have hp : word s1 <+: s1 := List.takeWhile_prefix _
        exact (List.prefix_iff_eq_append.1 hp).symm
      rw [this, e3, hw]
      simp [txF]
    rw [e]
    exact lnF_tx g1 g5 r
theorem lnF_ch (s : List UInt8) : lnF s = chF s := by
  cases h : lnF s with
  | none =>
    cases h2 : chF s with
    | none => rfl
    | some q =>
      obtain ⟨j, r⟩ := q
      rw [lnF_iff.2 h2] at h
      cases h
  | some q =>
    obtain ⟨j, r⟩ := q
    exact (lnF_iff.1 h).symm
theorem lnF_sk (x : Option (List UInt8)) : (x.bind lnF).map (·.2) = sk [10] ((kin (sk wFold x)).map (·.2)) := by
  cases x with
  | none => rfl
  | some s =>
    show (lnF s).map (·.2) = sk [10] ((kin (pre wFold s)).map (·.2))
    rw [lnF_ch]
    unfold chF
    cases pre wFold s with
    | none => rfl
    | some s1 =>
      change ((kd s1).bind fun j => (pre [10] (s1.drop (word s1).length)).map fun r => (j, r)).map (·.2) = sk [10] (((kd s1).map fun j => (j, s1.drop (word s1).length)).map (·.2))
      cases kd s1 with
      | none => rfl
      | some j =>
        change ((pre [10] (s1.drop (word s1).length)).map fun r => (j, r)).map (·.2) = pre [10] (s1.drop (word s1).length)
        cases pre [10] (s1.drop (word s1).length) <;> rfl
theorem lnF_val {x : Option (List UInt8)} {m : Nat} {r : List UInt8} (h : x.bind lnF = some (m, r)) : ∃ r', kin (sk wFold x) = some (m, r') := by
  cases x with
  | none => cases h
  | some s =>
    have h : lnF s = some (m, r) := h
    rw [lnF_ch, chF_parts] at h
    obtain ⟨s1, h1, h2, _⟩ := h
    refine ⟨s1.drop (word s1).length, ?_⟩
    show kin (pre wFold s) = _
    rw [h1]
    show (kd s1).map _ = _
    rw [h2]
    rfl
set_option maxHeartbeats 2000000 in
theorem sLine3 (w0 : World) (b : Nat) (x : Option (List UInt8)) (k : Nat) (hk : k ≤ 100) (w : World) (h : Sta w0 b x k w) :
    Calls Tryd.prog 41 #[.pointer (some ⟨b, 0, none⟩), strv [102, 111, 108, 100], .func (.func 42) #[] #[]] w (Num w0 b (x.bind lnF) (kx x k) w) := by
  cases x with
  | none =>
    obtain ⟨s, h⟩ := h
    have H0 := Lib.hid h
    have c2 := h.st.cells.2.2
    clear h
    go_enter Tryd.func41, Tryd.ntmps41
    go_wp2_with fail
    go_ret
    exact ⟨0, rfl, by omega, fun m r h => (by cases h), ⟨s, H0.out⟩, Mine.refl _ _⟩
  | some s =>
    have H0 := Lib.hid (show Good w0 b s k w from h)
    have c2 := H0.out.st.cells.2.2
    have c1 := H0.out.st.cells.2.1
    have f1 := H0.out.st.free 1
    clear h
    have hw := wrap_k hk
    have ha : ∀ w, (Op.stringOp .add (⟨#[102, 111, 108, 100]⟩ : ByteArray) (⟨#[32]⟩ : ByteArray)).run Tryd.prog w = .ok (strv wFold) w := addS [102, 111, 108, 100] [32] (by simp)
    have S1 := Lib.hid (show Sta w0 b (some s) (k + 1) (w.setCell ⟨b, 1, none⟩ (.int .i64 ((k + 1 : Nat) : Int))) from
      ⟨H0.out.st.set1 (k + 1), H0.out.wh.mine (Mine.set (M := (· = b)) w (a := ⟨b, 1, none⟩) _ rfl), H0.out.len⟩)
    have M1 := Lib.hid (Mine.set (M := (· = b)) w (a := ⟨b, 1, none⟩) (.int .i64 ((k + 1 : Nat) : Int)) rfl)
    have HS := Lib.hid (fun x t w h => sSkip w0 b x t (k + 1) w h)
    have HN := Lib.hid (fun x w h => sKind w0 b x (k + 1) w h)
    have HV := Lib.hid (fun m r => lnF_val (x := some s) (m := m) (r := r))
    have HE := Lib.hid (lnF_sk (some s))
    obtain ⟨y1, hy1⟩ : ∃ y, y = sk wFold (some s) := ⟨_, rfl⟩
    obtain ⟨y2, hy2⟩ : ∃ y, y = kin y1 := ⟨_, rfl⟩
    obtain ⟨z, hz⟩ : ∃ z, z = (some s).bind lnF := ⟨_, rfl⟩
    rw [← hy1, ← hy2] at HV
    rw [← hy1, ← hy2, ← hz] at HE
    rw [← hz] at HV ⊢
    have Y1 := Lib.hid hy1
    have Y2 := Lib.hid hy2
    clear hy1 hy2 hz
    go_enter Tryd.func41, Tryd.ntmps41
    go_wp2_with fail
    refine (HS.out _ _ _ S1.out).mono ?_
    rintro e w2 ⟨rfl, s2, m2⟩
    rw [← Y1.out] at s2
    have S2 := Lib.hid s2
    have M2 := Lib.hid (M1.out.trans m2)
    clear s2 m2
    go_wp2_with fail
    refine (HN.out _ _ S2.out).mono ?_
    rintro e w3 ⟨n, rfl, hn, hv, s3, m3⟩
    rw [← Y2.out] at s3 hv
    have S3 := Lib.hid s3
    have M3 := Lib.hid (M2.out.trans m3)
    have NV := Lib.hid (And.intro hn hv)
    clear s3 m3 hn hv
    go_wp2_with fail
    refine (HS.out _ _ _ S3.out).mono ?_
    rintro e w4 ⟨rfl, s4, m4⟩
    have S4 := Lib.hid s4
    have M4 := Lib.hid (M3.out.trans m4)
    clear s4 m4
    go_wp2_with fail
    go_ret
    refine ⟨n, rfl, NV.out.1, fun m r h => ?_, ?_, M4.out⟩
    · obtain ⟨r', h'⟩ := HV.out m r h
      exact NV.out.2 m r' h'
    · rw [HE.out]
      exact S4.out
/-- few: nothing above 2^31 - 1 is told apart. -/
def few (n : Nat) : Int := min (n : Int) 2147483647
theorem jFew (n : Nat) (w : World) : Calls Tryd.prog 43 #[.int .i64 (n : Int)] w (SaysI (few n) w) := by
  go_enter Tryd.func43, Tryd.ntmps43
  go_wp2
  go_ret
  exact ⟨rfl, rfl⟩
end Jo
end Go.Proofs.YtileonenphmkkaaDoor
