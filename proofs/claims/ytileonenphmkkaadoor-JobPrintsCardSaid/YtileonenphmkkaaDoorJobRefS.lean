/- numbers of the reference. -/
import Derived.Test.YtileonenphmkkaaDoorJobRefN
import Derived.Test.YtileonenphmkkaaDoorHold
namespace Go.Proofs.YtileonenphmkkaaDoor
open Go.RowKit Go.Shelf
set_option linter.unusedVariables false
set_option maxRecDepth 8000
namespace Jo
open Gen
abbrev iv (l : List Int) : List Value := l.map (Value.int .i64)
theorem own_upJ {w w' : World} {B size n : Nat} {e : TypeId} {v : Value} {xs : List Value} (h : w.ownsRow B e size v n xs) (hb : Below w.heap.size w w') : w'.ownsRow B e size v n xs := by
  obtain ⟨hl, ⟨rfl, rfl⟩ | ⟨g, cap, cur, rfl, hg, hh, hn, hm, hc, hx⟩⟩ := h
  · exact ⟨hl, .inl ⟨rfl, rfl⟩⟩
  · exact ⟨hl, .inr ⟨g, cap, cur, rfl, hg, (hb.block g (Array.getElem?_eq_some_iff.1 hh).1).trans hh, hn, hm, hc, hx⟩⟩
theorem al_apartJ {w w9 : World} {B : Nat} {o : Obj} (hb : Below B (w.alloc o) w9) (hB : B ≤ w.heap.size) : Below B w w9 :=
  ((Below.refl B w).alloc hB o).trans hb
theorem one_intJ (w : World) (x : Int) (e : TypeId) : Row (w.alloc (.cells #[.int .i64 x] e)) (some ⟨w.heap.size, 0, none⟩) (iv [x]) := by
  refine .inr ⟨w.heap.size, 0, rfl, fun j u hu => ?_⟩
  rw [Nat.zero_add]
  refine (Lies.new w #[.int .i64 x] e).cell ?_
  rw [← hu]
  simp
theorem iv_onesJ (l : List Int) : ∀ u ∈ iv l, u.oneCell' = true := by
  intro u hu
  obtain ⟨z, _, rfl⟩ := List.mem_map.1 hu
  rfl
theorem i64Info : (Tryd.prog.info? 2).map (fun i => (i.zero, i.size, i.bytes)) = some (some (.int .i64 0), 1, 8) := by kernel_rfl
theorem pre_two (a b s : List UInt8) : pre (a ++ b) s = (pre a s).bind (pre b) := by
  cases h : pre a s with
  | none =>
    refine pre_not fun t e => ?_
    rw [e, List.append_assoc, pre_app] at h
    cases h
  | some r =>
    have e := pre_once h
    show pre (a ++ b) s = pre b r
    cases h2 : pre b r with
    | none =>
      refine pre_not fun t e2 => ?_
      rw [e, List.append_assoc] at e2
      rw [List.append_cancel_left e2, pre_app] at h2
      cases h2
    | some t =>
      rw [e, pre_once h2, ← List.append_assoc, pre_app]
theorem pre_len {t s r : List UInt8} (h : pre t s = some r) : r.length ≤ s.length := by
  rw [pre_once h, List.length_append]; omega
theorem rd_len {s r : List UInt8} {n : Nat} (h : rd s = some (n, r)) : r.length ≤ s.length := by
  rw [(rd_once h).1, List.length_append]; omega
/-- So many numbers, a blank ahead of each. -/
def rn : Nat → List UInt8 → Option (List Int × List UInt8)
  | 0, s => some ([], s)
  | k + 1, s => (rn k s).bind fun p => ((pre [32] p.2).bind rd).map fun q => (p.1 ++ [(q.1 : Int)], q.2)
theorem rn_none {s : List UInt8} {k m : Nat} (h : k ≤ m) (hk : rn k s = none) : rn m s = none := by
  induction h with
  | refl => exact hk
  | step _ ih => unfold rn; rw [ih]; rfl
theorem rn_next {s t : List UInt8} {ns : List Int} {k : Nat} (h : rn k s = some (ns, t)) : rn (k + 1) s = ((pre [32] t).bind rd).map fun q => (ns ++ [(q.1 : Int)], q.2) := by
  show (rn k s).bind _ = _
  rw [h]
  rfl
/-- The word, so many numbers, the line's end. -/
def lnN (wd : List UInt8) (m : Nat) (s : List UInt8) : Option (List Int × List UInt8) := (pre wd s).bind fun s0 => (rn m s0).bind fun p => (pre [10] p.2).map fun r => (p.1, r)
theorem lnN_one (wd s : List UInt8) : lnN wd 1 s = (ln1 wd s).map fun q => ([(q.1 : Int)], q.2) := by
  unfold lnN ln1
  rw [pre_two]
  cases pre wd s with
  | none => rfl
  | some s0 =>
    show (rn 1 s0).bind _ = ((pre [32] s0).bind _).map _
    rw [rn_next (k := 0) rfl]
    cases pre [32] s0 with
    | none => rfl
    | some s1 =>
      show ((rd s1).map _).bind _ = ((rd s1).bind _).map _
      cases rd s1 with
      | none => rfl
      | some q =>
        show (pre [10] q.2).map _ = ((pre [10] q.2).map _).map _
        cases pre [10] q.2 <;> rfl
theorem lnN_two (wd s : List UInt8) : lnN wd 2 s = (ln2 wd s).map fun q => ([(q.1 : Int), (q.2.1 : Int)], q.2.2) := by
  unfold lnN ln2
  rw [pre_two]
  cases pre wd s with
  | none => rfl
  | some s0 =>
    show (rn 2 s0).bind _ = ((pre [32] s0).bind _).map _
    show ((rn 1 s0).bind _).bind _ = _
    rw [rn_next (k := 0) rfl]
    cases pre [32] s0 with
    | none => rfl
    | some s1 =>
      show (((rd s1).map _).bind _).bind _ = ((rd s1).bind _).map _
      cases rd s1 with
      | none => rfl
      | some q =>
        show (((pre [32] q.2).bind rd).map _).bind _ = ((pre [32] q.2).bind _).map _
        cases pre [32] q.2 with
        | none => rfl
        | some s2 =>
          show ((rd s2).map _).bind _ = ((rd s2).bind _).map _
          cases rd s2 with
          | none => rfl
          | some q2 =>
            show (pre [10] q2.2).map _ = ((pre [10] q2.2).map _).map _
            cases pre [10] q2.2 <;> rfl
/-- Numbers handed back, or none. -/
def NumsR (x : Option (List Int × List UInt8)) (w : World) (e : Ending) (w' : World) : Prop :=
  ∃ v t q, e = .returned (.tuple #[v, strv t, .bool q]) ∧ Below w.heap.size w w' ∧
    ((x = none ∧ q = false) ∨ ∃ ns A c, x = some (ns, t) ∧ q = true ∧ v = .slice A ns.length c ∧ ns.length ≤ c ∧ Row w' A (iv ns))
/-- What stands at the head of a round. -/
structure Rnd (w0 : World) (wd s : List UInt8) (m : Nat) (out rest is i : Value) (wr : World) (k : Nat) (q : Bool) (t : List UInt8) : Prop where
  hi : i = .int .i64 (k : Int)
  hk : k ≤ m
  hq : is = .bool q
  hr : rest = strv t
  len : t.length ≤ s.length
  bl : Below w0.heap.size w0 wr
  ok : (q = true ∧ ∃ s0 ns, pre wd s = some s0 ∧ rn k s0 = some (ns, t) ∧ ns.length = k ∧ wr.ownsRow w0.heap.size 2 1 out k (iv ns)) ∨ (q = false ∧ lnN wd m s = none)
theorem lnN_none {wd s s0 : List UInt8} {k m : Nat} (h : pre wd s = some s0) (hk : k ≤ m) (hr : rn k s0 = none) : lnN wd m s = none := by
  unfold lnN
  rw [h]
  show (rn m s0).bind _ = none
  rw [rn_none hk hr]
  rfl
theorem lnN_end {wd s s0 t : List UInt8} {ns : List Int} {m : Nat} (h : pre wd s = some s0) (hr : rn m s0 = some (ns, t)) : lnN wd m s = (pre [10] t).map fun r => (ns, r) := by
  unfold lnN
  rw [h]
  show (rn m s0).bind _ = _
  rw [hr]
  rfl
set_option maxHeartbeats 2000000 in
theorem rNumbers (wd s : List UInt8) (m : Nat) (hm : m ≤ 2) (hs : s.length ≤ 140737488355328) (w : World) :
    Calls Tryd.prog 24 #[strv s, strv wd, .int .i64 (m : Int)] w (NumsR (lnN wd m s) w) := by
  have HA := Lib.hid (fun t s hs w => rAfter t s hs w)
  have HN := Lib.hid (fun s hs w => rNumber s hs w)
  have HS := Lib.hid hs
  have HM := Lib.hid hm
  have lm : (0 : Int) ≤ m := by omega
  have N0 := Lib.hid (show (w.alloc (.cells #[] 2)).ownsRow w.heap.size 2 1 (.slice (some ⟨w.heap.size, 0, none⟩) 0 0) 0 [] from own_new (Nat.le_refl _))
  have HX := Lib.hid (fun s0 k hk h h2 => lnN_none (wd := wd) (s := s) (s0 := s0) (k := k) (m := m) h hk h2)
  have HE := Lib.hid (fun s0 t ns h h2 => lnN_end (wd := wd) (s := s) (s0 := s0) (t := t) (ns := ns) (m := m) h h2)
  have start : ∃ q t, Aft wd s (w.alloc (.cells #[] 2)) = (fun e w' => e = .returned (.tuple #[strv t, .bool q]) ∧ w' = w.alloc (.cells #[] 2)) ∧ Rnd w wd s m (.slice (some ⟨w.heap.size, 0, none⟩) 0 0) (strv t) (.bool q) (.int .i64 0) (w.alloc (.cells #[] 2)) 0 q t := by
    cases hp : pre wd s with
    | none =>
      refine ⟨false, s, by unfold Aft; rw [hp]; rfl, rfl, by omega, rfl, rfl, Nat.le_refl _, below_al (Below.refl _ _), .inr ⟨rfl, ?_⟩⟩
      unfold lnN; rw [hp]; rfl
    | some s0 =>
      exact ⟨true, s0, by unfold Aft; rw [hp]; rfl, rfl, by omega, rfl, rfl, pre_len hp, below_al (Below.refl _ _), .inl ⟨rfl, s0, [], hp, rfl, rfl, N0.out⟩⟩
  obtain ⟨q, t, hA, hR⟩ := start
  have HR := Lib.hid hR
  have HA0 := Lib.hid (hA ▸ rAfter wd s hs (w.alloc (.cells #[] 2)))
  obtain ⟨x, hx⟩ : ∃ x, x = lnN wd m s := ⟨_, rfl⟩
  rw [← hx] at HX HE ⊢
  have XE := Lib.hid hx
  clear hs hm hA hR hx
  go_enter Tryd.func24, Tryd.ntmps24
  go_wp2_with fail
  refine HA0.out.mono ?_
  rintro e w1 ⟨rfl, rfl⟩
  go_wp2_with fail
  go_loopw [9, 10, 11, 12] (fun o r z i wr => ∃ k q t, Rnd w wd s m o r z i wr k q t) (fun _ _ _ i _ => m - (intOf i).toNat)
  case atStart => exact ⟨0, q, t, HR.out⟩
  case round =>
    clear HR HA0 N0
    obtain ⟨k, q, t, rfl, hk, rfl, rfl, hlen, hbl, hok⟩ := hrel
    have HB := Lib.hid hbl
    have HL := Lib.hid hlen
    rcases hok with ⟨rfl, s0, ns, hp, hrn, hnl, hown⟩ | ⟨rfl, hnone⟩
    · have HP := Lib.hid hp
      have HRN := Lib.hid hrn
      have HNL := Lib.hid hnl
      have HO := Lib.hid hown
      clear hbl hlen hp hrn hnl hown
      by_cases hlt : k < m
      · have hA : ∃ t' ok, Aft [32] t = (fun wa e w' => e = .returned (.tuple #[strv t', .bool ok]) ∧ w' = wa) ∧ t'.length ≤ t.length ∧ ((ok = true ∧ pre [32] t = some t') ∨ (ok = false ∧ pre [32] t = none)) := by
          cases h32 : pre [32] t with
          | none => exact ⟨t, false, by unfold Aft; rw [h32]; rfl, Nat.le_refl _, .inr ⟨rfl, rfl⟩⟩
          | some t1 => exact ⟨t1, true, by unfold Aft; rw [h32]; rfl, pre_len h32, .inl ⟨rfl, rfl⟩⟩
        obtain ⟨t', ok, hA, hl', hok⟩ := hA
        have HA1 := Lib.hid (fun w => hA ▸ HA.out [32] t (by have := HL.out; have := HS.out; omega) w)
        have HN1 := Lib.hid (fun w => HN.out t' (by have := HL.out; have := HS.out; omega) w)
        have HL' := Lib.hid hl'
        have HOK := Lib.hid hok
        have klt : (k : Int) < m := by omega
        have ew : IntKind.i64.wrap ((k : Int) + 1) = ((k + 1 : Nat) : Int) := wrap_in (by omega) (by have := HM.out; omega)
        obtain ⟨i0, hi0, hz0, hz1, hz2⟩ := info_parts i64Info
        have HI0 := Lib.hid hi0; have HZ0 := Lib.hid hz0; have HZ1 := Lib.hid hz1; have HZ2 := Lib.hid hz2
        clear hA hl' hok hi0 hz0 hz1 hz2
        go_wp2_with fail
        refine (HA1.out _).mono ?_
        rintro e w2 ⟨rfl, rfl⟩
        go_wp2_with fail
        refine (HN1.out _).mono ?_
        rintro e w3 ⟨hb3, hnum⟩
        have HB3 := Lib.hid hb3
        clear hb3
        rcases hnum with ⟨n, r, hrd, rfl⟩ | ⟨hrd, rfl⟩
        · have HRD := Lib.hid hrd
          clear hrd
          rcases HOK.out with ⟨rfl, h32⟩ | ⟨rfl, h32⟩
          · have H32 := Lib.hid h32
            clear h32
            go_wp2_with (at_builtin; refine hold_mk ?_)
            refine hold_out ?_
            have hkk := HNL.out
            have hm2 := HM.out
            refine wpApp rfl _ _ 43 rfl w.heap.size 2 i0 _ 1 8 Tryd.underlying43 HI0.out HZ0.out HZ1.out HZ2.out rfl (by omega) _ k (iv ns) rfl (own_upJ (own_upJ HO.out HB3.out) (below_al (Below.refl _ _))) _ 1 1 (iv [(n : Int)]) rfl (one_intJ _ _ _) (by simp) (iv_onesJ _)
              (by unfold maxLen; omega) (by omega) (by have := HB.out.size; have := HB3.out.size; simp only [World.size_alloc]; omega) ?_
            intro v9 w9 hown9 hb9
            rw [← List.map_append] at hown9
            have HB9 := Lib.hid ((below_next HB.out HB3.out).trans (al_apartJ hb9 (below_next HB.out HB3.out).size))
            have HO9 := Lib.hid hown9
            clear hown9 hb9 hkk hm2
            go_wp2_with fail
            go_roundw
            case rel =>
              refine ⟨k + 1, true, r, rfl, by omega, rfl, rfl, ?_, HB9.out, .inl ⟨rfl, s0, ns ++ [(n : Int)], HP.out, ?_, by rw [List.length_append, HNL.out]; rfl, HO9.out⟩⟩
              · have := rd_len HRD.out; have := HL'.out; have := HL.out; omega
              · rw [rn_next HRN.out, H32.out]
                show ((rd t').map fun q => (ns ++ [(q.1 : Int)], q.2)) = _
                rw [HRD.out]
                rfl
            case measure => simp [intOf]; omega
          · have H32 := Lib.hid h32
            clear h32
            go_wp2_with (at_builtin; refine hold_mk ?_)
            refine hold_out ?_
            have hkk := HNL.out
            have hm2 := HM.out
            refine wpApp rfl _ _ 43 rfl w.heap.size 2 i0 _ 1 8 Tryd.underlying43 HI0.out HZ0.out HZ1.out HZ2.out rfl (by omega) _ k (iv ns) rfl (own_upJ (own_upJ HO.out HB3.out) (below_al (Below.refl _ _))) _ 1 1 (iv [(n : Int)]) rfl (one_intJ _ _ _) (by simp) (iv_onesJ _)
              (by unfold maxLen; omega) (by omega) (by have := HB.out.size; have := HB3.out.size; simp only [World.size_alloc]; omega) ?_
            intro v9 w9 hown9 hb9
            rw [← List.map_append] at hown9
            have HB9 := Lib.hid ((below_next HB.out HB3.out).trans (al_apartJ hb9 (below_next HB.out HB3.out).size))
            have HO9 := Lib.hid hown9
            clear hown9 hb9 hkk hm2
            go_wp2_with fail
            go_roundw
            case rel =>
              refine ⟨k + 1, false, r, rfl, by omega, rfl, rfl, ?_, HB9.out, .inr ⟨rfl, ?_⟩⟩
              · have := rd_len HRD.out; have := HL'.out; have := HL.out; omega
              · rw [← XE.out]
                refine HX.out s0 (k + 1) (by omega) HP.out ?_
                rw [rn_next HRN.out, H32.out]
                rfl
            case measure => simp [intOf]; omega
        · have HRD := Lib.hid hrd
          clear hrd
          rcases HOK.out with ⟨rfl, h32⟩ | ⟨rfl, h32⟩
          · have H32 := Lib.hid h32
            clear h32
            go_wp2_with (at_builtin; refine hold_mk ?_)
            refine hold_out ?_
            have hkk := HNL.out
            have hm2 := HM.out
            refine wpApp rfl _ _ 43 rfl w.heap.size 2 i0 _ 1 8 Tryd.underlying43 HI0.out HZ0.out HZ1.out HZ2.out rfl (by omega) _ k (iv ns) rfl (own_upJ (own_upJ HO.out HB3.out) (below_al (Below.refl _ _))) _ 1 1 (iv [(0 : Int)]) rfl (one_intJ _ _ _) (by simp) (iv_onesJ _)
              (by unfold maxLen; omega) (by omega) (by have := HB.out.size; have := HB3.out.size; simp only [World.size_alloc]; omega) ?_
            intro v9 w9 hown9 hb9
            rw [← List.map_append] at hown9
            have HB9 := Lib.hid ((below_next HB.out HB3.out).trans (al_apartJ hb9 (below_next HB.out HB3.out).size))
            have HO9 := Lib.hid hown9
            clear hown9 hb9 hkk hm2
            go_wp2_with fail
            go_roundw
            case rel =>
              refine ⟨k + 1, false, t', rfl, by omega, rfl, rfl, ?_, HB9.out, .inr ⟨rfl, ?_⟩⟩
              · have := HL'.out; have := HL.out; omega
              · rw [← XE.out]
                refine HX.out s0 (k + 1) (by omega) HP.out ?_
                rw [rn_next HRN.out, H32.out]
                show ((rd t').map fun q => (ns ++ [(q.1 : Int)], q.2)) = _
                rw [HRD.out]
                rfl
            case measure => simp [intOf]; omega
          · have H32 := Lib.hid h32
            clear h32
            go_wp2_with (at_builtin; refine hold_mk ?_)
            refine hold_out ?_
            have hkk := HNL.out
            have hm2 := HM.out
            refine wpApp rfl _ _ 43 rfl w.heap.size 2 i0 _ 1 8 Tryd.underlying43 HI0.out HZ0.out HZ1.out HZ2.out rfl (by omega) _ k (iv ns) rfl (own_upJ (own_upJ HO.out HB3.out) (below_al (Below.refl _ _))) _ 1 1 (iv [(0 : Int)]) rfl (one_intJ _ _ _) (by simp) (iv_onesJ _)
              (by unfold maxLen; omega) (by omega) (by have := HB.out.size; have := HB3.out.size; simp only [World.size_alloc]; omega) ?_
            intro v9 w9 hown9 hb9
            rw [← List.map_append] at hown9
            have HB9 := Lib.hid ((below_next HB.out HB3.out).trans (al_apartJ hb9 (below_next HB.out HB3.out).size))
            have HO9 := Lib.hid hown9
            clear hown9 hb9 hkk hm2
            go_wp2_with fail
            go_roundw
            case rel =>
              refine ⟨k + 1, false, t', rfl, by omega, rfl, rfl, ?_, HB9.out, .inr ⟨rfl, ?_⟩⟩
              · have := HL'.out; have := HL.out; omega
              · rw [← XE.out]
                refine HX.out s0 (k + 1) (by omega) HP.out ?_
                rw [rn_next HRN.out, H32.out]
                rfl
            case measure => simp [intOf]; omega
      · have hkm : k = m := by omega
        obtain ⟨A, c, rfl, q1, q2, q3, q4, q5⟩ := own_form HO.out (by omega)
        have HF := Lib.hid (And.intro q1 q4)
        have klt : decide ((k : Int) < m) = false := decide_eq_false (by omega)
        have klt2 : decide (k < m) = false := decide_eq_false (by omega)
        have HE1 := Lib.hid (HE.out s0 t ns HP.out (hkm ▸ HRN.out))
        have HA2 := Lib.hid (fun w => HA.out [10] t (by have := HL.out; have := HS.out; omega) w)
        clear q1 q2 q3 q4 q5
        cases h10 : pre [10] t with
        | none =>
          rw [h10] at HE1
          have HA2 := Lib.hid (fun w => show Calls Tryd.prog 44 #[strv t, strv [10]] w (fun e w' => e = .returned (.tuple #[strv t, .bool false]) ∧ w' = w) from by have h := HA2.out w; unfold Aft at h; rw [h10] at h; exact h)
          clear h10 hkm hlt
          go_wp2_with fail
          refine (HA2.out _).mono ?_
          rintro e w2 ⟨rfl, rfl⟩
          go_wp2_with fail
          go_ret3
          exact ⟨.slice A k c, t, false, rfl, HB.out, .inl ⟨HE1.out, rfl⟩⟩
        | some r =>
          rw [h10] at HE1
          have HA2 := Lib.hid (fun w => show Calls Tryd.prog 44 #[strv t, strv [10]] w (fun e w' => e = .returned (.tuple #[strv r, .bool true]) ∧ w' = w) from by have h := HA2.out w; unfold Aft at h; rw [h10] at h; exact h)
          clear h10 hkm hlt
          go_wp2_with fail
          refine (HA2.out _).mono ?_
          rintro e w2 ⟨rfl, rfl⟩
          go_wp2_with fail
          go_ret3
          exact ⟨.slice A k c, r, true, rfl, HB.out, .inr ⟨ns, A, c, HE1.out, rfl, by rw [HNL.out], by rw [HNL.out]; exact HF.out.1, HF.out.2⟩⟩
    · have HNo := Lib.hid (XE.out.trans hnone)
      clear hbl hlen hnone
      go_wp2_with fail
      go_ret3
      exact ⟨.slice none 0 0, s, false, rfl, HB.out, .inl ⟨HNo.out, rfl⟩⟩
end Jo
end Go.Proofs.YtileonenphmkkaaDoor
