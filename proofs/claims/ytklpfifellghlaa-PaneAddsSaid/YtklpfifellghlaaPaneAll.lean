/- Values put into keys' windows: the law's own loop. -/
import Derived.Test.YtklpfifellghlaaPaneAdd
import Derived.Test.YtklpfifellghlaaPaneOpen
namespace Go.Proofs.Ytklpfifellghlaa
open Go.ChangeShapes Go.WideShapes Go.ChangeAt Go.RowKit
open Pan
set_option linter.unusedVariables false
/-- Values as they lie in a slice. -/
def vL (x : Pl × Int) : List Value := [.string (kS x.1.key), .int .i64 x.1.lo, .int .i64 x.1.hi, .int .i64 x.2]
def vc (xs : List (Pl × Int)) : List Value := xs.flatMap vL
theorem vL_len (x : Pl × Int) : (vL x).length = 4 := rfl
theorem vc_len (xs : List (Pl × Int)) : (vc xs).length = xs.length * 4 := flat_len vL vL_len xs
theorem vc_app (xs ys : List (Pl × Int)) : vc (xs ++ ys) = vc xs ++ vc ys := by simp [vc]
structure VlAt (w : World) (b o : Nat) (x : Pl × Int) : Prop where
  c0 : w.cell? ⟨b, o, none⟩ = some (.string (kS x.1.key))
  c1 : w.cell? ⟨b, o + 1, none⟩ = some (.int .i64 x.1.lo)
  c2 : w.cell? ⟨b, o + 2, none⟩ = some (.int .i64 x.1.hi)
  c3 : w.cell? ⟨b, o + 3, none⟩ = some (.int .i64 x.2)
theorem Row.vl {w : World} {A : Option Addr} {xs : List (Pl × Int)} (h : Row w A (vc xs)) {k : Nat} {x : Pl × Int} (hk : xs[k]? = some x) : ∃ b off, A = some ⟨b, off, none⟩ ∧ VlAt w b (off + k * 4) x := by
  have g : ∀ j, j < 4 → (vc xs)[k * 4 + j]? = (vL x)[j]? := fun j hj => flat_get vL vL_len hk hj
  have g0 := g 0 (by omega); have g1 := g 1 (by omega); have g2 := g 2 (by omega); have g3 := g 3 (by omega)
  rcases h with h | ⟨b, off, rfl, h⟩
  · rw [h] at g0; simp [vL] at g0
  · refine ⟨b, off, rfl, ?_, ?_, ?_, ?_⟩
    · exact h _ _ g0
    · rw [Nat.add_assoc]; exact h _ _ g1
    · rw [Nat.add_assoc]; exact h _ _ g2
    · rw [Nat.add_assoc]; exact h _ _ g3
theorem vc_take (xs : List (Pl × Int)) (n : Nat) : (vc xs).take (n * 4) = vc (xs.take n) := by
  rcases Nat.lt_or_ge n xs.length with h | h
  · have e : vc xs = vc (xs.take n) ++ vc (xs.drop n) := by rw [← vc_app, List.take_append_drop]
    have hl : (vc (xs.take n)).length = n * 4 := by rw [vc_len, List.length_take]; omega
    rw [e, ← hl, List.take_left]
  · rw [List.take_of_length_le h, List.take_of_length_le (by rw [vc_len]; omega)]
theorem vc_drop (xs : List (Pl × Int)) (n : Nat) : (vc xs).drop (n * 4) = vc (xs.drop n) := by
  rcases Nat.lt_or_ge n xs.length with h | h
  · have e : vc xs = vc (xs.take n) ++ vc (xs.drop n) := by rw [← vc_app, List.take_append_drop]
    have hl : (vc (xs.take n)).length = n * 4 := by rw [vc_len, List.length_take]; omega
    rw [e, ← hl, List.drop_left]
  · rw [List.drop_eq_nil_of_le h, List.drop_eq_nil_of_le (by rw [vc_len]; omega)]; rfl
theorem Row.takeV {w : World} {A : Option Addr} {xs : List (Pl × Int)} (h : Row w A (vc xs)) (n : Nat) : Row w A (vc (xs.take n)) := by
  rw [← vc_take]
  rcases h with h | ⟨b, off, rfl, h⟩
  · left; rw [h]; simp
  · refine .inr ⟨b, off, rfl, fun i u hu => ?_⟩
    rw [List.getElem?_take] at hu
    split at hu
    · exact h _ _ hu
    · cases hu
theorem Row.dropV {w : World} {A : Option Addr} {xs : List (Pl × Int)} (h : Row w A (vc xs)) (n : Nat) : Row w (Option.map (fun x => x.add (n * 4)) A) (vc (xs.drop n)) := by
  rw [← vc_drop]
  rcases h with h | ⟨b, off, rfl, h⟩
  · left; rw [h]; simp
  · refine .inr ⟨b, off + n * 4, by rw [Option.map_some, Go.WideShapes.add_plain], fun i u hu => ?_⟩
    rw [List.getElem?_drop] at hu
    rw [Nat.add_assoc]
    exact h _ _ hu
section
variable {H : Type} {enc : TypeId × Value → H} {w : World} {base : Nat} {spare : Nat → Bool} {held : Bool}
theorem pcells_vl : Try.prog.cellsOf 44 = 4 := by kernel_rfl
theorem ptrod_vl {fuel : Nat} {c0 c1 c2 c3 : Value} {x : DataW H × List MemPlace} (h : DataW.trod enc Try.prog w base spare held fuel 44 [c0, c1, c2, c3] = some x) : ∃ p : Pl × Int, [c0, c1, c2, c3] = vL p := by
  obtain ⟨xs, n, _, _, _, hlen, hg⟩ := DataW.trod_struct Try.underlying44 h
  have hl : xs.length = 3 := hlen
  match xs, hl with
  | [y0, y1, y2], _ =>
    obtain ⟨k, rfl⟩ := pone_str (x := y0) (by simpa [pcells_str] using hg 0 _ rfl)
    obtain ⟨lo, hi, rfl, rfl⟩ := ptrod_win (x := y1) (by simpa [pcells_win] using hg 1 _ rfl)
    obtain ⟨v, rfl⟩ := pone_int (x := y2) (by simpa [pcells_i64] using hg 2 _ rfl)
    exact ⟨(⟨lo, hi, k⟩, v), rfl⟩
instance : Inhabited (Pl × Int) := ⟨(⟨0, 0, []⟩, 0)⟩
theorem openVals {v : Value} {d : DataW H} {ps : List MemPlace} {r : Reach} {b0 : Nat} (hval : Value.okWide Try.prog w r b0 41 v) (h : DataW.Trod enc Try.prog w base spare held 41 v d ps) :
    ∃ (A : Option Addr) (c : Nat) (xs : List (Pl × Int)), v = .slice A xs.length c ∧ xs.length ≤ c ∧ c ≤ maxLen ∧ Row w A (vc xs) :=
  openRow (f := vL) Try.underlying41 pcells_vl (by omega) vL_len (fun fuel cs x hl hx => by
    match cs, hl with
    | [c0, c1, c2, c3], _ => exact ptrod_vl hx) hval h
end
/-- Hands back what came of values, and whether; what was stays. -/
def GivesO (o : Option (List Pn)) (w : World) (e : Ending) (w' : World) : Prop :=
  ∃ A c, e = .returned (.tuple #[.slice A (o.getD []).length c, .bool o.isSome]) ∧ (o.getD []).length ≤ c ∧ c ≤ maxLen ∧ Row w' A (pc (o.getD [])) ∧ Below w.heap.size w w'
set_option maxRecDepth 100000 in
set_option maxHeartbeats 2000000 in
theorem lwAll (k : Int) (vs : List (Pl × Int)) (A : Option Addr) (c : Nat) (w : World) (hA : Row w A (vc vs)) (hl : vs.length ≤ 9223372036854775807) :
    Calls Try.prog 24 #[.int .i64 k, .slice A vs.length c] w (GivesO (allO k vs) w) := by
  have HA := Lib.hid hA
  obtain ⟨r, hr⟩ : ∃ r, r = allO k vs := ⟨_, rfl⟩
  have HR := Lib.hid hr
  rw [← hr]
  clear hA hr
  go_enter Try.func24, Try.ntmps24
  go_wp2_with fail
  go_loopw [6, 13] (fun v i wr => ∃ (j : Nat) (B : Option Addr) (cb : Nat) (l : List Pn), i = .int .i64 j ∧ v = .slice B l.length cb ∧ j ≤ vs.length ∧ l.length ≤ cb ∧ cb ≤ maxLen ∧ Row wr B (pc l) ∧ Below w.heap.size w wr ∧ allO k (vs.take j) = some l)
    (fun _ i _ => vs.length - (intOf i).toNat)
  case atStart => exact ⟨0, none, 0, [], rfl, rfl, Nat.zero_le _, Nat.le_refl _, by simp [maxLen], Row.nil, Below.refl _ _, rfl⟩
  case round =>
    obtain ⟨j, B, cb, l, rfl, rfl, hj, hlb, hcb, hrow, hb, hall⟩ := hrel
    have HB := Lib.hid hb
    have HROW := Lib.hid hrow
    have HALL := Lib.hid hall
    have hcb' : cb ≤ 9223372036854775807 := hcb
    clear hb hrow hall
    by_cases hlt : j < vs.length
    · obtain ⟨⟨⟨lo, hi, key⟩, v⟩, hx⟩ : ∃ x, vs[j]? = some x := ⟨_, List.getElem?_eq_getElem hlt⟩
      obtain ⟨b, off, rfl, c0, c1, c2, c3⟩ := (HA.out.below HB.out).vl hx
      simp only at c0 c1 c2 c3
      have HN := Lib.hid (allO_next (k := k) hx)
      have HADD := Lib.hid (fun w' (hb : Below wr.heap.size wr w') => paAdd k l B cb lo hi v key w' (HROW.out.below hb) hlb hcb')
      obtain ⟨⟨rl, re⟩, hrr⟩ : ∃ r, r = aOut k l ⟨lo, hi, key⟩ v := ⟨_, rfl⟩
      rw [← hrr] at HADD
      have HN2 : Hid (allO k (vs.take (j + 1)) = if re = 0 then some rl else none) := Lib.hid (by rw [HN.out, HALL.out]; show (if (aOut k l ⟨lo, hi, key⟩ v).2 = 0 then some (aOut k l ⟨lo, hi, key⟩ v).1 else none) = _; rw [← hrr])
      clear hx hrr
      go_wp2_with fail
      refine (HADD.out _ (below_al (Below.refl _ _))).mono ?_
      rintro e w5 ⟨A5, c5, rfl, q1, q2, q3, hb5⟩
      have Q3 := Lib.hid q3
      have HB5 := Lib.hid (below_next (below_next HB.out (below_al (Below.refl _ _))) hb5)
      simp only at q1
      clear q3 hb5
      by_cases he : re = 0
      · subst he
        go_wp2_with fail
        go_roundw
        case rel => exact ⟨j + 1, A5, c5, rl, by go_num, rfl, by omega, q1, q2, Q3.out, HB5.out, by rw [HN2.out]; simp⟩
        case measure => simp [intOf]; omega
      · have hne := nb he
        have HNONE : Hid (r = none) := Lib.hid (HR.out.trans (allO_none (j := j + 1) (by rw [HN2.out, if_neg he])))
        clear he
        go_wp2_with fail
        go_ret2
        rw [HNONE.out]
        exact ⟨none, 0, rfl, Nat.le_refl _, by simp [maxLen], Row.nil, HB5.out⟩
    · have hge : vs.length ≤ j := by omega
      have HSOME : Hid (r = some l) := Lib.hid (by rw [HR.out, ← HALL.out, List.take_of_length_le hge])
      clear hlt
      go_wp2_with fail
      go_ret2
      rw [HSOME.out]
      exact ⟨B, cb, rfl, hlb, hcb, HROW.out, HB.out⟩
end Go.Proofs.Ytklpfifellghlaa
