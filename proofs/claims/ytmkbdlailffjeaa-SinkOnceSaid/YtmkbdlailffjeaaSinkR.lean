/- The reference's Room, Right of a sink. -/
import Derived.Test.YtmkbdlailffjeaaSink
namespace Go.Proofs.Ytmkbdlailffjeaa
open Go.ChangeShapes Go.WideShapes Go.ChangeAt Go.RowKit
set_option linter.unusedVariables false
set_option maxRecDepth 8000
namespace Sk
open Gen (TellsB row_one flat_len flat_get)
/-- A stage where it lies: its number, its row's address, its room, its results. -/
abbrev Sg := Int × Option Addr × Nat × List Re
abbrev sgC (x : Sg) : Array Value := #[.int .i64 x.1, .slice x.2.1 x.2.2.2.length x.2.2.1]
abbrev sgL (x : Sg) : List Value := (sgC x).toList
abbrev sgc (l : List Sg) : List Value := l.flatMap sgL
theorem sgL_len (x : Sg) : (sgL x).length = 2 := rfl
theorem lenG (l : List Sg) : (sgc l).length = l.length * 2 := flat_len sgL sgL_len l
theorem appG (l m : List Sg) : sgc (l ++ m) = sgc l ++ sgc m := by simp [sgc]
abbrev Pg := Int × List Re
abbrev pgOf (x : Sg) : Pg := (x.1, x.2.2.2)
/-- A row of stages. -/
structure GAt (w : World) (S : Option Addr) (sg : List Sg) : Prop where
  row : Row w S (sgc sg)
  each : ∀ x ∈ sg, Row w x.2.1 (rec_ x.2.2.2)
theorem GAt.below {w w' : World} {S : Option Addr} {sg : List Sg} (h : GAt w S sg) (hb : Below w.heap.size w w') : GAt w' S sg := ⟨h.row.below hb, fun x hx => (h.each x hx).below hb⟩
theorem stage_row {w : World} {A : Option Addr} {l : List Sg} (h : Row w A (sgc l)) {k : Nat} {x : Sg} (hk : l[k]? = some x) :
    ∃ q off, A = some ⟨q, off, none⟩ ∧ w.cell? ⟨q, off + k * 2, none⟩ = some (.int .i64 x.1) ∧ w.cell? ⟨q, off + k * 2 + 1, none⟩ = some (.slice x.2.1 x.2.2.2.length x.2.2.1) := by
  obtain ⟨q, off, rfl, g⟩ := row_one sgL_len (by omega) h hk
  exact ⟨q, off, rfl, by simpa using g 0 _ rfl, g 1 _ rfl⟩
/-- A sink. -/
structure Si where
  op : List Re
  st : List Pg
  last : Int
  out : List Re
def zS : Si := ⟨[], [], 0, []⟩
def stO : Int → Nat → List Pg → Option Nat
  | _, room, [] => some room
  | last, room, x :: r => match allO x.2 room with
    | none => none
    | some m => if x.1 ≤ last ∨ 1073741824 < x.1 then none else stO x.1 m r
def headO (s : Si) : Option Nat := match allO s.op 20000 with
  | none => none
  | some a => match allO s.out a with
    | none => none
    | some b => if s.last < 0 ∨ 1073741824 < s.last ∨ 8 < s.st.length then none else some b
def roomS (s : Si) : Option Nat := match headO s with
  | none => none
  | some b => stO s.last b s.st
def rightS (s : Si) : Bool := (roomS s).isSome
abbrev skC (O : Option Addr) (no cO : Nat) (S : Option Addr) (ns cS : Nat) (last : Int) (U : Option Addr) (nu cU : Nat) : Array Value := #[.slice O no cO, .slice S ns cS, .int .i64 last, .slice U nu cU]
abbrev skV (O : Option Addr) (no cO : Nat) (S : Option Addr) (ns cS : Nat) (last : Int) (U : Option Addr) (nu cU : Nat) : Value := .agg (skC O no cO S ns cS last U nu cU)
theorem all_le {l : List Re} {r m : Nat} (h : allO l r = some m) : m ≤ r ∧ l.length ≤ r := by
  unfold allO at h
  split at h
  · cases h; omega
  · cases h
theorem stO_bad {last : Int} {room : Nat} {x : Pg} {r : List Pg} (h : allO x.2 room = none) : stO last room (x :: r) = none := by
  unfold stO; rw [h]
theorem stO_next {last : Int} {room m : Nat} {x : Pg} {r : List Pg} (h : allO x.2 room = some m) : stO last room (x :: r) = if x.1 ≤ last ∨ 1073741824 < x.1 then none else stO x.1 m r := by
  conv => lhs; unfold stO
  rw [h]
/-- The blocks of Room. -/
structure RmAt (w0 : World) (b : Nat) (C : Array Value) (w : World) : Prop where
  l : Lies b C 25 w
  below : Below w0.heap.size w0 w
theorem RmAt.next {w0 : World} {b : Nat} {C : Array Value} {w w' : World} (h : RmAt w0 b C w) (hb : Below w.heap.size w w') : RmAt w0 b C w' := ⟨h.l.below hb, below_next h.below hb⟩
set_option maxRecDepth 100000 in
set_option maxHeartbeats 4000000 in
theorem rfRoom (s : Si) (sg : List Sg) (hg : sg.map pgOf = s.st) (no ns nu : Nat) (hno : no = s.op.length) (hns : ns = s.st.length) (hnu : nu = s.out.length) (o : Option Nat) (ho : o = roomS s) (O : Option Addr) (cO : Nat) (S : Option Addr) (cS : Nat) (U : Option Addr) (cU : Nat) (w : World) (hO : Row w O (rec_ s.op)) (hS : GAt w S sg) (hU : Row w U (rec_ s.out)) :
    Calls Try.prog 25 #[skV O no cO S ns cS s.last U nu cU] w (GivesO o w) := by
  obtain ⟨o1, ho1⟩ : ∃ o1, o1 = allO s.op 20000 := ⟨_, rfl⟩
  have HA := Lib.hid (fun w' (hb : Below w.heap.size w w') => (show Calls Try.prog 36 #[.slice O no cO, .int .i64 20000] w' (GivesO o1 w') from rfAllR s.op no hno 20000 (Nat.le_refl _) o1 ho1 O cO w' (hO.below hb)))
  have HU := Lib.hid (fun (room : Nat) (hr : room ≤ 20000) o' ho' w' (hb : Below w.heap.size w w') => rfAllR s.out nu hnu room hr o' ho' U cU w' (hU.below hb))
  have T : Hid (RmAt w w.heap.size (skC O no cO S ns cS s.last U nu cU) (w.alloc (.cells (skC O no cO S ns cS s.last U nu cU) 25))) := Lib.hid ⟨Lies.new w _ _, below_al (Below.refl _ _)⟩
  have HO1 := Lib.hid ho1
  have HO := Lib.hid ho
  have HS := Lib.hid hS
  have HG := Lib.hid hg
  have HNS := Lib.hid hns
  clear hg hno hns hnu ho ho1 hO hS hU
  go_enter Try.func25, Try.ntmps25
  go_upto_region 1 with fail
  obtain ⟨tb, htb⟩ : ∃ b, b = w.heap.size := ⟨_, rfl⟩
  obtain ⟨W, hW⟩ : ∃ W, W = w.alloc (.cells (skC O no cO S ns cS s.last U nu cU) 25) := ⟨_, rfl⟩
  rw [← hW] at T ⊢
  rw [← htb] at T ⊢
  clear hW htb
  have x0 := T.out.l.cell (j := 0) rfl
  go_wp2_with fail
  refine (HA.out _ T.out.below).mono ?_
  rintro e w1 ⟨rfl, hb1⟩
  have T := Lib.hid (T.out.next hb1)
  clear hb1 x0
  have x3 := T.out.l.cell (j := 3) rfl
  cases o1 with
  | none =>
    have e : o = none := by rw [HO.out]; unfold roomS headO; rw [← HO1.out]
    subst e
    obtain ⟨o2, ho2⟩ : ∃ o2, o2 = allO s.out 0 := ⟨_, rfl⟩
    have HU0 := Lib.hid (show Calls Try.prog 36 #[.slice U nu cU, .int .i64 0] w1 (GivesO o2 w1) from HU.out 0 (by omega) o2 ho2 w1 T.out.below)
    clear ho2
    simp only [tupO]
    go_wp2_with fail
    refine HU0.out.mono ?_
    rintro e w2 ⟨rfl, hb2⟩
    have T := Lib.hid (T.out.next hb2)
    clear hb2 x3
    cases o2
    all_goals
      simp only [tupO]
      go_wp2_with fail
      go_ret2
      exact ⟨rfl, T.out.below⟩
  | some a =>
    have ha := (all_le HO1.out.symm).1
    obtain ⟨o2, ho2⟩ : ∃ o2, o2 = allO s.out a := ⟨_, rfl⟩
    have HU0 := Lib.hid (HU.out a ha o2 ho2 w1 T.out.below)
    have HO2 := Lib.hid ho2
    clear ho2 ha
    simp only [tupO]
    go_wp2_with fail
    refine HU0.out.mono ?_
    rintro e w2 ⟨rfl, hb2⟩
    have T := Lib.hid (T.out.next hb2)
    clear hb2 x3
    have x2 := T.out.l.cell (j := 2) rfl; have x1 := T.out.l.cell (j := 1) rfl
    cases o2 with
    | none =>
      have e : o = none := by rw [HO.out]; unfold roomS headO; rw [← HO1.out]; simp only; rw [← HO2.out]
      subst e
      simp only [tupO]
      go_wp2_with fail
      go_ret2
      exact ⟨rfl, T.out.below⟩
    | some r2 =>
      have HR2 : Hid (r2 ≤ 20000) := Lib.hid (by have h1 := (all_le HO1.out.symm).1; have h2 := (all_le HO2.out.symm).1; omega)
      have HH : Hid (headO s = if s.last < 0 ∨ 1073741824 < s.last ∨ 8 < s.st.length then none else some r2) := Lib.hid (by unfold headO; rw [← HO1.out]; simp only; rw [← HO2.out])
      simp only [tupO]
      have hway : (s.last < 0 ∨ (¬ s.last < 0 ∧ 1073741824 < s.last) ∨ (¬ s.last < 0 ∧ ¬ 1073741824 < s.last ∧ 8 < ns)) ∨ (¬ s.last < 0 ∧ ¬ 1073741824 < s.last ∧ ¬ 8 < ns) := by omega
      rcases hway with hway | ⟨h1, h2, h3⟩
      · have e : o = none := by
          rw [HO.out]; unfold roomS; rw [HH.out, if_pos (by rw [← HNS.out]; omega)]
        subst e
        rcases hway with h1 | ⟨h1, h2⟩ | ⟨h1, h2, h3⟩
        · have g1 : decide (s.last < 0) = true := decide_eq_true h1
          clear h1
          go_wp2_with fail
          go_ret2
          exact ⟨rfl, T.out.below⟩
        · have g1 : decide (s.last < 0) = false := decide_eq_false h1
          have g2 : decide (1073741824 < s.last) = true := decide_eq_true h2
          clear h1 h2
          go_wp2_with fail
          go_ret2
          exact ⟨rfl, T.out.below⟩
        · have g1 : decide (s.last < 0) = false := decide_eq_false h1
          have g2 : decide (1073741824 < s.last) = false := decide_eq_false h2
          have g3 : decide ((8 : Int) < (ns : Int)) = true := decide_eq_true (by omega)
          have g3n : decide (8 < ns) = true := decide_eq_true (by omega)
          clear h1 h2 h3
          go_wp2_with fail
          go_ret2
          exact ⟨rfl, T.out.below⟩
      · have HRS : Hid (o = stO s.last r2 s.st) := Lib.hid (by rw [HO.out]; unfold roomS; rw [HH.out, if_neg (by rw [← HNS.out]; omega)])
        have g1 : decide (s.last < 0) = false := decide_eq_false h1
        have g2 : decide (1073741824 < s.last) = false := decide_eq_false h2
        have g3 : decide ((8 : Int) < (ns : Int)) = false := decide_eq_false (by omega)
        have g3n : decide (8 < ns) = false := decide_eq_false (by omega)
        have H8 : Hid (ns ≤ 8) := Lib.hid (by omega)
        clear h1 h2 h3
        go_wp2_with fail
        clear x1 x2
        go_loopw [4, 7, 52] (fun s4 s7 s52 wr => ∃ (k room : Nat) (last : Int), s4 = .int .i64 room ∧ s7 = .int .i64 last ∧ s52 = .int .i64 k ∧ k ≤ ns ∧ room ≤ 20000 ∧ o = stO last room (s.st.drop k) ∧ RmAt w tb (skC O no cO S ns cS s.last U nu cU) wr) (fun _ _ s52 _ => ns - (intOf s52).toNat)
        case atStart => exact ⟨0, r2, s.last, rfl, rfl, rfl, Nat.zero_le _, HR2.out, by rw [List.drop_zero]; exact HRS.out, T.out⟩
        case round =>
          clear T HR2 HRS
          obtain ⟨k, room, last, rfl, rfl, rfl, hk, hroom, hos, ht⟩ := hrel
          have T := Lib.hid ht; have HROOM := Lib.hid hroom; have HOS := Lib.hid hos
          clear ht hroom hos
          by_cases hlt : k < ns
          · obtain ⟨⟨N, A, c, l⟩, hx⟩ : ∃ x, sg[k]? = some x := ⟨_, List.getElem?_eq_getElem (by have h1 := congrArg List.length HG.out; rw [List.length_map, ← HNS.out] at h1; omega)⟩
            have hp : s.st[k]? = some (N, l) := by rw [← HG.out, List.getElem?_map, hx]; rfl
            obtain ⟨q, off, hA1, d0, d1⟩ := stage_row (HS.out.row.below T.out.below) hx
            subst hA1
            have hdr : s.st.drop k = (N, l) :: s.st.drop (k + 1) := by
              obtain ⟨h1, h2⟩ := List.getElem?_eq_some_iff.1 hp
              rw [List.drop_eq_getElem_cons h1, h2]
            have HDR := Lib.hid hdr
            have HIT := Lib.hid (HS.out.each _ (List.mem_of_getElem? hx))
            have hki : (k : Int) < (ns : Int) := by omega
            have hw := wrapKS (k := k) (by have := H8.out; omega)
            have HK := Lib.hid hlt
            obtain ⟨m, hm⟩ : ∃ m, m = l.length := ⟨_, rfl⟩
            obtain ⟨o3, ho3⟩ : ∃ o3, o3 = allO l room := ⟨_, rfl⟩
            simp only at d0 d1
            rw [← hm] at d1
            have HAL := Lib.hid (fun w' (hb : Below w.heap.size w w') => rfAllR l m hm room HROOM.out o3 ho3 A c w' (HIT.out.below hb))
            have HO3 := Lib.hid ho3
            clear hx hp hdr hm ho3 hlt hk
            go_upto_region 9 with fail
            have hb9 := below_al (o := .cells #[.int .i64 N, .slice A m c] 50) (Below.refl wr.heap.size wr)
            have L9 := Lib.hid (Lies.new wr #[.int .i64 N, .slice A m c] 50)
            have T9 := Lib.hid (T.out.next hb9)
            obtain ⟨b9, hb9e⟩ : ∃ b, b = wr.heap.size := ⟨_, rfl⟩
            obtain ⟨W9, hW9⟩ : ∃ W, W = wr.alloc (.cells #[.int .i64 N, .slice A m c] 50) := ⟨_, rfl⟩
            rw [← hW9] at L9 T9 ⊢
            rw [← hb9e] at L9 ⊢
            clear hW9 hb9e hb9 d0 d1 T
            have y1 := L9.out.cell (j := 1) rfl
            go_wp2_with fail
            refine (HAL.out _ T9.out.below).mono ?_
            rintro e w5 ⟨rfl, hb5⟩
            have T5 := Lib.hid (T9.out.next hb5)
            have L5 := Lib.hid (L9.out.below hb5)
            clear hb5 y1 T9 L9
            have y0 := L5.out.cell (j := 0) rfl
            cases o3 with
            | none =>
              have e : o = none := by rw [HOS.out, HDR.out, stO_bad HO3.out.symm]
              subst e
              simp only [tupO]
              go_wp2_with fail
              go_ret2
              exact ⟨rfl, T5.out.below⟩
            | some r3 =>
              have HN3 : Hid (o = if N ≤ last ∨ 1073741824 < N then none else stO N r3 (s.st.drop (k + 1))) := Lib.hid (by rw [HOS.out, HDR.out]; exact stO_next HO3.out.symm)
              have HR3 : Hid (r3 ≤ 20000) := Lib.hid (by have h1 := (all_le HO3.out.symm).1; have := HROOM.out; omega)
              simp only [tupO]
              by_cases h1 : N ≤ last
              · have g4 : decide (N ≤ last) = true := decide_eq_true h1
                have e : o = none := HN3.out.trans (if_pos (.inl h1))
                subst e
                clear h1
                go_wp2_with fail
                go_ret2
                exact ⟨rfl, T5.out.below⟩
              · have g4 : decide (N ≤ last) = false := decide_eq_false h1
                by_cases h2 : 1073741824 < N
                · have g5 : decide (1073741824 < N) = true := decide_eq_true h2
                  have e : o = none := HN3.out.trans (if_pos (.inr h2))
                  subst e
                  clear h1 h2
                  go_wp2_with fail
                  go_ret2
                  exact ⟨rfl, T5.out.below⟩
                · have g5 : decide (1073741824 < N) = false := decide_eq_false h2
                  have HN4 : Hid (o = stO N r3 (s.st.drop (k + 1))) := Lib.hid (HN3.out.trans (if_neg (by omega)))
                  clear h1 h2
                  go_wp2_with fail
                  go_roundw
                  case rel => exact ⟨k + 1, r3, N, rfl, rfl, rfl, HK.out, HR3.out, HN4.out, T5.out⟩
                  case measure => simp [intOf]; have := HK.out; omega
          · have hki : ¬ (k : Int) < (ns : Int) := by omega
            have e : o = some room := by
              rw [HOS.out, List.drop_eq_nil_of_le (by rw [← HNS.out]; omega)]
              rfl
            subst e
            clear hlt hk
            go_wp2_with fail
            go_ret2
            exact ⟨rfl, T.out.below⟩
theorem rfRightS (s : Si) (sg : List Sg) (hg : sg.map pgOf = s.st) (no ns nu : Nat) (hno : no = s.op.length) (hns : ns = s.st.length) (hnu : nu = s.out.length) (r : Bool) (hr : r = rightS s) (O : Option Addr) (cO : Nat) (S : Option Addr) (cS : Nat) (U : Option Addr) (cU : Nat) (w : World) (hO : Row w O (rec_ s.op)) (hS : GAt w S sg) (hU : Row w U (rec_ s.out)) :
    Calls Try.prog 15 #[skV O no cO S ns cS s.last U nu cU] w (TellsB r w) := by
  obtain ⟨o, ho⟩ : ∃ o, o = roomS s := ⟨_, rfl⟩
  have hb0 := below_al (o := .cells (skC O no cO S ns cS s.last U nu cU) 25) (Below.refl w.heap.size w)
  have HRM := Lib.hid (rfRoom s sg hg no ns nu hno hns hnu o ho O cO S cS U cU _ (hO.below hb0) (hS.below hb0) (hU.below hb0))
  have L := Lib.hid (Lies.new w (skC O no cO S ns cS s.last U nu cU) 25)
  have HB := Lib.hid hb0
  unfold rightS at hr
  rw [← ho] at hr
  clear hg hno hns hnu hO hS hU ho hb0
  go_enter Try.func15, Try.ntmps15
  go_upto_region 1 with fail
  obtain ⟨tb, htb⟩ : ∃ b, b = w.heap.size := ⟨_, rfl⟩
  obtain ⟨W, hW⟩ : ∃ W, W = w.alloc (.cells (skC O no cO S ns cS s.last U nu cU) 25) := ⟨_, rfl⟩
  rw [← hW] at L HB HRM ⊢
  rw [← htb] at L ⊢
  clear hW htb
  have x0 := L.out.cell (j := 0) rfl; have x1 := L.out.cell (j := 1) rfl; have x2 := L.out.cell (j := 2) rfl; have x3 := L.out.cell (j := 3) rfl
  go_wp2_with fail
  refine HRM.out.mono ?_
  rintro e w1 ⟨rfl, hb1⟩
  have HB1 := Lib.hid (below_next HB.out hb1)
  clear hb1 x0 x1 x2 x3
  subst hr
  cases o
  all_goals
    simp only [tupO]
    go_wp2_with fail
    go_ret
    exact ⟨rfl, HB1.out⟩
end Sk
end Go.Proofs.Ytmkbdlailffjeaa
