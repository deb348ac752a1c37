/- The reference's Take. -/
import Derived.Test.YtbdlmokgmgpbfaaLink
namespace Go.Proofs.Ytbdlmokgmgpbfaa
open Go.ChangeShapes Go.WideShapes Go.ChangeAt Go.RowKit
set_option linter.unusedVariables false
set_option maxRecDepth 8000
namespace Lk
open Gen (TellsB)
/-- What is taken: the receiver, whether, or why not. -/
def GivesT (o : Rc × Bool × Int) (w : World) (e : Ending) (w' : World) : Prop := e = .returned (.tuple #[rvV o.1, .bool o.2.1, .int .i64 o.2.2]) ∧ Below w.heap.size w w'
theorem lies_three (w : World) (o1 o2 : Obj) (C : Array Value) (T : TypeId) : Lies (w.heap.size + 1 + 1) C T (((w.alloc o1).alloc o2).alloc (.cells C T)) := by
  have h := Lies.new ((w.alloc o1).alloc o2) C T
  rwa [World.size_alloc, World.size_alloc] at h
theorem take_retL {w wF : World} {R : Nat} {o : Rc × Bool × Int} {act : Act} (ht : act.tmps.getD 4 undef = .pointer (some ⟨R, 0, none⟩)) (hs : act.tmps.getD 5 undef = .bool o.2.1) (hc : act.tmps.getD 6 undef = .int .i64 o.2.2) (hd : act.defers = [])
    (hL : Lies R (rvC o.1) 41 wF) (hB : Below w.heap.size w wF) : bodyPost Try.prog Try.f21 (GivesT o w) .ret act wF := by
  have c0 := hL.cell (j := 0) rfl
  have c1 := hL.cell (j := 1) rfl
  refine bodyPost_ret (v := .tuple #[rvV o.1, .bool o.2.1, .int .i64 o.2.2]) ?_ hd ⟨rfl, hB⟩
  have ht2 : act.tmps[4]?.getD undef = .pointer (some ⟨R, 0, none⟩) := by simpa using ht
  have hs2 : act.tmps[5]?.getD undef = .bool o.2.1 := by simpa using hs
  have hc2 : act.tmps[6]?.getD undef = .int .i64 o.2.2 := by simpa using hc
  simp [results, Try.results21, go_sem, ht2, hs2, hc2, c0, c1]
set_option maxRecDepth 100000 in
set_option maxHeartbeats 1000000 in
theorem rfTake (ep want pe no : Int) (body : ByteArray) (o : Rc × Bool × Int) (ho : o = takeO ⟨ep, want⟩ ⟨pe, no, body⟩) (w : World) :
    Calls Try.prog 21 #[.agg #[.int .i64 ep, .int .i64 want], .agg #[.int .i64 pe, .int .i64 no, .string body]] w (GivesT o w) := by
  have HIN := Lib.hid (fun n lo hi w => rfIn n lo hi w)
  have HO := Lib.hid ho
  clear ho
  by_cases hE : 0 ≤ ep ∧ ep ≤ 1073741824
  · have HE := Lib.hid (fun w => show Calls Try.prog 33 #[.int .i64 ep, .int .i64 0, .int .i64 1073741824] w (Lk.SaysB true w) from (decide_eq_true hE) ▸ HIN.out ep 0 1073741824 w)
    by_cases hW : 0 ≤ want ∧ want ≤ 1073741824
    · have HW := Lib.hid (fun w => show Calls Try.prog 33 #[.int .i64 want, .int .i64 0, .int .i64 1073741824] w (Lk.SaysB true w) from (decide_eq_true hW) ▸ HIN.out want 0 1073741824 w)
      by_cases hN : 0 ≤ no ∧ no ≤ 1073741824
      · have HN := Lib.hid (fun w => show Calls Try.prog 33 #[.int .i64 no, .int .i64 0, .int .i64 1073741824] w (Lk.SaysB true w) from (decide_eq_true hN) ▸ HIN.out no 0 1073741824 w)
        by_cases hS : body.size ≤ 4096
        · have gS : ¬ (4096 : Int) < (body.size : Int) := by omega
          by_cases hq : pe = ep
          · have ge : (pe == ep) = true := eq_b hq
            have hne : (pe != ep) = false := by simp [hq]
            by_cases h1 : no = want
            · have g1 : (no == want) = true := eq_b h1
              by_cases h2 : want < 1073741824
              · have ho2 : o = (⟨ep, want + 1⟩, true, 0) := HO.out.trans (by unfold takeO; rw [if_neg (fun h => h ⟨hE, hW, hN, hS⟩), if_neg (not_not_intro hq), if_pos ⟨h1, h2⟩])
                subst ho2
                clear HO
                go_enter Try.func21, Try.ntmps21
                have hw : IntKind.i64.wrap (want + 1) = want + 1 := wrap64L (by omega) (by omega)
                clear hq h1
                go_wp2_with fail
                refine (HE.out _).mono ?_
                rintro e w2 ⟨rfl, rfl⟩
                go_wp2_with fail
                refine (HW.out _).mono ?_
                rintro e w2 ⟨rfl, rfl⟩
                go_wp2_with fail
                refine (HN.out _).mono ?_
                rintro e w2 ⟨rfl, rfl⟩
                go_wp2_with fail
                exact take_retL rfl rfl rfl rfl (lies_three _ _ _ _ _) (below_al (below_al (below_al (Below.refl _ _))))
              · have g2 : ¬ want < 1073741824 := h2
                have ho2 : o = (⟨ep, want⟩, false, 0) := HO.out.trans (by unfold takeO; rw [if_neg (fun h => h ⟨hE, hW, hN, hS⟩), if_neg (not_not_intro hq), if_neg (fun h => h2 h.2)])
                subst ho2
                clear HO
                go_enter Try.func21, Try.ntmps21
                clear hq h1
                go_wp2_with fail
                refine (HE.out _).mono ?_
                rintro e w2 ⟨rfl, rfl⟩
                go_wp2_with fail
                refine (HW.out _).mono ?_
                rintro e w2 ⟨rfl, rfl⟩
                go_wp2_with fail
                refine (HN.out _).mono ?_
                rintro e w2 ⟨rfl, rfl⟩
                go_wp2_with fail
                exact take_retL rfl rfl rfl rfl (lies_three _ _ _ _ _) (below_al (below_al (below_al (Below.refl _ _))))
            · have g1 : (no == want) = false := ne_b h1
              have ho2 : o = (⟨ep, want⟩, false, 0) := HO.out.trans (by unfold takeO; rw [if_neg (fun h => h ⟨hE, hW, hN, hS⟩), if_neg (not_not_intro hq), if_neg (fun h => h1 h.1)])
              subst ho2
              clear HO
              go_enter Try.func21, Try.ntmps21
              clear hq
              go_wp2_with fail
              refine (HE.out _).mono ?_
              rintro e w2 ⟨rfl, rfl⟩
              go_wp2_with fail
              refine (HW.out _).mono ?_
              rintro e w2 ⟨rfl, rfl⟩
              go_wp2_with fail
              refine (HN.out _).mono ?_
              rintro e w2 ⟨rfl, rfl⟩
              go_wp2_with fail
              exact take_retL rfl rfl rfl rfl (lies_three _ _ _ _ _) (below_al (below_al (below_al (Below.refl _ _))))
          · have ge : (pe == ep) = false := ne_b hq
            have hne : (pe != ep) = true := by simp [hq]
            have ho2 : o = (zR, false, 150) := HO.out.trans (by unfold takeO; rw [if_neg (fun h => h ⟨hE, hW, hN, hS⟩), if_pos hq])
            subst ho2
            clear HO
            go_enter Try.func21, Try.ntmps21
            go_wp2_with fail
            refine (HE.out _).mono ?_
            rintro e w2 ⟨rfl, rfl⟩
            go_wp2_with fail
            refine (HW.out _).mono ?_
            rintro e w2 ⟨rfl, rfl⟩
            go_wp2_with fail
            refine (HN.out _).mono ?_
            rintro e w2 ⟨rfl, rfl⟩
            go_wp2_with fail
            exact take_retL rfl rfl rfl rfl (lies_three _ _ _ _ _) (below_al (below_al (below_al (Below.refl _ _))))
        · have gS : (4096 : Int) < (body.size : Int) := by omega
          have ho2 : o = (zR, false, 1) := HO.out.trans (by unfold takeO; rw [if_pos (fun h => hS h.2.2.2)])
          subst ho2
          clear HO
          go_enter Try.func21, Try.ntmps21
          go_wp2_with fail
          refine (HE.out _).mono ?_
          rintro e w2 ⟨rfl, rfl⟩
          go_wp2_with fail
          refine (HW.out _).mono ?_
          rintro e w2 ⟨rfl, rfl⟩
          go_wp2_with fail
          refine (HN.out _).mono ?_
          rintro e w2 ⟨rfl, rfl⟩
          go_wp2_with fail
          exact take_retL rfl rfl rfl rfl (lies_three _ _ _ _ _) (below_al (below_al (below_al (Below.refl _ _))))
      · have HN := Lib.hid (fun w => show Calls Try.prog 33 #[.int .i64 no, .int .i64 0, .int .i64 1073741824] w (Lk.SaysB false w) from (decide_eq_false hN) ▸ HIN.out no 0 1073741824 w)
        have ho2 : o = (zR, false, 1) := HO.out.trans (by unfold takeO; rw [if_pos (fun h => hN h.2.2.1)])
        subst ho2
        clear HO
        go_enter Try.func21, Try.ntmps21
        go_wp2_with fail
        refine (HE.out _).mono ?_
        rintro e w2 ⟨rfl, rfl⟩
        go_wp2_with fail
        refine (HW.out _).mono ?_
        rintro e w2 ⟨rfl, rfl⟩
        go_wp2_with fail
        refine (HN.out _).mono ?_
        rintro e w2 ⟨rfl, rfl⟩
        go_wp2_with fail
        exact take_retL rfl rfl rfl rfl (lies_three _ _ _ _ _) (below_al (below_al (below_al (Below.refl _ _))))
    · have HW := Lib.hid (fun w => show Calls Try.prog 33 #[.int .i64 want, .int .i64 0, .int .i64 1073741824] w (Lk.SaysB false w) from (decide_eq_false hW) ▸ HIN.out want 0 1073741824 w)
      have ho2 : o = (zR, false, 1) := HO.out.trans (by unfold takeO; rw [if_pos (fun h => hW h.2.1)])
      subst ho2
      clear HO
      go_enter Try.func21, Try.ntmps21
      go_wp2_with fail
      refine (HE.out _).mono ?_
      rintro e w2 ⟨rfl, rfl⟩
      go_wp2_with fail
      refine (HW.out _).mono ?_
      rintro e w2 ⟨rfl, rfl⟩
      go_wp2_with fail
      exact take_retL rfl rfl rfl rfl (lies_three _ _ _ _ _) (below_al (below_al (below_al (Below.refl _ _))))
  · have HE := Lib.hid (fun w => show Calls Try.prog 33 #[.int .i64 ep, .int .i64 0, .int .i64 1073741824] w (Lk.SaysB false w) from (decide_eq_false hE) ▸ HIN.out ep 0 1073741824 w)
    have ho2 : o = (zR, false, 1) := HO.out.trans (by unfold takeO; rw [if_pos (fun h => hE h.1)])
    subst ho2
    clear HO
    go_enter Try.func21, Try.ntmps21
    go_wp2_with fail
    refine (HE.out _).mono ?_
    rintro e w2 ⟨rfl, rfl⟩
    go_wp2_with fail
    exact take_retL rfl rfl rfl rfl (lies_three _ _ _ _ _) (below_al (below_al (below_al (Below.refl _ _))))
end Lk
end Go.Proofs.Ytbdlmokgmgpbfaa
