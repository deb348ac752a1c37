/- Due, of package pane. -/
import Derived.Test.YtklpfifellghlaaPaneClone
namespace Go.Proofs.Ytklpfifellghlaa
open Go.RowKit
open Pan
set_option linter.unusedVariables false
/-- Hands back two rows of panes; what was stays. -/
def GivesPP (xs ys : List Pn) (w : World) (e : Ending) (w' : World) : Prop :=
  ∃ A c A' c', e = .returned (.tuple #[.slice A xs.length c, .slice A' ys.length c']) ∧ xs.length ≤ c ∧ c ≤ maxLen ∧ ys.length ≤ c' ∧ c' ≤ maxLen ∧ Row w' A (pc xs) ∧ Row w' A' (pc ys) ∧ Below w.heap.size w w'
namespace Pan
theorem clN_lt (x : Pn) (m : Int) : clN x m < 0 ↔ x.p.hi ≤ m := by unfold clN; split <;> omega
theorem due_cut {l : List Pn} (h : Ord l) (m : Int) : Cut l (fun x => clN x m) (due m l).length := by
  have e := due_rest m l h
  refine ⟨List.length_filter_le _ _, fun i a hi ha => ?_, fun i a hi ha => ?_⟩
  · rw [← e, List.getElem?_append_left hi] at ha
    have := (List.mem_filter.1 (List.mem_of_getElem? ha)).2
    exact (clN_lt a m).2 (by simpa using this)
  · rw [← e, List.getElem?_append_right hi] at ha
    have := (List.mem_filter.1 (List.mem_of_getElem? ha)).2
    exact fun h2 => by have := (clN_lt a m).1 h2; simp at *; omega
theorem due_take {l : List Pn} (h : Ord l) (m : Int) : l.take (due m l).length = due m l := by
  have e := due_rest m l h
  have h2 := congrArg (List.take (due m l).length) e
  rw [List.take_left] at h2
  exact h2.symm
theorem due_drop {l : List Pn} (h : Ord l) (m : Int) : l.drop (due m l).length = rest m l := by
  have e := due_rest m l h
  have h2 := congrArg (List.drop (due m l).length) e
  rw [List.drop_left] at h2
  exact h2.symm
end Pan
structure CloneOf (xs : List Pn) (v : Value) (w : World) : Prop where
  run : ∀ w', Below w.heap.size w w' → Calls Try.prog 35 #[v] w' (GivesP xs w')
theorem Row.cutP {w : World} {A : Option Addr} {xs ys : List Pn} {c p : Nat} (h : Row w (Option.map (fun x => x.add (p * 6)) A) (pc ys)) (h0 : c = p → ys.length = 0) : Row w (if c = p then A else Option.map (fun x => x.add (p * 6)) A) (pc ys) := by
  split
  · rw [List.eq_nil_of_length_eq_zero (h0 (by assumption))]; exact Row.nil
  · exact h
set_option maxHeartbeats 2000000 in
theorem paDue (xs : List Pn) (A : Option Addr) (c : Nat) (m : Int) (w : World) (hA : Row w A (pc xs)) (hl : xs.length ≤ c) (hc : c ≤ 9223372036854775807) (hr : right xs = true) :
    Calls Try.prog 17 #[.slice A xs.length c, .int .i64 m] w (GivesPP (Pan.due m xs) (Pan.rest m xs) w) := by
  obtain ⟨h20, _, ho⟩ := (right_iff xs).1 hr
  have HR := Lib.hid (paRight xs A c w hA (by omega))
  rw [hr] at HR
  have HF := Lib.hid (fun w' (hb : Below w.heap.size w w') => paFindM xs A c m _ w' (hA.below hb) (by omega) (due_cut ho m))
  have HT := Lib.hid (hA.takeP (Pan.due m xs).length)
  have HD := Lib.hid (hA.dropP (Pan.due m xs).length)
  rw [due_take ho] at HT
  rw [due_drop ho] at HD
  have hn : (Pan.due m xs).length + (Pan.rest m xs).length = xs.length := by rw [← List.length_append, due_rest m xs ho]
  obtain ⟨h, hh⟩ : ∃ h, h = Pan.hit xs (fun x => clN x m) (Pan.due m xs).length := ⟨_, rfl⟩
  rw [← hh] at HF
  obtain ⟨ys, hy⟩ : ∃ ys, ys = Pan.due m xs := ⟨_, rfl⟩
  obtain ⟨zs, hz⟩ : ∃ zs, zs = Pan.rest m xs := ⟨_, rfl⟩
  rw [← hy] at HT HD HF hn ⊢
  rw [← hz] at HD hn ⊢
  obtain ⟨n, hn1⟩ : ∃ n, n = xs.length := ⟨_, rfl⟩
  obtain ⟨p, hp⟩ : ∃ p, p = ys.length := ⟨_, rfl⟩
  rw [← hp] at HF HD hn
  rw [← hn1] at HF HR hn hl h20 ⊢
  have g1 : (0 : Int) ≤ p := by omega
  have g2 : (p : Int) ≤ c := by omega
  have g3 : (p : Int) ≤ n := by omega
  have HP := Lib.hid hp
  have HZ := Lib.hid (show zs.length = n - p by omega)
  have HC1 : CloneOf ys (.slice A p c) w := ⟨fun w' hb => by rw [hp]; exact paClone ys A c w' (HT.out.below hb) (by omega)⟩
  have HC2 : CloneOf zs (.slice (if c = p then A else Option.map (fun x => x.add (p * 6)) A) (n - p) (c - p)) w :=
    ⟨fun w' hb => by rw [← HZ.out]; exact paClone zs _ (c - p) w' ((Row.cutP (xs := xs) HD.out fun e => by have := HZ.out; omega).below hb) (by have := HZ.out; omega)⟩
  clear hh hy hz hn1 hp ho hr hA hn
  go_enter Try.func17, Try.ntmps17
  go_wp2_with fail
  refine HR.out.mono ?_
  rintro e w1 ⟨rfl, hb1⟩
  have HB1 := Lib.hid hb1
  clear hb1
  go_wp2_with fail
  refine (HF.out w1 HB1.out).mono ?_
  rintro e w2 ⟨rfl, hb2⟩
  have HB2 := Lib.hid (below_next HB1.out hb2)
  clear hb2
  go_wp2_with fail
  have S0 : Below w.heap.size w w2.drew := below_drewOf HB2.out
  go_region_held3 (fun w' => Below w.heap.size w w') (first | assumption | exact below_next (by assumption) hb5)
    (first
      | (go_at_call 35; refine (HC1.run _ (by assumption)).mono ?_; rintro e w5 ⟨A1, c1, rfl, q1, q2, q3, hb5⟩; have Q3 := Lib.hid q3; clear q3; dsimp only)
      | (go_at_call 35; refine (HC2.run _ (by assumption)).mono ?_; rintro e w5 ⟨A2, c2, rfl, r1, r2, r3, hb5⟩; have R3 := Lib.hid r3; have Q4 := Lib.hid (Q3.out.below hb5); clear r3; dsimp only))
  rename_i hs
  have HB5 := Lib.hid hs
  clear hs
  go_wp2_with fail
  all_goals
    go_ret2
    exact ⟨A1, c1, A2, c2, rfl, q1, q2, r1, r2, Q4.out, R3.out, HB5.out⟩
theorem paDue_not (xs : List Pn) (A : Option Addr) (c : Nat) (m : Int) (w : World) (hA : Row w A (pc xs)) (hl : xs.length ≤ 9223372036854775807) (hr : right xs = false) :
    Calls Try.prog 17 #[.slice A xs.length c, .int .i64 m] w (GivesPP [] [] w) := by
  have HR := Lib.hid (paRight xs A c w hA hl)
  rw [hr] at HR
  clear hr hA
  go_enter Try.func17, Try.ntmps17
  go_wp2_with fail
  refine HR.out.mono ?_
  rintro e w1 ⟨rfl, hb1⟩
  have HB1 := Lib.hid hb1
  clear hb1
  go_wp2_with fail
  go_ret2
  exact ⟨none, 0, none, 0, rfl, Nat.le_refl _, by simp [maxLen], Nat.le_refl _, by simp [maxLen], Row.nil, Row.nil, HB1.out⟩
end Go.Proofs.Ytklpfifellghlaa
