/- The walks of the laws on what is put and got: each returns true, whatever the input. -/
import Derived.Test.YthgafhinlchghaaItemCut
import Derived.Test.YthgafhinlchghaaLawsItemA
namespace Go.Proofs.Ythgafhinlchghaa
open Go.ChangeShapes Go.WideShapes Go.ChangeAt Go.RowKit
open Itm Vlq
set_option linter.unusedVariables false
def PutS (S : ByteArray) (w : World) (e : Ending) (w' : World) : Prop := e = .returned (.tuple #[.string S, .int .i64 0]) ∧ Below w.heap.size w w'
theorem part_len {a : It} (h : right a = true) (hf : Fits a) : 1 ≤ (itB a).length ∧ (itB a).length ≤ 100 := by
  have h0 := enc_pos a.k.toNat
  rcases right_parts h with ⟨k, p⟩ | ⟨k, p⟩ | k | ⟨k, p⟩ | ⟨k, p⟩
  · obtain ⟨_, _, z, _⟩ := part_ev h k hf
    have hl : (evB a.ek a.ea a.ev).length ≤ 46 := by
      obtain ⟨p1, p2, p3⟩ := ev_parts p
      have e1 := txt_len p1
      have e2 := enc_len a.ea.toNat (by omega)
      have e3 := enc_len (zz a.ev) (zz_lt hf.ev0 hf.ev1)
      unfold evB
      rw [List.length_append, List.length_append]; omega
    have e1 := enc_len a.k.toNat (by omega)
    unfold itB
    rw [List.length_append, if_pos k]
    omega
  · have e1 := enc_len a.k.toNat (by omega)
    have e2 := enc_len a.m.toNat (by omega)
    unfold itB
    rw [List.length_append, if_neg (by omega), if_pos k]
    omega
  · have e1 := enc_len a.k.toNat (by omega)
    unfold itB
    rw [List.length_append, if_neg (by omega), if_neg (by omega), if_neg (by omega), if_neg (by omega)]
    simp only [List.length_nil]
    omega
  · have e1 := enc_len a.k.toNat (by omega)
    have e2 := enc_len a.n.toNat (by omega)
    unfold itB
    rw [List.length_append, if_neg (by omega), if_neg (by omega), if_pos k]
    omega
  · have hl : (resB a.rk a.lo a.hi a.rn a.rv).length ≤ 66 := by
      obtain ⟨p1, p2, p3, p4, p5, p6⟩ := res_parts p
      have e1 := txt_len p1
      have e2 := enc_len a.lo.toNat (by omega)
      have e3 := enc_len a.hi.toNat (by omega)
      have e4 := enc_len a.rn.toNat (by omega)
      have e5 := enc_len (zz a.rv) (zz_lt hf.rv0 hf.rv1)
      unfold resB
      rw [List.length_append, List.length_append, List.length_append, List.length_append]; omega
    have e1 := enc_len a.k.toNat (by omega)
    unfold itB
    rw [List.length_append, if_neg (by omega), if_neg (by omega), if_neg (by omega), if_pos k]
    omega
theorem put_s {a : It} (h : right a = true) (hf : Fits a) : ∃ S : ByteArray, sl S = itB a ∧ 1 ≤ S.size ∧ S.size ≤ 100 ∧ S.toList ≠ [] ∧ ∀ w, Calls Try.prog 14 #[itV a] w (PutS S w) := by
  obtain ⟨l1, l2⟩ := part_len h hf
  refine ⟨⟨(itB a).toArray⟩, rfl, by rw [Lib.size_eq]; exact l1, by rw [Lib.size_eq]; exact l2, ?_, fun w => itPut_ok a h hf w⟩
  rw [ByteArray.toList_eq]
  intro hb
  have hb' : itB a = [] := by simpa using hb
  rw [hb'] at l1
  simp at l1
theorem back_not (a : It) (h : right a = false) (w : World) : Calls Try.prog 6 #[itV a] w (Yes w) := by
  have HA := Lib.hid (fun w => itAlive w)
  have HP := Lib.hid (fun w => itPut_not a h w)
  have HR := Lib.hid (fun w => itRight a w)
  have HN := Lib.hid (box_new a w 29)
  have hr := h
  clear h
  go_enter Try.func6, Try.ntmps6
  go_wp2_with fail
  refine (HP.out _).mono ?_
  rintro e w2 ⟨rfl, hb2⟩
  have H2 := Lib.hid (HN.out.keep hb2)
  go_wp2_with fail
  refine (HA.out _).mono ?_
  rintro e w3 ⟨rfl, hb3⟩
  obtain ⟨c0, c1, c2, c3, c4, c5, c6, c7, c8, c9, c10⟩ := (H2.out.keep hb3).cells
  go_wp2_with fail
  refine (HR.out _).mono ?_
  rintro e w4 ⟨rfl, hb4⟩
  go_wp2_with fail
  go_ret
  exact ⟨rfl, below_next (below_next (below_next (below_al (Below.refl _ _)) hb2) hb3) hb4⟩
theorem back_ok (a : It) (h : right a = true) (hf : Fits a) (w : World) : Calls Try.prog 6 #[itV a] w (Yes w) := by
  obtain ⟨S, hS, z1, z2, hne, hP⟩ := put_s h hf
  have hG := fun w => itGet S (by omega) w
  rw [getF_back h hf hS] at hG
  have HP := Lib.hid hP; have HG := Lib.hid hG
  have hE : ∀ w, (binOp .eql 29 (.agg #[.int .i64 a.k, .string a.ek, .int .i64 a.ea, .int .i64 a.ev, .int .i64 a.m, .int .i64 a.n, .int .i64 a.lo, .int .i64 a.hi, .string a.rk, .int .i64 a.rn, .int .i64 a.rv]) (.agg #[.int .i64 a.k, .string a.ek, .int .i64 a.ea, .int .i64 a.ev, .int .i64 a.m, .int .i64 a.n, .int .i64 a.lo, .int .i64 a.hi, .string a.rk, .int .i64 a.rn, .int .i64 a.rv])).run Try.prog w = .ok (.bool true) w := fun w => (run_eqIt a a w).trans (by rw [eqI_self])
  have HN := Lib.hid (box_new a w 29)
  have HX := Lib.hid hne
  clear h hf hS hP hG z1 z2 hne
  go_enter Try.func6, Try.ntmps6
  go_wp2_with fail
  refine (HP.out _).mono ?_
  rintro e w2 ⟨rfl, hb2⟩
  have H2 := Lib.hid (HN.out.keep hb2)
  go_wp2_with fail
  refine (HG.out _).mono ?_
  rintro e w3 ⟨rfl, hb3⟩
  obtain ⟨c0, c1, c2, c3, c4, c5, c6, c7, c8, c9, c10⟩ := (H2.out.keep (below_next hb3 (below_al (o := .cells (itC a) 29) (Below.refl _ _)))).cells
  go_wp2_with fail
  go_ret
  exact ⟨by have hx := HX.out; simp [hx], below_next (below_next (below_al (Below.refl _ _)) hb2) (below_al hb3)⟩
theorem lawItemBack : Lift.Owes 6 [29] := by
  intro H enc W base args ds ps hval hA _ _
  obtain ⟨v0, d0, rfl, rfl, h0⟩ := trodAll_one hA
  obtain ⟨a, rfl, hf⟩ := openItem (hval 0 _ v0 rfl rfl) h0
  by_cases hr : right a = true
  · exact back_ok a hr hf W
  · exact back_not a (by simpa using hr) W
theorem str_bound' {H : Type} {s : ByteArray} (hw : (DataW.weightsEach (H := H) Try.prog [9] [.lit (.string s.data.toList)]).all (· ≤ reachBytes) = true) : s.size ≤ 140737488355328 := by
  have h := sized_string hw (j := 0) rfl rfl
  rw [Lib.size_eq]
  unfold reachBytes at h
  omega
theorem once_bad (s : ByteArray) (hs : s.size ≤ 140737488355328) (c : Nat) (hc : c ≠ 0) (hF : getF s = (bare 0, c)) (w : World) : Calls Try.prog 7 #[.string s] w (Yes w) := by
  have HA := Lib.hid (fun w => itAlive w)
  have hG := fun w => itGet s (by omega) w
  rw [hF] at hG
  have HG := Lib.hid hG
  have hE : ∀ w, (binOp .eql 29 (.agg #[.int .i64 0, .string no, .int .i64 0, .int .i64 0, .int .i64 0, .int .i64 0, .int .i64 0, .int .i64 0, .string no, .int .i64 0, .int .i64 0]) (.agg #[.int .i64 0, .string no, .int .i64 0, .int .i64 0, .int .i64 0, .int .i64 0, .int .i64 0, .int .i64 0, .string no, .int .i64 0, .int .i64 0])).run Try.prog w = .ok (.bool true) w := fun w => (run_eqIt (bare 0) (bare 0) w).trans (by rw [eqI_self])
  have e0 := nb (show (c : Int) ≠ 0 by omega)
  clear hF hG hs hc
  go_enter Try.func7, Try.ntmps7
  go_wp2_with fail
  refine (HG.out _).mono ?_
  rintro e w2 ⟨rfl, hb2⟩
  have L2 := Lib.hid (Lies.new w2 (itC (bare 0)) 29)
  have B2 := Lib.hid (below_al (o := .cells (itC (bare 0)) 29) hb2)
  go_wp2_with fail
  refine (HA.out _).mono ?_
  rintro e w4 ⟨rfl, hb4⟩
  have L4 := Lib.hid (show Lies w2.heap.size (itC (bare 0)) 29 w4 from (hb4.block _ (lt_of_block L2.out)).trans L2.out)
  have c0 := L4.out.cell (j := 0) rfl; have c1 := L4.out.cell (j := 1) rfl; have c2 := L4.out.cell (j := 2) rfl; have c3 := L4.out.cell (j := 3) rfl; have c4 := L4.out.cell (j := 4) rfl; have c5 := L4.out.cell (j := 5) rfl; have c6 := L4.out.cell (j := 6) rfl; have c7 := L4.out.cell (j := 7) rfl; have c8 := L4.out.cell (j := 8) rfl; have c9 := L4.out.cell (j := 9) rfl; have c10 := L4.out.cell (j := 10) rfl
  go_wp2_with fail
  go_ret
  exact ⟨by simp, B2.out.trans (hb4.mono B2.out.size)⟩
theorem once_ok (s : ByteArray) (hs : s.size ≤ 140737488355328) (a : It) (hF : getF s = (a, 0)) (w : World) : Calls Try.prog 7 #[.string s] w (Yes w) := by
  obtain ⟨h1, h2, h3⟩ := getF_once hF
  obtain ⟨S, hS, z1, z2, hne, hP⟩ := put_s h1 h2
  obtain rfl : S = s := bytes_eq (hS.trans h3.symm)
  have HA := Lib.hid (fun w => itAlive w)
  have HR := Lib.hid (fun w => itRight a w)
  have hG := fun w => itGet S (by omega) w
  rw [hF] at hG
  have HG := Lib.hid hG; have HP := Lib.hid hP
  have hr := h1
  clear hF hG hs hP h1 h2 h3 hS z1 z2 hne
  go_enter Try.func7, Try.ntmps7
  go_wp2_with fail
  refine (HG.out _).mono ?_
  rintro e w2 ⟨rfl, hb2⟩
  have L2 := Lib.hid (Lies.new w2 (itC a) 29)
  have B2 := Lib.hid (below_al (o := .cells (itC a) 29) hb2)
  go_wp2_with fail
  refine (HP.out _).mono ?_
  rintro e w3 ⟨rfl, hb3⟩
  have L3 := Lib.hid (show Lies w2.heap.size (itC a) 29 w3 from (hb3.block _ (lt_of_block L2.out)).trans L2.out)
  have B3 := Lib.hid (B2.out.trans (hb3.mono B2.out.size))
  go_wp2_with fail
  refine (HA.out _).mono ?_
  rintro e w4 ⟨rfl, hb4⟩
  have L4 := Lib.hid (show Lies w2.heap.size (itC a) 29 w4 from (hb4.block _ (lt_of_block L3.out)).trans L3.out)
  have B4 := Lib.hid (B3.out.trans (hb4.mono B3.out.size))
  have c0 := L4.out.cell (j := 0) rfl; have c1 := L4.out.cell (j := 1) rfl; have c2 := L4.out.cell (j := 2) rfl; have c3 := L4.out.cell (j := 3) rfl; have c4 := L4.out.cell (j := 4) rfl; have c5 := L4.out.cell (j := 5) rfl; have c6 := L4.out.cell (j := 6) rfl; have c7 := L4.out.cell (j := 7) rfl; have c8 := L4.out.cell (j := 8) rfl; have c9 := L4.out.cell (j := 9) rfl; have c10 := L4.out.cell (j := 10) rfl
  go_wp2_with fail
  refine (HR.out _).mono ?_
  rintro e w5 ⟨rfl, hb5⟩
  go_wp2_with fail
  go_ret
  exact ⟨by simp, B4.out.trans (hb5.mono B4.out.size)⟩
theorem lawItemOnce : Lift.Owes 7 [9] := by
  intro H enc W base args ds ps hval hA _ hw
  obtain ⟨v0, d0, rfl, rfl, h0⟩ := trodAll_one hA
  obtain ⟨s, rfl, rfl, rfl, w0⟩ := ChangeMaps.open_string Try.underlying9 (hval 0 _ v0 rfl rfl) h0
  have hs := str_bound' hw
  obtain ⟨⟨a, c⟩, hF⟩ : ∃ K, getF s = K := ⟨_, rfl⟩
  by_cases hc : c = 0
  · subst hc
    exact once_ok s hs a hF W
  · have hb := getF_bad (s := s) (by rw [hF]; exact hc)
    rw [hF] at hb
    simp only at hb
    subst hb
    exact once_bad s hs c hc hF W
end Go.Proofs.Ythgafhinlchghaa
