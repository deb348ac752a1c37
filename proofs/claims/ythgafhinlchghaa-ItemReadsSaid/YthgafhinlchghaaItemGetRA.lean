/- The reference's Get, kind by kind (3, 2, 4). -/
import Derived.Test.YthgafhinlchghaaItemGetRHead
namespace Go.Proofs.Ythgafhinlchghaa
open Go.RowKit
open Itm Vlq
set_option linter.unusedVariables false
set_option maxRecDepth 100000 in
set_option maxHeartbeats 2000000 in
theorem rfGet_3 (s : ByteArray) (hs : s.size ≤ 140737488355328) (k1 : Nat) (hK : numS s (0, 0) = (3, k1, 0)) (a : It) (i c : Nat)  (ha : a = bare 3) (hi3 : i = k1) (hc3 : c = 0) (w : World) : Calls Try.prog 17 #[.string s] w (GotI (fin s a i c).1 (fin s a i c).2 w) := by
  have W1 := Lib.hid (show WhereR s (0, 0) (w.heap.size + 1) ((w.alloc (.cells (itC (bare 0)) 29)).alloc (.cells #[.string s, .int .i64 0, .int .i64 0] 54)) from ⟨Nat.zero_le _, rd_new w s _ _⟩)
  have L1 := Lib.hid ((Lies.new w (itC (bare 0)) 29).al (o := .cells #[.string s, .int .i64 0, .int .i64 0] 54))
  have B1 := Lib.hid (below_al (o := .cells #[.string s, .int .i64 0, .int .i64 0] 54) (below_al (o := .cells (itC (bare 0)) 29) (Below.refl w.heap.size w)))
  have HK := Lib.hid hK
  clear hK 
  go_enter Try.func17, Try.ntmps17
  go_wp2_with fail
  refine (rgNumber hs W1.out).mono ?_
  rw [HK.out]
  rintro e w2 ⟨rfl, W2, B2⟩
  have r1 := W2.rd.c1; have r2 := W2.rd.c2; have f2 := W2.rd.free 2
  have hIg : w2.heap.size ≠ w.heap.size + 1 := by have := W2.rd.lt; omega
  have hRg : w.heap.size ≠ w.heap.size + 1 := by omega
  have L2 := Lib.hid (L1.out.but hRg B2)
  have hRI : w.heap.size ≠ w2.heap.size := by have := lt_of_block L2.out; omega
  have W3 := Lib.hid (W2.al (o := .cells (itC (bare 3)) 29))
  have L3 := Lib.hid (L2.out.al (o := .cells (itC (bare 3)) 29))
  have J3 := Lib.hid (Lies.new w2 (itC (bare 3)) 29)
  have B3 := Lib.hid (below_al (o := .cells (itC (bare 3)) 29) (B2.below B1.out (by omega) (by simp; omega)))
  have hz3 : w.heap.size ≤ (w2.alloc (.cells (itC (bare 3)) 29)).heap.size := B3.out.size
  go_upto_block 0 with fail
  go_cut [] from 7 (fun wc => Mid s a i c w w2.heap.size wc)
  case first =>
    subst ha
    subst hi3
    subst hc3
    go_wp2_with fail
    go_meet
    case rel => exact ⟨J3.out, W3.out, L3.out, B3.out⟩
  case rest =>
    clear ha hi3 hc3
    have M := Lib.hid hcut
    have q1 := hcut.2.1.rd.c1; have q2 := hcut.2.1.rd.c2; have g2 := hcut.2.1.rd.free 2
    by_cases hc : c = 0
    case neg =>
      have HF := Lib.hid (show fin s a i c = (bare 0, c) from if_pos hc)
      have e1 := ne_b (show (c : Int) ≠ 0 by omega)
      have e2 := nb (show (c : Int) ≠ 0 by omega)
      clear hc hcut
      go_wp2_with fail
      have hth : World.there (World.drew wc) w.heap.size 0 (itC (bare 0)).size := M.out.2.2.1.there
      have hLF : Lies w.heap.size (itC (bare 0)) 29 (World.drew wc) := M.out.2.2.1
      have hBF : Below w.heap.size w (World.drew wc) := below_drewOf M.out.2.2.2
      have q2 : (World.drew wc).cell? ⟨w.heap.size + 1, 2, none⟩ = some (.int .i64 c) := M.out.2.1.rd.c2
      refine wp_region_noPanic ?_
      refine wp_region_held_drew (S := fun w' => w'.cell? ⟨w.heap.size + 1, 2, none⟩ = some (.int .i64 c)) (by kernel_rfl) q2 (fun hHeld => ?_)
      refine @wpAnyH_take _ _ _ _ _ 0 ({ dst := some 114, op := Op.build 29 #[], type := 29, pos := "ref.go:131", after := #[], guard := none }) (itV (bare 0)) _ _ _ _ rfl (by kernel_rfl) (by kernel_rfl) (by kernel_rfl) (fun _ _ _ h => h) (Or.inl ⟨by rfl, ?y0⟩) (by assumption) ?_
      case y0 => intro w hSw; go_simp
      simp only [Act.put, List.setIfInBounds_toArray, List.set_cons_zero, List.set_cons_succ]
      refine @wpAnyH_take _ _ _ _ _ 1 ({ dst := some 115, op := Op.move (Operand.tmp 4), type := 52, pos := "ref.go:131", after := #[{ on := 5, ground := Ground.gcOnly Departure.lateStores }], guard := none }) (.pointer (some ⟨w.heap.size + 1, 0, none⟩)) _ _ _ _ rfl (by kernel_rfl) (by kernel_rfl) (by kernel_rfl) (fun _ _ _ h => h) (Or.inl ⟨by rfl, ?y1⟩) (by assumption) ?_
      case y1 => intro w hSw; go_simp
      simp only [Act.put, List.setIfInBounds_toArray, List.set_cons_zero, List.set_cons_succ]
      refine @wpAnyH_take _ _ _ _ _ 2 ({ dst := some 116, op := Op.nilCheck (Operand.tmp 115), type := 0, pos := "ref.go:131", after := #[{ on := 1, ground := Ground.data }, { on := 5, ground := Ground.gcOnly Departure.lateStores }], guard := none }) (.pointer (some ⟨w.heap.size + 1, 0, none⟩)) _ _ _ _ rfl (by kernel_rfl) (by kernel_rfl) (by kernel_rfl) (fun _ _ _ h => h) (Or.inl ⟨by rfl, ?y2⟩) (by assumption) ?_
      case y2 => intro w hSw; go_simp
      simp only [Act.put, List.setIfInBounds_toArray, List.set_cons_zero, List.set_cons_succ]
      refine @wpAnyH_take _ _ _ _ _ 3 ({ dst := some 117, op := Op.fieldAddr 54 (Operand.tmp 116) 2, type := 0, pos := "ref.go:131", after := #[{ on := 2, ground := Ground.data }, { on := 5, ground := Ground.gcOnly Departure.lateStores }], guard := none }) (.pointer (some ⟨w.heap.size + 1, 2, none⟩)) _ _ _ _ rfl (by kernel_rfl) (by kernel_rfl) (by kernel_rfl) (fun _ _ _ h => h) (Or.inl ⟨by rfl, ?y3⟩) (by assumption) ?_
      case y3 => intro w hSw; go_simp
      simp only [Act.put, List.setIfInBounds_toArray, List.set_cons_zero, List.set_cons_succ]
      refine @wpAnyH_take _ _ _ _ _ 4 ({ dst := some 118, op := Op.load 34 (Operand.tmp 117), type := 34, pos := "ref.go:131", after := #[{ on := 3, ground := Ground.data }, { on := 5, ground := Ground.gcOnly Departure.lateStores }], guard := none }) (.int .i64 c) _ _ _ _ rfl (by kernel_rfl) (by kernel_rfl) (by kernel_rfl) (fun _ _ _ h => h) (Or.inl ⟨by rfl, ?y4⟩) (by assumption) ?_
      case y4 => intro w hSw; go_simp
      simp only [Act.put, List.setIfInBounds_toArray, List.set_cons_zero, List.set_cons_succ]
      refine wpAnyH_ready (rs := [5]) (by kernel_rfl) (by simp) ?_
      refine AllReadyH.cons (o := { dst := none, op := Op.store 29 (Operand.tmp 2) (Operand.tmp 114), type := 0, pos := "ref.go:131", after := #[{ on := 0, ground := Ground.data }, { on := 0, ground := Ground.phase }, { on := 1, ground := Ground.textOnly Departure.lateStores }, { on := 2, ground := Ground.textOnly Departure.lateStores }, { on := 3, ground := Ground.textOnly Departure.lateStores }, { on := 4, ground := Ground.textOnly Departure.lateStores }], guard := none }) ?h1 ?h2 AllReadyH.nil
      case h1 => rfl
      case h2 =>
        intro K hK
        rw [if_pos (by rfl)]
        refine @wp_store_mid _ _ _ _ _ _ 29 (.tmp 2) (.tmp 114) rfl w.heap.size 0 (itC (bare 0)) rfl rfl hth info_it one_bare ?_
        refine hK.out _ _ ?_ (fun hHeld2 => ?_)
        · exact (World.cell?_setCells_out _ _ _ _ _ (by intro h; simp at h)).trans q2
        refine @wpAnyH_take _ _ _ _ _ 6 ({ dst := some 3, op := Op.assign (Operand.tmp 118), type := 34, pos := "ref.go:131", after := #[{ on := 4, ground := Ground.data }, { on := 5, ground := Ground.chain }, { on := 0, ground := Ground.phase }, { on := 1, ground := Ground.phase }, { on := 2, ground := Ground.phase }, { on := 3, ground := Ground.phase }, { on := 4, ground := Ground.phase }, { on := 5, ground := Ground.phase }], guard := none }) (.int .i64 c) _ _ _ _ rfl (by kernel_rfl) (by kernel_rfl) (by kernel_rfl) (fun _ _ _ h => h) (Or.inl ⟨by rfl, ?y6⟩) (by assumption) ?_
        case y6 => intro w hSw; go_simp
        simp only [Act.put, List.setIfInBounds_toArray, List.set_cons_zero, List.set_cons_succ]
        refine @wpAnyH_done _ _ _ _ _ _ _ _ (by kernel_rfl) ?_ _
        refine NoPanic.normal ?_
        go_wp2_with fail
        rw [HF.out]
        exact get_retR (R := w.heap.size) rfl rfl rfl (hLF.putIt (bare 0)) (below_setCells (Nat.le_refl _) _ _ _ hBF)
    subst hc
    by_cases hi : i < s.size
    case pos =>
      have HF := Lib.hid (show fin s a i 0 = (bare 0, 21) from by unfold fin; rw [if_neg (by omega), if_pos hi])
      have hi' : (i : Int) < s.size := by omega
      have M2 := Lib.hid (hcut.bad hIg 21)
      clear hi hcut
      go_wp2_with fail
      have hth : World.there (World.drew (wc.setCell ⟨w.heap.size + 1, 2, none⟩ (.int .i64 21))) w.heap.size 0 (itC (bare 0)).size := M2.out.2.2.1.there
      have hLF : Lies w.heap.size (itC (bare 0)) 29 (World.drew (wc.setCell ⟨w.heap.size + 1, 2, none⟩ (.int .i64 21))) := M2.out.2.2.1
      have hBF : Below w.heap.size w (World.drew (wc.setCell ⟨w.heap.size + 1, 2, none⟩ (.int .i64 21))) := below_drewOf M2.out.2.2.2
      have q2 : (World.drew (wc.setCell ⟨w.heap.size + 1, 2, none⟩ (.int .i64 21))).cell? ⟨w.heap.size + 1, 2, none⟩ = some (.int .i64 21) := M2.out.2.1.rd.c2
      refine wp_region_noPanic ?_
      refine wp_region_held_drew (S := fun w' => w'.cell? ⟨w.heap.size + 1, 2, none⟩ = some (.int .i64 21)) (by kernel_rfl) q2 (fun hHeld => ?_)
      refine @wpAnyH_take _ _ _ _ _ 0 ({ dst := some 114, op := Op.build 29 #[], type := 29, pos := "ref.go:131", after := #[], guard := none }) (itV (bare 0)) _ _ _ _ rfl (by kernel_rfl) (by kernel_rfl) (by kernel_rfl) (fun _ _ _ h => h) (Or.inl ⟨by rfl, ?y0⟩) (by assumption) ?_
      case y0 => intro w hSw; go_simp
      simp only [Act.put, List.setIfInBounds_toArray, List.set_cons_zero, List.set_cons_succ]
      refine @wpAnyH_take _ _ _ _ _ 1 ({ dst := some 115, op := Op.move (Operand.tmp 4), type := 52, pos := "ref.go:131", after := #[{ on := 5, ground := Ground.gcOnly Departure.lateStores }], guard := none }) (.pointer (some ⟨w.heap.size + 1, 0, none⟩)) _ _ _ _ rfl (by kernel_rfl) (by kernel_rfl) (by kernel_rfl) (fun _ _ _ h => h) (Or.inl ⟨by rfl, ?y1⟩) (by assumption) ?_
      case y1 => intro w hSw; go_simp
      simp only [Act.put, List.setIfInBounds_toArray, List.set_cons_zero, List.set_cons_succ]
      refine @wpAnyH_take _ _ _ _ _ 2 ({ dst := some 116, op := Op.nilCheck (Operand.tmp 115), type := 0, pos := "ref.go:131", after := #[{ on := 1, ground := Ground.data }, { on := 5, ground := Ground.gcOnly Departure.lateStores }], guard := none }) (.pointer (some ⟨w.heap.size + 1, 0, none⟩)) _ _ _ _ rfl (by kernel_rfl) (by kernel_rfl) (by kernel_rfl) (fun _ _ _ h => h) (Or.inl ⟨by rfl, ?y2⟩) (by assumption) ?_
      case y2 => intro w hSw; go_simp
      simp only [Act.put, List.setIfInBounds_toArray, List.set_cons_zero, List.set_cons_succ]
      refine @wpAnyH_take _ _ _ _ _ 3 ({ dst := some 117, op := Op.fieldAddr 54 (Operand.tmp 116) 2, type := 0, pos := "ref.go:131", after := #[{ on := 2, ground := Ground.data }, { on := 5, ground := Ground.gcOnly Departure.lateStores }], guard := none }) (.pointer (some ⟨w.heap.size + 1, 2, none⟩)) _ _ _ _ rfl (by kernel_rfl) (by kernel_rfl) (by kernel_rfl) (fun _ _ _ h => h) (Or.inl ⟨by rfl, ?y3⟩) (by assumption) ?_
      case y3 => intro w hSw; go_simp
      simp only [Act.put, List.setIfInBounds_toArray, List.set_cons_zero, List.set_cons_succ]
      refine @wpAnyH_take _ _ _ _ _ 4 ({ dst := some 118, op := Op.load 34 (Operand.tmp 117), type := 34, pos := "ref.go:131", after := #[{ on := 3, ground := Ground.data }, { on := 5, ground := Ground.gcOnly Departure.lateStores }], guard := none }) (.int .i64 21) _ _ _ _ rfl (by kernel_rfl) (by kernel_rfl) (by kernel_rfl) (fun _ _ _ h => h) (Or.inl ⟨by rfl, ?y4⟩) (by assumption) ?_
      case y4 => intro w hSw; go_simp
      simp only [Act.put, List.setIfInBounds_toArray, List.set_cons_zero, List.set_cons_succ]
      refine wpAnyH_ready (rs := [5]) (by kernel_rfl) (by simp) ?_
      refine AllReadyH.cons (o := { dst := none, op := Op.store 29 (Operand.tmp 2) (Operand.tmp 114), type := 0, pos := "ref.go:131", after := #[{ on := 0, ground := Ground.data }, { on := 0, ground := Ground.phase }, { on := 1, ground := Ground.textOnly Departure.lateStores }, { on := 2, ground := Ground.textOnly Departure.lateStores }, { on := 3, ground := Ground.textOnly Departure.lateStores }, { on := 4, ground := Ground.textOnly Departure.lateStores }], guard := none }) ?h1 ?h2 AllReadyH.nil
      case h1 => rfl
      case h2 =>
        intro K hK
        rw [if_pos (by rfl)]
        refine @wp_store_mid _ _ _ _ _ _ 29 (.tmp 2) (.tmp 114) rfl w.heap.size 0 (itC (bare 0)) rfl rfl hth info_it one_bare ?_
        refine hK.out _ _ ?_ (fun hHeld2 => ?_)
        · exact (World.cell?_setCells_out _ _ _ _ _ (by intro h; simp at h)).trans q2
        refine @wpAnyH_take _ _ _ _ _ 6 ({ dst := some 3, op := Op.assign (Operand.tmp 118), type := 34, pos := "ref.go:131", after := #[{ on := 4, ground := Ground.data }, { on := 5, ground := Ground.chain }, { on := 0, ground := Ground.phase }, { on := 1, ground := Ground.phase }, { on := 2, ground := Ground.phase }, { on := 3, ground := Ground.phase }, { on := 4, ground := Ground.phase }, { on := 5, ground := Ground.phase }], guard := none }) (.int .i64 21) _ _ _ _ rfl (by kernel_rfl) (by kernel_rfl) (by kernel_rfl) (fun _ _ _ h => h) (Or.inl ⟨by rfl, ?y6⟩) (by assumption) ?_
        case y6 => intro w hSw; go_simp
        simp only [Act.put, List.setIfInBounds_toArray, List.set_cons_zero, List.set_cons_succ]
        refine @wpAnyH_done _ _ _ _ _ _ _ _ (by kernel_rfl) ?_ _
        refine NoPanic.normal ?_
        go_wp2_with fail
        rw [HF.out]
        exact get_retR (R := w.heap.size) rfl rfl rfl (hLF.putIt (bare 0)) (below_setCells (Nat.le_refl _) _ _ _ hBF)
    by_cases hr : right a = true
    case neg =>
      have hr' : right a = false := by simpa using hr
      have HF := Lib.hid (show fin s a i 0 = (bare 0, 1) from by unfold fin; rw [if_neg (by omega), if_neg hi, if_neg hr])
      have hi' : ¬ (i : Int) < s.size := by omega
      have d0 := hcut.1.cell (j := 0) rfl; have d1 := hcut.1.cell (j := 1) rfl; have d2 := hcut.1.cell (j := 2) rfl; have d3 := hcut.1.cell (j := 3) rfl; have d4 := hcut.1.cell (j := 4) rfl; have d5 := hcut.1.cell (j := 5) rfl; have d6 := hcut.1.cell (j := 6) rfl; have d7 := hcut.1.cell (j := 7) rfl; have d8 := hcut.1.cell (j := 8) rfl; have d9 := hcut.1.cell (j := 9) rfl; have d10 := hcut.1.cell (j := 10) rfl
      have HR := Lib.hid (fun w => rfRight a w)
      have hz := hcut.2.2.2.size
      clear hi hr hcut
      go_wp2_with fail
      refine (HR.out _).mono ?_
      rintro e w9 ⟨rfl, hb9⟩
      have M3 := Lib.hid (M.out.below hb9 hz)
      have M4 := Lib.hid (M3.out.bad hIg 1)
      have p1 := M3.out.2.1.rd.c1; have p2 := M3.out.2.1.rd.c2; have o2 := M3.out.2.1.rd.free 2
      clear q1 q2 g2
      go_wp2_with fail
      have hth : World.there (World.drew (w9.setCell ⟨w.heap.size + 1, 2, none⟩ (.int .i64 1))) w.heap.size 0 (itC (bare 0)).size := M4.out.2.2.1.there
      have hLF : Lies w.heap.size (itC (bare 0)) 29 (World.drew (w9.setCell ⟨w.heap.size + 1, 2, none⟩ (.int .i64 1))) := M4.out.2.2.1
      have hBF : Below w.heap.size w (World.drew (w9.setCell ⟨w.heap.size + 1, 2, none⟩ (.int .i64 1))) := below_drewOf M4.out.2.2.2
      have q2 : (World.drew (w9.setCell ⟨w.heap.size + 1, 2, none⟩ (.int .i64 1))).cell? ⟨w.heap.size + 1, 2, none⟩ = some (.int .i64 1) := M4.out.2.1.rd.c2
      refine wp_region_noPanic ?_
      refine wp_region_held_drew (S := fun w' => w'.cell? ⟨w.heap.size + 1, 2, none⟩ = some (.int .i64 1)) (by kernel_rfl) q2 (fun hHeld => ?_)
      refine @wpAnyH_take _ _ _ _ _ 0 ({ dst := some 114, op := Op.build 29 #[], type := 29, pos := "ref.go:131", after := #[], guard := none }) (itV (bare 0)) _ _ _ _ rfl (by kernel_rfl) (by kernel_rfl) (by kernel_rfl) (fun _ _ _ h => h) (Or.inl ⟨by rfl, ?y0⟩) (by assumption) ?_
      case y0 => intro w hSw; go_simp
      simp only [Act.put, List.setIfInBounds_toArray, List.set_cons_zero, List.set_cons_succ]
      refine @wpAnyH_take _ _ _ _ _ 1 ({ dst := some 115, op := Op.move (Operand.tmp 4), type := 52, pos := "ref.go:131", after := #[{ on := 5, ground := Ground.gcOnly Departure.lateStores }], guard := none }) (.pointer (some ⟨w.heap.size + 1, 0, none⟩)) _ _ _ _ rfl (by kernel_rfl) (by kernel_rfl) (by kernel_rfl) (fun _ _ _ h => h) (Or.inl ⟨by rfl, ?y1⟩) (by assumption) ?_
      case y1 => intro w hSw; go_simp
      simp only [Act.put, List.setIfInBounds_toArray, List.set_cons_zero, List.set_cons_succ]
      refine @wpAnyH_take _ _ _ _ _ 2 ({ dst := some 116, op := Op.nilCheck (Operand.tmp 115), type := 0, pos := "ref.go:131", after := #[{ on := 1, ground := Ground.data }, { on := 5, ground := Ground.gcOnly Departure.lateStores }], guard := none }) (.pointer (some ⟨w.heap.size + 1, 0, none⟩)) _ _ _ _ rfl (by kernel_rfl) (by kernel_rfl) (by kernel_rfl) (fun _ _ _ h => h) (Or.inl ⟨by rfl, ?y2⟩) (by assumption) ?_
      case y2 => intro w hSw; go_simp
      simp only [Act.put, List.setIfInBounds_toArray, List.set_cons_zero, List.set_cons_succ]
      refine @wpAnyH_take _ _ _ _ _ 3 ({ dst := some 117, op := Op.fieldAddr 54 (Operand.tmp 116) 2, type := 0, pos := "ref.go:131", after := #[{ on := 2, ground := Ground.data }, { on := 5, ground := Ground.gcOnly Departure.lateStores }], guard := none }) (.pointer (some ⟨w.heap.size + 1, 2, none⟩)) _ _ _ _ rfl (by kernel_rfl) (by kernel_rfl) (by kernel_rfl) (fun _ _ _ h => h) (Or.inl ⟨by rfl, ?y3⟩) (by assumption) ?_
      case y3 => intro w hSw; go_simp
      simp only [Act.put, List.setIfInBounds_toArray, List.set_cons_zero, List.set_cons_succ]
      refine @wpAnyH_take _ _ _ _ _ 4 ({ dst := some 118, op := Op.load 34 (Operand.tmp 117), type := 34, pos := "ref.go:131", after := #[{ on := 3, ground := Ground.data }, { on := 5, ground := Ground.gcOnly Departure.lateStores }], guard := none }) (.int .i64 1) _ _ _ _ rfl (by kernel_rfl) (by kernel_rfl) (by kernel_rfl) (fun _ _ _ h => h) (Or.inl ⟨by rfl, ?y4⟩) (by assumption) ?_
      case y4 => intro w hSw; go_simp
      simp only [Act.put, List.setIfInBounds_toArray, List.set_cons_zero, List.set_cons_succ]
      refine wpAnyH_ready (rs := [5]) (by kernel_rfl) (by simp) ?_
      refine AllReadyH.cons (o := { dst := none, op := Op.store 29 (Operand.tmp 2) (Operand.tmp 114), type := 0, pos := "ref.go:131", after := #[{ on := 0, ground := Ground.data }, { on := 0, ground := Ground.phase }, { on := 1, ground := Ground.textOnly Departure.lateStores }, { on := 2, ground := Ground.textOnly Departure.lateStores }, { on := 3, ground := Ground.textOnly Departure.lateStores }, { on := 4, ground := Ground.textOnly Departure.lateStores }], guard := none }) ?h1 ?h2 AllReadyH.nil
      case h1 => rfl
      case h2 =>
        intro K hK
        rw [if_pos (by rfl)]
        refine @wp_store_mid _ _ _ _ _ _ 29 (.tmp 2) (.tmp 114) rfl w.heap.size 0 (itC (bare 0)) rfl rfl hth info_it one_bare ?_
        refine hK.out _ _ ?_ (fun hHeld2 => ?_)
        · exact (World.cell?_setCells_out _ _ _ _ _ (by intro h; simp at h)).trans q2
        refine @wpAnyH_take _ _ _ _ _ 6 ({ dst := some 3, op := Op.assign (Operand.tmp 118), type := 34, pos := "ref.go:131", after := #[{ on := 4, ground := Ground.data }, { on := 5, ground := Ground.chain }, { on := 0, ground := Ground.phase }, { on := 1, ground := Ground.phase }, { on := 2, ground := Ground.phase }, { on := 3, ground := Ground.phase }, { on := 4, ground := Ground.phase }, { on := 5, ground := Ground.phase }], guard := none }) (.int .i64 1) _ _ _ _ rfl (by kernel_rfl) (by kernel_rfl) (by kernel_rfl) (fun _ _ _ h => h) (Or.inl ⟨by rfl, ?y6⟩) (by assumption) ?_
        case y6 => intro w hSw; go_simp
        simp only [Act.put, List.setIfInBounds_toArray, List.set_cons_zero, List.set_cons_succ]
        refine @wpAnyH_done _ _ _ _ _ _ _ _ (by kernel_rfl) ?_ _
        refine NoPanic.normal ?_
        go_wp2_with fail
        rw [HF.out]
        exact get_retR (R := w.heap.size) rfl rfl rfl (hLF.putIt (bare 0)) (below_setCells (Nat.le_refl _) _ _ _ hBF)
    have HF := Lib.hid (show fin s a i 0 = (a, 0) from by unfold fin; rw [if_neg (by omega), if_neg hi, if_pos hr])
    have hi' : ¬ (i : Int) < s.size := by omega
    have d0 := hcut.1.cell (j := 0) rfl; have d1 := hcut.1.cell (j := 1) rfl; have d2 := hcut.1.cell (j := 2) rfl; have d3 := hcut.1.cell (j := 3) rfl; have d4 := hcut.1.cell (j := 4) rfl; have d5 := hcut.1.cell (j := 5) rfl; have d6 := hcut.1.cell (j := 6) rfl; have d7 := hcut.1.cell (j := 7) rfl; have d8 := hcut.1.cell (j := 8) rfl; have d9 := hcut.1.cell (j := 9) rfl; have d10 := hcut.1.cell (j := 10) rfl
    have HR := Lib.hid (fun w => rfRight a w)
    have hz := hcut.2.2.2.size
    clear hi hcut
    go_wp2_with fail
    refine (HR.out _).mono ?_
    rintro e w9 ⟨rfl, hb9⟩
    have M3 := Lib.hid (M.out.below hb9 hz)
    have p1 := M3.out.2.1.rd.c1; have p2 := M3.out.2.1.rd.c2; have o2 := M3.out.2.1.rd.free 2
    clear q1 q2 g2
    clear d0 d1 d2 d3 d4 d5 d6 d7 d8 d9 d10
    have d0 := M3.out.1.cell (j := 0) rfl; have d1 := M3.out.1.cell (j := 1) rfl; have d2 := M3.out.1.cell (j := 2) rfl; have d3 := M3.out.1.cell (j := 3) rfl; have d4 := M3.out.1.cell (j := 4) rfl; have d5 := M3.out.1.cell (j := 5) rfl; have d6 := M3.out.1.cell (j := 6) rfl; have d7 := M3.out.1.cell (j := 7) rfl; have d8 := M3.out.1.cell (j := 8) rfl; have d9 := M3.out.1.cell (j := 9) rfl; have d10 := M3.out.1.cell (j := 10) rfl
    have c0 := M3.out.2.2.1.cell (j := 0) rfl; have c1 := M3.out.2.2.1.cell (j := 1) rfl; have c2 := M3.out.2.2.1.cell (j := 2) rfl; have c3 := M3.out.2.2.1.cell (j := 3) rfl; have c4 := M3.out.2.2.1.cell (j := 4) rfl; have c5 := M3.out.2.2.1.cell (j := 5) rfl; have c6 := M3.out.2.2.1.cell (j := 6) rfl; have c7 := M3.out.2.2.1.cell (j := 7) rfl; have c8 := M3.out.2.2.1.cell (j := 8) rfl; have c9 := M3.out.2.2.1.cell (j := 9) rfl; have c10 := M3.out.2.2.1.cell (j := 10) rfl
    have f0 := M3.out.2.2.1.free 0; have f1 := M3.out.2.2.1.free 1; have f2 := M3.out.2.2.1.free 2; have f3 := M3.out.2.2.1.free 3; have f4 := M3.out.2.2.1.free 4; have f5 := M3.out.2.2.1.free 5; have f6 := M3.out.2.2.1.free 6; have f7 := M3.out.2.2.1.free 7; have f8 := M3.out.2.2.1.free 8; have f9 := M3.out.2.2.1.free 9; have f10 := M3.out.2.2.1.free 10
    go_wp2_with fail
    rw [HF.out]
    exact get_retR (R := w.heap.size) rfl rfl rfl (M3.out.2.2.1.set11 _ _ _ _ _ _ _ _ _ _ _ ) (below_set11 M3.out.2.2.2 (Nat.le_refl _) _ _ _ _ _ _ _ _ _ _ _ )
set_option maxRecDepth 100000 in
set_option maxHeartbeats 2000000 in
theorem rfGet_2 (s : ByteArray) (hs : s.size ≤ 140737488355328) (k1 : Nat) (hK : numS s (0, 0) = (2, k1, 0)) (a : It) (i c : Nat) (v : Nat) (hA : numS s (k1, 0) = (v, i, c)) (ha : a = { bare 2 with m := v }) (w : World) : Calls Try.prog 17 #[.string s] w (GotI (fin s a i c).1 (fin s a i c).2 w) := by
  have W1 := Lib.hid (show WhereR s (0, 0) (w.heap.size + 1) ((w.alloc (.cells (itC (bare 0)) 29)).alloc (.cells #[.string s, .int .i64 0, .int .i64 0] 54)) from ⟨Nat.zero_le _, rd_new w s _ _⟩)
  have L1 := Lib.hid ((Lies.new w (itC (bare 0)) 29).al (o := .cells #[.string s, .int .i64 0, .int .i64 0] 54))
  have B1 := Lib.hid (below_al (o := .cells #[.string s, .int .i64 0, .int .i64 0] 54) (below_al (o := .cells (itC (bare 0)) 29) (Below.refl w.heap.size w)))
  have HK := Lib.hid hK
  have HA := Lib.hid hA
  clear hK hA
  go_enter Try.func17, Try.ntmps17
  go_wp2_with fail
  refine (rgNumber hs W1.out).mono ?_
  rw [HK.out]
  rintro e w2 ⟨rfl, W2, B2⟩
  have r1 := W2.rd.c1; have r2 := W2.rd.c2; have f2 := W2.rd.free 2
  have hIg : w2.heap.size ≠ w.heap.size + 1 := by have := W2.rd.lt; omega
  have hRg : w.heap.size ≠ w.heap.size + 1 := by omega
  have L2 := Lib.hid (L1.out.but hRg B2)
  have hRI : w.heap.size ≠ w2.heap.size := by have := lt_of_block L2.out; omega
  have W3 := Lib.hid (W2.al (o := .cells (itC (bare 2)) 29))
  have L3 := Lib.hid (L2.out.al (o := .cells (itC (bare 2)) 29))
  have J3 := Lib.hid (Lies.new w2 (itC (bare 2)) 29)
  have B3 := Lib.hid (below_al (o := .cells (itC (bare 2)) 29) (B2.below B1.out (by omega) (by simp; omega)))
  have hz3 : w.heap.size ≤ (w2.alloc (.cells (itC (bare 2)) 29)).heap.size := B3.out.size
  go_upto_block 0 with fail
  go_cut [] from 7 (fun wc => Mid s a i c w w2.heap.size wc)
  case first =>
    subst ha
    go_wp2_with fail
    refine (rgNumber hs W3.out).mono ?_
    rw [HA.out]
    rintro e w4 ⟨rfl, W4, B4⟩
    have J4 := Lib.hid (Lies.but J3.out hIg B4)
    have L4 := Lib.hid (Lies.but L3.out hRg B4)
    have E4 := Lib.hid (B4.below B3.out (by omega) hz3)
    have hz4 : w.heap.size ≤ w4.heap.size := E4.out.size
    have d4 := J4.out.cell (j := 4) rfl; have k4 := J4.out.free 4
    go_wp2_with fail
    go_meet
    case rel => exact ⟨(J4.out.set 4 _), (WhereR.set W4 hIg 4 _), (L4.out.other hRI 4 _), (E4.out.setCell (p := ⟨w2.heap.size, 4, none⟩) (by have := lt_of_block L2.out; simp only; omega) _)⟩
  case rest =>
    clear ha
    have M := Lib.hid hcut
    have q1 := hcut.2.1.rd.c1; have q2 := hcut.2.1.rd.c2; have g2 := hcut.2.1.rd.free 2
    by_cases hc : c = 0
    case neg =>
      have HF := Lib.hid (show fin s a i c = (bare 0, c) from if_pos hc)
      have e1 := ne_b (show (c : Int) ≠ 0 by omega)
      have e2 := nb (show (c : Int) ≠ 0 by omega)
      clear hc hcut
      go_wp2_with fail
      have hth : World.there (World.drew wc) w.heap.size 0 (itC (bare 0)).size := M.out.2.2.1.there
      have hLF : Lies w.heap.size (itC (bare 0)) 29 (World.drew wc) := M.out.2.2.1
      have hBF : Below w.heap.size w (World.drew wc) := below_drewOf M.out.2.2.2
      have q2 : (World.drew wc).cell? ⟨w.heap.size + 1, 2, none⟩ = some (.int .i64 c) := M.out.2.1.rd.c2
      refine wp_region_noPanic ?_
      refine wp_region_held_drew (S := fun w' => w'.cell? ⟨w.heap.size + 1, 2, none⟩ = some (.int .i64 c)) (by kernel_rfl) q2 (fun hHeld => ?_)
      refine @wpAnyH_take _ _ _ _ _ 0 ({ dst := some 114, op := Op.build 29 #[], type := 29, pos := "ref.go:131", after := #[], guard := none }) (itV (bare 0)) _ _ _ _ rfl (by kernel_rfl) (by kernel_rfl) (by kernel_rfl) (fun _ _ _ h => h) (Or.inl ⟨by rfl, ?y0⟩) (by assumption) ?_
      case y0 => intro w hSw; go_simp
      simp only [Act.put, List.setIfInBounds_toArray, List.set_cons_zero, List.set_cons_succ]
      refine @wpAnyH_take _ _ _ _ _ 1 ({ dst := some 115, op := Op.move (Operand.tmp 4), type := 52, pos := "ref.go:131", after := #[{ on := 5, ground := Ground.gcOnly Departure.lateStores }], guard := none }) (.pointer (some ⟨w.heap.size + 1, 0, none⟩)) _ _ _ _ rfl (by kernel_rfl) (by kernel_rfl) (by kernel_rfl) (fun _ _ _ h => h) (Or.inl ⟨by rfl, ?y1⟩) (by assumption) ?_
      case y1 => intro w hSw; go_simp
      simp only [Act.put, List.setIfInBounds_toArray, List.set_cons_zero, List.set_cons_succ]
      refine @wpAnyH_take _ _ _ _ _ 2 ({ dst := some 116, op := Op.nilCheck (Operand.tmp 115), type := 0, pos := "ref.go:131", after := #[{ on := 1, ground := Ground.data }, { on := 5, ground := Ground.gcOnly Departure.lateStores }], guard := none }) (.pointer (some ⟨w.heap.size + 1, 0, none⟩)) _ _ _ _ rfl (by kernel_rfl) (by kernel_rfl) (by kernel_rfl) (fun _ _ _ h => h) (Or.inl ⟨by rfl, ?y2⟩) (by assumption) ?_
      case y2 => intro w hSw; go_simp
      simp only [Act.put, List.setIfInBounds_toArray, List.set_cons_zero, List.set_cons_succ]
      refine @wpAnyH_take _ _ _ _ _ 3 ({ dst := some 117, op := Op.fieldAddr 54 (Operand.tmp 116) 2, type := 0, pos := "ref.go:131", after := #[{ on := 2, ground := Ground.data }, { on := 5, ground := Ground.gcOnly Departure.lateStores }], guard := none }) (.pointer (some ⟨w.heap.size + 1, 2, none⟩)) _ _ _ _ rfl (by kernel_rfl) (by kernel_rfl) (by kernel_rfl) (fun _ _ _ h => h) (Or.inl ⟨by rfl, ?y3⟩) (by assumption) ?_
      case y3 => intro w hSw; go_simp
      simp only [Act.put, List.setIfInBounds_toArray, List.set_cons_zero, List.set_cons_succ]
      refine @wpAnyH_take _ _ _ _ _ 4 ({ dst := some 118, op := Op.load 34 (Operand.tmp 117), type := 34, pos := "ref.go:131", after := #[{ on := 3, ground := Ground.data }, { on := 5, ground := Ground.gcOnly Departure.lateStores }], guard := none }) (.int .i64 c) _ _ _ _ rfl (by kernel_rfl) (by kernel_rfl) (by kernel_rfl) (fun _ _ _ h => h) (Or.inl ⟨by rfl, ?y4⟩) (by assumption) ?_
      case y4 => intro w hSw; go_simp
      simp only [Act.put, List.setIfInBounds_toArray, List.set_cons_zero, List.set_cons_succ]
      refine wpAnyH_ready (rs := [5]) (by kernel_rfl) (by simp) ?_
      refine AllReadyH.cons (o := { dst := none, op := Op.store 29 (Operand.tmp 2) (Operand.tmp 114), type := 0, pos := "ref.go:131", after := #[{ on := 0, ground := Ground.data }, { on := 0, ground := Ground.phase }, { on := 1, ground := Ground.textOnly Departure.lateStores }, { on := 2, ground := Ground.textOnly Departure.lateStores }, { on := 3, ground := Ground.textOnly Departure.lateStores }, { on := 4, ground := Ground.textOnly Departure.lateStores }], guard := none }) ?h1 ?h2 AllReadyH.nil
      case h1 => rfl
      case h2 =>
        intro K hK
        rw [if_pos (by rfl)]
        refine @wp_store_mid _ _ _ _ _ _ 29 (.tmp 2) (.tmp 114) rfl w.heap.size 0 (itC (bare 0)) rfl rfl hth info_it one_bare ?_
        refine hK.out _ _ ?_ (fun hHeld2 => ?_)
        · exact (World.cell?_setCells_out _ _ _ _ _ (by intro h; simp at h)).trans q2
        refine @wpAnyH_take _ _ _ _ _ 6 ({ dst := some 3, op := Op.assign (Operand.tmp 118), type := 34, pos := "ref.go:131", after := #[{ on := 4, ground := Ground.data }, { on := 5, ground := Ground.chain }, { on := 0, ground := Ground.phase }, { on := 1, ground := Ground.phase }, { on := 2, ground := Ground.phase }, { on := 3, ground := Ground.phase }, { on := 4, ground := Ground.phase }, { on := 5, ground := Ground.phase }], guard := none }) (.int .i64 c) _ _ _ _ rfl (by kernel_rfl) (by kernel_rfl) (by kernel_rfl) (fun _ _ _ h => h) (Or.inl ⟨by rfl, ?y6⟩) (by assumption) ?_
        case y6 => intro w hSw; go_simp
        simp only [Act.put, List.setIfInBounds_toArray, List.set_cons_zero, List.set_cons_succ]
        refine @wpAnyH_done _ _ _ _ _ _ _ _ (by kernel_rfl) ?_ _
        refine NoPanic.normal ?_
        go_wp2_with fail
        rw [HF.out]
        exact get_retR (R := w.heap.size) rfl rfl rfl (hLF.putIt (bare 0)) (below_setCells (Nat.le_refl _) _ _ _ hBF)
    subst hc
    by_cases hi : i < s.size
    case pos =>
      have HF := Lib.hid (show fin s a i 0 = (bare 0, 21) from by unfold fin; rw [if_neg (by omega), if_pos hi])
      have hi' : (i : Int) < s.size := by omega
      have M2 := Lib.hid (hcut.bad hIg 21)
      clear hi hcut
      go_wp2_with fail
      have hth : World.there (World.drew (wc.setCell ⟨w.heap.size + 1, 2, none⟩ (.int .i64 21))) w.heap.size 0 (itC (bare 0)).size := M2.out.2.2.1.there
      have hLF : Lies w.heap.size (itC (bare 0)) 29 (World.drew (wc.setCell ⟨w.heap.size + 1, 2, none⟩ (.int .i64 21))) := M2.out.2.2.1
      have hBF : Below w.heap.size w (World.drew (wc.setCell ⟨w.heap.size + 1, 2, none⟩ (.int .i64 21))) := below_drewOf M2.out.2.2.2
      have q2 : (World.drew (wc.setCell ⟨w.heap.size + 1, 2, none⟩ (.int .i64 21))).cell? ⟨w.heap.size + 1, 2, none⟩ = some (.int .i64 21) := M2.out.2.1.rd.c2
      refine wp_region_noPanic ?_
      refine wp_region_held_drew (S := fun w' => w'.cell? ⟨w.heap.size + 1, 2, none⟩ = some (.int .i64 21)) (by kernel_rfl) q2 (fun hHeld => ?_)
      refine @wpAnyH_take _ _ _ _ _ 0 ({ dst := some 114, op := Op.build 29 #[], type := 29, pos := "ref.go:131", after := #[], guard := none }) (itV (bare 0)) _ _ _ _ rfl (by kernel_rfl) (by kernel_rfl) (by kernel_rfl) (fun _ _ _ h => h) (Or.inl ⟨by rfl, ?y0⟩) (by assumption) ?_
      case y0 => intro w hSw; go_simp
      simp only [Act.put, List.setIfInBounds_toArray, List.set_cons_zero, List.set_cons_succ]
      refine @wpAnyH_take _ _ _ _ _ 1 ({ dst := some 115, op := Op.move (Operand.tmp 4), type := 52, pos := "ref.go:131", after := #[{ on := 5, ground := Ground.gcOnly Departure.lateStores }], guard := none }) (.pointer (some ⟨w.heap.size + 1, 0, none⟩)) _ _ _ _ rfl (by kernel_rfl) (by kernel_rfl) (by kernel_rfl) (fun _ _ _ h => h) (Or.inl ⟨by rfl, ?y1⟩) (by assumption) ?_
      case y1 => intro w hSw; go_simp
      simp only [Act.put, List.setIfInBounds_toArray, List.set_cons_zero, List.set_cons_succ]
      refine @wpAnyH_take _ _ _ _ _ 2 ({ dst := some 116, op := Op.nilCheck (Operand.tmp 115), type := 0, pos := "ref.go:131", after := #[{ on := 1, ground := Ground.data }, { on := 5, ground := Ground.gcOnly Departure.lateStores }], guard := none }) (.pointer (some ⟨w.heap.size + 1, 0, none⟩)) _ _ _ _ rfl (by kernel_rfl) (by kernel_rfl) (by kernel_rfl) (fun _ _ _ h => h) (Or.inl ⟨by rfl, ?y2⟩) (by assumption) ?_
      case y2 => intro w hSw; go_simp
      simp only [Act.put, List.setIfInBounds_toArray, List.set_cons_zero, List.set_cons_succ]
      refine @wpAnyH_take _ _ _ _ _ 3 ({ dst := some 117, op := Op.fieldAddr 54 (Operand.tmp 116) 2, type := 0, pos := "ref.go:131", after := #[{ on := 2, ground := Ground.data }, { on := 5, ground := Ground.gcOnly Departure.lateStores }], guard := none }) (.pointer (some ⟨w.heap.size + 1, 2, none⟩)) _ _ _ _ rfl (by kernel_rfl) (by kernel_rfl) (by kernel_rfl) (fun _ _ _ h => h) (Or.inl ⟨by rfl, ?y3⟩) (by assumption) ?_
      case y3 => intro w hSw; go_simp
      simp only [Act.put, List.setIfInBounds_toArray, List.set_cons_zero, List.set_cons_succ]
      refine @wpAnyH_take _ _ _ _ _ 4 ({ dst := some 118, op := Op.load 34 (Operand.tmp 117), type := 34, pos := "ref.go:131", after := #[{ on := 3, ground := Ground.data }, { on := 5, ground := Ground.gcOnly Departure.lateStores }], guard := none }) (.int .i64 21) _ _ _ _ rfl (by kernel_rfl) (by kernel_rfl) (by kernel_rfl) (fun _ _ _ h => h) (Or.inl ⟨by rfl, ?y4⟩) (by assumption) ?_
      case y4 => intro w hSw; go_simp
      simp only [Act.put, List.setIfInBounds_toArray, List.set_cons_zero, List.set_cons_succ]
      refine wpAnyH_ready (rs := [5]) (by kernel_rfl) (by simp) ?_
      refine AllReadyH.cons (o := { dst := none, op := Op.store 29 (Operand.tmp 2) (Operand.tmp 114), type := 0, pos := "ref.go:131", after := #[{ on := 0, ground := Ground.data }, { on := 0, ground := Ground.phase }, { on := 1, ground := Ground.textOnly Departure.lateStores }, { on := 2, ground := Ground.textOnly Departure.lateStores }, { on := 3, ground := Ground.textOnly Departure.lateStores }, { on := 4, ground := Ground.textOnly Departure.lateStores }], guard := none }) ?h1 ?h2 AllReadyH.nil
      case h1 => rfl
      case h2 =>
        intro K hK
        rw [if_pos (by rfl)]
        refine @wp_store_mid _ _ _ _ _ _ 29 (.tmp 2) (.tmp 114) rfl w.heap.size 0 (itC (bare 0)) rfl rfl hth info_it one_bare ?_
        refine hK.out _ _ ?_ (fun hHeld2 => ?_)
        · exact (World.cell?_setCells_out _ _ _ _ _ (by intro h; simp at h)).trans q2
        refine @wpAnyH_take _ _ _ _ _ 6 ({ dst := some 3, op := Op.assign (Operand.tmp 118), type := 34, pos := "ref.go:131", after := #[{ on := 4, ground := Ground.data }, { on := 5, ground := Ground.chain }, { on := 0, ground := Ground.phase }, { on := 1, ground := Ground.phase }, { on := 2, ground := Ground.phase }, { on := 3, ground := Ground.phase }, { on := 4, ground := Ground.phase }, { on := 5, ground := Ground.phase }], guard := none }) (.int .i64 21) _ _ _ _ rfl (by kernel_rfl) (by kernel_rfl) (by kernel_rfl) (fun _ _ _ h => h) (Or.inl ⟨by rfl, ?y6⟩) (by assumption) ?_
        case y6 => intro w hSw; go_simp
        simp only [Act.put, List.setIfInBounds_toArray, List.set_cons_zero, List.set_cons_succ]
        refine @wpAnyH_done _ _ _ _ _ _ _ _ (by kernel_rfl) ?_ _
        refine NoPanic.normal ?_
        go_wp2_with fail
        rw [HF.out]
        exact get_retR (R := w.heap.size) rfl rfl rfl (hLF.putIt (bare 0)) (below_setCells (Nat.le_refl _) _ _ _ hBF)
    by_cases hr : right a = true
    case neg =>
      have hr' : right a = false := by simpa using hr
      have HF := Lib.hid (show fin s a i 0 = (bare 0, 1) from by unfold fin; rw [if_neg (by omega), if_neg hi, if_neg hr])
      have hi' : ¬ (i : Int) < s.size := by omega
      have d0 := hcut.1.cell (j := 0) rfl; have d1 := hcut.1.cell (j := 1) rfl; have d2 := hcut.1.cell (j := 2) rfl; have d3 := hcut.1.cell (j := 3) rfl; have d4 := hcut.1.cell (j := 4) rfl; have d5 := hcut.1.cell (j := 5) rfl; have d6 := hcut.1.cell (j := 6) rfl; have d7 := hcut.1.cell (j := 7) rfl; have d8 := hcut.1.cell (j := 8) rfl; have d9 := hcut.1.cell (j := 9) rfl; have d10 := hcut.1.cell (j := 10) rfl
      have HR := Lib.hid (fun w => rfRight a w)
      have hz := hcut.2.2.2.size
      clear hi hr hcut
      go_wp2_with fail
      refine (HR.out _).mono ?_
      rintro e w9 ⟨rfl, hb9⟩
      have M3 := Lib.hid (M.out.below hb9 hz)
      have M4 := Lib.hid (M3.out.bad hIg 1)
      have p1 := M3.out.2.1.rd.c1; have p2 := M3.out.2.1.rd.c2; have o2 := M3.out.2.1.rd.free 2
      clear q1 q2 g2
      go_wp2_with fail
      have hth : World.there (World.drew (w9.setCell ⟨w.heap.size + 1, 2, none⟩ (.int .i64 1))) w.heap.size 0 (itC (bare 0)).size := M4.out.2.2.1.there
      have hLF : Lies w.heap.size (itC (bare 0)) 29 (World.drew (w9.setCell ⟨w.heap.size + 1, 2, none⟩ (.int .i64 1))) := M4.out.2.2.1
      have hBF : Below w.heap.size w (World.drew (w9.setCell ⟨w.heap.size + 1, 2, none⟩ (.int .i64 1))) := below_drewOf M4.out.2.2.2
      have q2 : (World.drew (w9.setCell ⟨w.heap.size + 1, 2, none⟩ (.int .i64 1))).cell? ⟨w.heap.size + 1, 2, none⟩ = some (.int .i64 1) := M4.out.2.1.rd.c2
      refine wp_region_noPanic ?_
      refine wp_region_held_drew (S := fun w' => w'.cell? ⟨w.heap.size + 1, 2, none⟩ = some (.int .i64 1)) (by kernel_rfl) q2 (fun hHeld => ?_)
      refine @wpAnyH_take _ _ _ _ _ 0 ({ dst := some 114, op := Op.build 29 #[], type := 29, pos := "ref.go:131", after := #[], guard := none }) (itV (bare 0)) _ _ _ _ rfl (by kernel_rfl) (by kernel_rfl) (by kernel_rfl) (fun _ _ _ h => h) (Or.inl ⟨by rfl, ?y0⟩) (by assumption) ?_
      case y0 => intro w hSw; go_simp
      simp only [Act.put, List.setIfInBounds_toArray, List.set_cons_zero, List.set_cons_succ]
      refine @wpAnyH_take _ _ _ _ _ 1 ({ dst := some 115, op := Op.move (Operand.tmp 4), type := 52, pos := "ref.go:131", after := #[{ on := 5, ground := Ground.gcOnly Departure.lateStores }], guard := none }) (.pointer (some ⟨w.heap.size + 1, 0, none⟩)) _ _ _ _ rfl (by kernel_rfl) (by kernel_rfl) (by kernel_rfl) (fun _ _ _ h => h) (Or.inl ⟨by rfl, ?y1⟩) (by assumption) ?_
      case y1 => intro w hSw; go_simp
      simp only [Act.put, List.setIfInBounds_toArray, List.set_cons_zero, List.set_cons_succ]
      refine @wpAnyH_take _ _ _ _ _ 2 ({ dst := some 116, op := Op.nilCheck (Operand.tmp 115), type := 0, pos := "ref.go:131", after := #[{ on := 1, ground := Ground.data }, { on := 5, ground := Ground.gcOnly Departure.lateStores }], guard := none }) (.pointer (some ⟨w.heap.size + 1, 0, none⟩)) _ _ _ _ rfl (by kernel_rfl) (by kernel_rfl) (by kernel_rfl) (fun _ _ _ h => h) (Or.inl ⟨by rfl, ?y2⟩) (by assumption) ?_
      case y2 => intro w hSw; go_simp
      simp only [Act.put, List.setIfInBounds_toArray, List.set_cons_zero, List.set_cons_succ]
      refine @wpAnyH_take _ _ _ _ _ 3 ({ dst := some 117, op := Op.fieldAddr 54 (Operand.tmp 116) 2, type := 0, pos := "ref.go:131", after := #[{ on := 2, ground := Ground.data }, { on := 5, ground := Ground.gcOnly Departure.lateStores }], guard := none }) (.pointer (some ⟨w.heap.size + 1, 2, none⟩)) _ _ _ _ rfl (by kernel_rfl) (by kernel_rfl) (by kernel_rfl) (fun _ _ _ h => h) (Or.inl ⟨by rfl, ?y3⟩) (by assumption) ?_
      case y3 => intro w hSw; go_simp
      simp only [Act.put, List.setIfInBounds_toArray, List.set_cons_zero, List.set_cons_succ]
      refine @wpAnyH_take _ _ _ _ _ 4 ({ dst := some 118, op := Op.load 34 (Operand.tmp 117), type := 34, pos := "ref.go:131", after := #[{ on := 3, ground := Ground.data }, { on := 5, ground := Ground.gcOnly Departure.lateStores }], guard := none }) (.int .i64 1) _ _ _ _ rfl (by kernel_rfl) (by kernel_rfl) (by kernel_rfl) (fun _ _ _ h => h) (Or.inl ⟨by rfl, ?y4⟩) (by assumption) ?_
      case y4 => intro w hSw; go_simp
      simp only [Act.put, List.setIfInBounds_toArray, List.set_cons_zero, List.set_cons_succ]
      refine wpAnyH_ready (rs := [5]) (by kernel_rfl) (by simp) ?_
      refine AllReadyH.cons (o := { dst := none, op := Op.store 29 (Operand.tmp 2) (Operand.tmp 114), type := 0, pos := "ref.go:131", after := #[{ on := 0, ground := Ground.data }, { on := 0, ground := Ground.phase }, { on := 1, ground := Ground.textOnly Departure.lateStores }, { on := 2, ground := Ground.textOnly Departure.lateStores }, { on := 3, ground := Ground.textOnly Departure.lateStores }, { on := 4, ground := Ground.textOnly Departure.lateStores }], guard := none }) ?h1 ?h2 AllReadyH.nil
      case h1 => rfl
      case h2 =>
        intro K hK
        rw [if_pos (by rfl)]
        refine @wp_store_mid _ _ _ _ _ _ 29 (.tmp 2) (.tmp 114) rfl w.heap.size 0 (itC (bare 0)) rfl rfl hth info_it one_bare ?_
        refine hK.out _ _ ?_ (fun hHeld2 => ?_)
        · exact (World.cell?_setCells_out _ _ _ _ _ (by intro h; simp at h)).trans q2
        refine @wpAnyH_take _ _ _ _ _ 6 ({ dst := some 3, op := Op.assign (Operand.tmp 118), type := 34, pos := "ref.go:131", after := #[{ on := 4, ground := Ground.data }, { on := 5, ground := Ground.chain }, { on := 0, ground := Ground.phase }, { on := 1, ground := Ground.phase }, { on := 2, ground := Ground.phase }, { on := 3, ground := Ground.phase }, { on := 4, ground := Ground.phase }, { on := 5, ground := Ground.phase }], guard := none }) (.int .i64 1) _ _ _ _ rfl (by kernel_rfl) (by kernel_rfl) (by kernel_rfl) (fun _ _ _ h => h) (Or.inl ⟨by rfl, ?y6⟩) (by assumption) ?_
        case y6 => intro w hSw; go_simp
        simp only [Act.put, List.setIfInBounds_toArray, List.set_cons_zero, List.set_cons_succ]
        refine @wpAnyH_done _ _ _ _ _ _ _ _ (by kernel_rfl) ?_ _
        refine NoPanic.normal ?_
        go_wp2_with fail
        rw [HF.out]
        exact get_retR (R := w.heap.size) rfl rfl rfl (hLF.putIt (bare 0)) (below_setCells (Nat.le_refl _) _ _ _ hBF)
    have HF := Lib.hid (show fin s a i 0 = (a, 0) from by unfold fin; rw [if_neg (by omega), if_neg hi, if_pos hr])
    have hi' : ¬ (i : Int) < s.size := by omega
    have d0 := hcut.1.cell (j := 0) rfl; have d1 := hcut.1.cell (j := 1) rfl; have d2 := hcut.1.cell (j := 2) rfl; have d3 := hcut.1.cell (j := 3) rfl; have d4 := hcut.1.cell (j := 4) rfl; have d5 := hcut.1.cell (j := 5) rfl; have d6 := hcut.1.cell (j := 6) rfl; have d7 := hcut.1.cell (j := 7) rfl; have d8 := hcut.1.cell (j := 8) rfl; have d9 := hcut.1.cell (j := 9) rfl; have d10 := hcut.1.cell (j := 10) rfl
    have HR := Lib.hid (fun w => rfRight a w)
    have hz := hcut.2.2.2.size
    clear hi hcut
    go_wp2_with fail
    refine (HR.out _).mono ?_
    rintro e w9 ⟨rfl, hb9⟩
    have M3 := Lib.hid (M.out.below hb9 hz)
    have p1 := M3.out.2.1.rd.c1; have p2 := M3.out.2.1.rd.c2; have o2 := M3.out.2.1.rd.free 2
    clear q1 q2 g2
    clear d0 d1 d2 d3 d4 d5 d6 d7 d8 d9 d10
    have d0 := M3.out.1.cell (j := 0) rfl; have d1 := M3.out.1.cell (j := 1) rfl; have d2 := M3.out.1.cell (j := 2) rfl; have d3 := M3.out.1.cell (j := 3) rfl; have d4 := M3.out.1.cell (j := 4) rfl; have d5 := M3.out.1.cell (j := 5) rfl; have d6 := M3.out.1.cell (j := 6) rfl; have d7 := M3.out.1.cell (j := 7) rfl; have d8 := M3.out.1.cell (j := 8) rfl; have d9 := M3.out.1.cell (j := 9) rfl; have d10 := M3.out.1.cell (j := 10) rfl
    have c0 := M3.out.2.2.1.cell (j := 0) rfl; have c1 := M3.out.2.2.1.cell (j := 1) rfl; have c2 := M3.out.2.2.1.cell (j := 2) rfl; have c3 := M3.out.2.2.1.cell (j := 3) rfl; have c4 := M3.out.2.2.1.cell (j := 4) rfl; have c5 := M3.out.2.2.1.cell (j := 5) rfl; have c6 := M3.out.2.2.1.cell (j := 6) rfl; have c7 := M3.out.2.2.1.cell (j := 7) rfl; have c8 := M3.out.2.2.1.cell (j := 8) rfl; have c9 := M3.out.2.2.1.cell (j := 9) rfl; have c10 := M3.out.2.2.1.cell (j := 10) rfl
    have f0 := M3.out.2.2.1.free 0; have f1 := M3.out.2.2.1.free 1; have f2 := M3.out.2.2.1.free 2; have f3 := M3.out.2.2.1.free 3; have f4 := M3.out.2.2.1.free 4; have f5 := M3.out.2.2.1.free 5; have f6 := M3.out.2.2.1.free 6; have f7 := M3.out.2.2.1.free 7; have f8 := M3.out.2.2.1.free 8; have f9 := M3.out.2.2.1.free 9; have f10 := M3.out.2.2.1.free 10
    go_wp2_with fail
    rw [HF.out]
    exact get_retR (R := w.heap.size) rfl rfl rfl (M3.out.2.2.1.set11 _ _ _ _ _ _ _ _ _ _ _ ) (below_set11 M3.out.2.2.2 (Nat.le_refl _) _ _ _ _ _ _ _ _ _ _ _ )
set_option maxRecDepth 100000 in
set_option maxHeartbeats 2000000 in
theorem rfGet_4 (s : ByteArray) (hs : s.size ≤ 140737488355328) (k1 : Nat) (hK : numS s (0, 0) = (4, k1, 0)) (a : It) (i c : Nat) (v : Nat) (hA : numS s (k1, 0) = (v, i, c)) (ha : a = { bare 4 with n := v }) (w : World) : Calls Try.prog 17 #[.string s] w (GotI (fin s a i c).1 (fin s a i c).2 w) := by
  have W1 := Lib.hid (show WhereR s (0, 0) (w.heap.size + 1) ((w.alloc (.cells (itC (bare 0)) 29)).alloc (.cells #[.string s, .int .i64 0, .int .i64 0] 54)) from ⟨Nat.zero_le _, rd_new w s _ _⟩)
  have L1 := Lib.hid ((Lies.new w (itC (bare 0)) 29).al (o := .cells #[.string s, .int .i64 0, .int .i64 0] 54))
  have B1 := Lib.hid (below_al (o := .cells #[.string s, .int .i64 0, .int .i64 0] 54) (below_al (o := .cells (itC (bare 0)) 29) (Below.refl w.heap.size w)))
  have HK := Lib.hid hK
  have HA := Lib.hid hA
  clear hK hA
  go_enter Try.func17, Try.ntmps17
  go_wp2_with fail
  refine (rgNumber hs W1.out).mono ?_
  rw [HK.out]
  rintro e w2 ⟨rfl, W2, B2⟩
  have r1 := W2.rd.c1; have r2 := W2.rd.c2; have f2 := W2.rd.free 2
  have hIg : w2.heap.size ≠ w.heap.size + 1 := by have := W2.rd.lt; omega
  have hRg : w.heap.size ≠ w.heap.size + 1 := by omega
  have L2 := Lib.hid (L1.out.but hRg B2)
  have hRI : w.heap.size ≠ w2.heap.size := by have := lt_of_block L2.out; omega
  have W3 := Lib.hid (W2.al (o := .cells (itC (bare 4)) 29))
  have L3 := Lib.hid (L2.out.al (o := .cells (itC (bare 4)) 29))
  have J3 := Lib.hid (Lies.new w2 (itC (bare 4)) 29)
  have B3 := Lib.hid (below_al (o := .cells (itC (bare 4)) 29) (B2.below B1.out (by omega) (by simp; omega)))
  have hz3 : w.heap.size ≤ (w2.alloc (.cells (itC (bare 4)) 29)).heap.size := B3.out.size
  go_upto_block 0 with fail
  go_cut [] from 7 (fun wc => Mid s a i c w w2.heap.size wc)
  case first =>
    subst ha
    go_wp2_with fail
    refine (rgNumber hs W3.out).mono ?_
    rw [HA.out]
    rintro e w4 ⟨rfl, W4, B4⟩
    have J4 := Lib.hid (Lies.but J3.out hIg B4)
    have L4 := Lib.hid (Lies.but L3.out hRg B4)
    have E4 := Lib.hid (B4.below B3.out (by omega) hz3)
    have hz4 : w.heap.size ≤ w4.heap.size := E4.out.size
    have d4 := J4.out.cell (j := 5) rfl; have k4 := J4.out.free 5
    go_wp2_with fail
    go_meet
    case rel => exact ⟨(J4.out.set 5 _), (WhereR.set W4 hIg 5 _), (L4.out.other hRI 5 _), (E4.out.setCell (p := ⟨w2.heap.size, 5, none⟩) (by have := lt_of_block L2.out; simp only; omega) _)⟩
  case rest =>
    clear ha
    have M := Lib.hid hcut
    have q1 := hcut.2.1.rd.c1; have q2 := hcut.2.1.rd.c2; have g2 := hcut.2.1.rd.free 2
    by_cases hc : c = 0
    case neg =>
      have HF := Lib.hid (show fin s a i c = (bare 0, c) from if_pos hc)
      have e1 := ne_b (show (c : Int) ≠ 0 by omega)
      have e2 := nb (show (c : Int) ≠ 0 by omega)
      clear hc hcut
      go_wp2_with fail
      have hth : World.there (World.drew wc) w.heap.size 0 (itC (bare 0)).size := M.out.2.2.1.there
      have hLF : Lies w.heap.size (itC (bare 0)) 29 (World.drew wc) := M.out.2.2.1
      have hBF : Below w.heap.size w (World.drew wc) := below_drewOf M.out.2.2.2
      have q2 : (World.drew wc).cell? ⟨w.heap.size + 1, 2, none⟩ = some (.int .i64 c) := M.out.2.1.rd.c2
      refine wp_region_noPanic ?_
      refine wp_region_held_drew (S := fun w' => w'.cell? ⟨w.heap.size + 1, 2, none⟩ = some (.int .i64 c)) (by kernel_rfl) q2 (fun hHeld => ?_)
      refine @wpAnyH_take _ _ _ _ _ 0 ({ dst := some 114, op := Op.build 29 #[], type := 29, pos := "ref.go:131", after := #[], guard := none }) (itV (bare 0)) _ _ _ _ rfl (by kernel_rfl) (by kernel_rfl) (by kernel_rfl) (fun _ _ _ h => h) (Or.inl ⟨by rfl, ?y0⟩) (by assumption) ?_
      case y0 => intro w hSw; go_simp
      simp only [Act.put, List.setIfInBounds_toArray, List.set_cons_zero, List.set_cons_succ]
      refine @wpAnyH_take _ _ _ _ _ 1 ({ dst := some 115, op := Op.move (Operand.tmp 4), type := 52, pos := "ref.go:131", after := #[{ on := 5, ground := Ground.gcOnly Departure.lateStores }], guard := none }) (.pointer (some ⟨w.heap.size + 1, 0, none⟩)) _ _ _ _ rfl (by kernel_rfl) (by kernel_rfl) (by kernel_rfl) (fun _ _ _ h => h) (Or.inl ⟨by rfl, ?y1⟩) (by assumption) ?_
      case y1 => intro w hSw; go_simp
      simp only [Act.put, List.setIfInBounds_toArray, List.set_cons_zero, List.set_cons_succ]
      refine @wpAnyH_take _ _ _ _ _ 2 ({ dst := some 116, op := Op.nilCheck (Operand.tmp 115), type := 0, pos := "ref.go:131", after := #[{ on := 1, ground := Ground.data }, { on := 5, ground := Ground.gcOnly Departure.lateStores }], guard := none }) (.pointer (some ⟨w.heap.size + 1, 0, none⟩)) _ _ _ _ rfl (by kernel_rfl) (by kernel_rfl) (by kernel_rfl) (fun _ _ _ h => h) (Or.inl ⟨by rfl, ?y2⟩) (by assumption) ?_
      case y2 => intro w hSw; go_simp
      simp only [Act.put, List.setIfInBounds_toArray, List.set_cons_zero, List.set_cons_succ]
      refine @wpAnyH_take _ _ _ _ _ 3 ({ dst := some 117, op := Op.fieldAddr 54 (Operand.tmp 116) 2, type := 0, pos := "ref.go:131", after := #[{ on := 2, ground := Ground.data }, { on := 5, ground := Ground.gcOnly Departure.lateStores }], guard := none }) (.pointer (some ⟨w.heap.size + 1, 2, none⟩)) _ _ _ _ rfl (by kernel_rfl) (by kernel_rfl) (by kernel_rfl) (fun _ _ _ h => h) (Or.inl ⟨by rfl, ?y3⟩) (by assumption) ?_
      case y3 => intro w hSw; go_simp
      simp only [Act.put, List.setIfInBounds_toArray, List.set_cons_zero, List.set_cons_succ]
      refine @wpAnyH_take _ _ _ _ _ 4 ({ dst := some 118, op := Op.load 34 (Operand.tmp 117), type := 34, pos := "ref.go:131", after := #[{ on := 3, ground := Ground.data }, { on := 5, ground := Ground.gcOnly Departure.lateStores }], guard := none }) (.int .i64 c) _ _ _ _ rfl (by kernel_rfl) (by kernel_rfl) (by kernel_rfl) (fun _ _ _ h => h) (Or.inl ⟨by rfl, ?y4⟩) (by assumption) ?_
      case y4 => intro w hSw; go_simp
      simp only [Act.put, List.setIfInBounds_toArray, List.set_cons_zero, List.set_cons_succ]
      refine wpAnyH_ready (rs := [5]) (by kernel_rfl) (by simp) ?_
      refine AllReadyH.cons (o := { dst := none, op := Op.store 29 (Operand.tmp 2) (Operand.tmp 114), type := 0, pos := "ref.go:131", after := #[{ on := 0, ground := Ground.data }, { on := 0, ground := Ground.phase }, { on := 1, ground := Ground.textOnly Departure.lateStores }, { on := 2, ground := Ground.textOnly Departure.lateStores }, { on := 3, ground := Ground.textOnly Departure.lateStores }, { on := 4, ground := Ground.textOnly Departure.lateStores }], guard := none }) ?h1 ?h2 AllReadyH.nil
      case h1 => rfl
      case h2 =>
        intro K hK
        rw [if_pos (by rfl)]
        refine @wp_store_mid _ _ _ _ _ _ 29 (.tmp 2) (.tmp 114) rfl w.heap.size 0 (itC (bare 0)) rfl rfl hth info_it one_bare ?_
        refine hK.out _ _ ?_ (fun hHeld2 => ?_)
        · exact (World.cell?_setCells_out _ _ _ _ _ (by intro h; simp at h)).trans q2
        refine @wpAnyH_take _ _ _ _ _ 6 ({ dst := some 3, op := Op.assign (Operand.tmp 118), type := 34, pos := "ref.go:131", after := #[{ on := 4, ground := Ground.data }, { on := 5, ground := Ground.chain }, { on := 0, ground := Ground.phase }, { on := 1, ground := Ground.phase }, { on := 2, ground := Ground.phase }, { on := 3, ground := Ground.phase }, { on := 4, ground := Ground.phase }, { on := 5, ground := Ground.phase }], guard := none }) (.int .i64 c) _ _ _ _ rfl (by kernel_rfl) (by kernel_rfl) (by kernel_rfl) (fun _ _ _ h => h) (Or.inl ⟨by rfl, ?y6⟩) (by assumption) ?_
        case y6 => intro w hSw; go_simp
        simp only [Act.put, List.setIfInBounds_toArray, List.set_cons_zero, List.set_cons_succ]
        refine @wpAnyH_done _ _ _ _ _ _ _ _ (by kernel_rfl) ?_ _
        refine NoPanic.normal ?_
        go_wp2_with fail
        rw [HF.out]
        exact get_retR (R := w.heap.size) rfl rfl rfl (hLF.putIt (bare 0)) (below_setCells (Nat.le_refl _) _ _ _ hBF)
    subst hc
    by_cases hi : i < s.size
    case pos =>
      have HF := Lib.hid (show fin s a i 0 = (bare 0, 21) from by unfold fin; rw [if_neg (by omega), if_pos hi])
      have hi' : (i : Int) < s.size := by omega
      have M2 := Lib.hid (hcut.bad hIg 21)
      clear hi hcut
      go_wp2_with fail
      have hth : World.there (World.drew (wc.setCell ⟨w.heap.size + 1, 2, none⟩ (.int .i64 21))) w.heap.size 0 (itC (bare 0)).size := M2.out.2.2.1.there
      have hLF : Lies w.heap.size (itC (bare 0)) 29 (World.drew (wc.setCell ⟨w.heap.size + 1, 2, none⟩ (.int .i64 21))) := M2.out.2.2.1
      have hBF : Below w.heap.size w (World.drew (wc.setCell ⟨w.heap.size + 1, 2, none⟩ (.int .i64 21))) := below_drewOf M2.out.2.2.2
      have q2 : (World.drew (wc.setCell ⟨w.heap.size + 1, 2, none⟩ (.int .i64 21))).cell? ⟨w.heap.size + 1, 2, none⟩ = some (.int .i64 21) := M2.out.2.1.rd.c2
      refine wp_region_noPanic ?_
      refine wp_region_held_drew (S := fun w' => w'.cell? ⟨w.heap.size + 1, 2, none⟩ = some (.int .i64 21)) (by kernel_rfl) q2 (fun hHeld => ?_)
      refine @wpAnyH_take _ _ _ _ _ 0 ({ dst := some 114, op := Op.build 29 #[], type := 29, pos := "ref.go:131", after := #[], guard := none }) (itV (bare 0)) _ _ _ _ rfl (by kernel_rfl) (by kernel_rfl) (by kernel_rfl) (fun _ _ _ h => h) (Or.inl ⟨by rfl, ?y0⟩) (by assumption) ?_
      case y0 => intro w hSw; go_simp
      simp only [Act.put, List.setIfInBounds_toArray, List.set_cons_zero, List.set_cons_succ]
      refine @wpAnyH_take _ _ _ _ _ 1 ({ dst := some 115, op := Op.move (Operand.tmp 4), type := 52, pos := "ref.go:131", after := #[{ on := 5, ground := Ground.gcOnly Departure.lateStores }], guard := none }) (.pointer (some ⟨w.heap.size + 1, 0, none⟩)) _ _ _ _ rfl (by kernel_rfl) (by kernel_rfl) (by kernel_rfl) (fun _ _ _ h => h) (Or.inl ⟨by rfl, ?y1⟩) (by assumption) ?_
      case y1 => intro w hSw; go_simp
      simp only [Act.put, List.setIfInBounds_toArray, List.set_cons_zero, List.set_cons_succ]
      refine @wpAnyH_take _ _ _ _ _ 2 ({ dst := some 116, op := Op.nilCheck (Operand.tmp 115), type := 0, pos := "ref.go:131", after := #[{ on := 1, ground := Ground.data }, { on := 5, ground := Ground.gcOnly Departure.lateStores }], guard := none }) (.pointer (some ⟨w.heap.size + 1, 0, none⟩)) _ _ _ _ rfl (by kernel_rfl) (by kernel_rfl) (by kernel_rfl) (fun _ _ _ h => h) (Or.inl ⟨by rfl, ?y2⟩) (by assumption) ?_
      case y2 => intro w hSw; go_simp
      simp only [Act.put, List.setIfInBounds_toArray, List.set_cons_zero, List.set_cons_succ]
      refine @wpAnyH_take _ _ _ _ _ 3 ({ dst := some 117, op := Op.fieldAddr 54 (Operand.tmp 116) 2, type := 0, pos := "ref.go:131", after := #[{ on := 2, ground := Ground.data }, { on := 5, ground := Ground.gcOnly Departure.lateStores }], guard := none }) (.pointer (some ⟨w.heap.size + 1, 2, none⟩)) _ _ _ _ rfl (by kernel_rfl) (by kernel_rfl) (by kernel_rfl) (fun _ _ _ h => h) (Or.inl ⟨by rfl, ?y3⟩) (by assumption) ?_
      case y3 => intro w hSw; go_simp
      simp only [Act.put, List.setIfInBounds_toArray, List.set_cons_zero, List.set_cons_succ]
      refine @wpAnyH_take _ _ _ _ _ 4 ({ dst := some 118, op := Op.load 34 (Operand.tmp 117), type := 34, pos := "ref.go:131", after := #[{ on := 3, ground := Ground.data }, { on := 5, ground := Ground.gcOnly Departure.lateStores }], guard := none }) (.int .i64 21) _ _ _ _ rfl (by kernel_rfl) (by kernel_rfl) (by kernel_rfl) (fun _ _ _ h => h) (Or.inl ⟨by rfl, ?y4⟩) (by assumption) ?_
      case y4 => intro w hSw; go_simp
      simp only [Act.put, List.setIfInBounds_toArray, List.set_cons_zero, List.set_cons_succ]
      refine wpAnyH_ready (rs := [5]) (by kernel_rfl) (by simp) ?_
      refine AllReadyH.cons (o := { dst := none, op := Op.store 29 (Operand.tmp 2) (Operand.tmp 114), type := 0, pos := "ref.go:131", after := #[{ on := 0, ground := Ground.data }, { on := 0, ground := Ground.phase }, { on := 1, ground := Ground.textOnly Departure.lateStores }, { on := 2, ground := Ground.textOnly Departure.lateStores }, { on := 3, ground := Ground.textOnly Departure.lateStores }, { on := 4, ground := Ground.textOnly Departure.lateStores }], guard := none }) ?h1 ?h2 AllReadyH.nil
      case h1 => rfl
      case h2 =>
        intro K hK
        rw [if_pos (by rfl)]
        refine @wp_store_mid _ _ _ _ _ _ 29 (.tmp 2) (.tmp 114) rfl w.heap.size 0 (itC (bare 0)) rfl rfl hth info_it one_bare ?_
        refine hK.out _ _ ?_ (fun hHeld2 => ?_)
        · exact (World.cell?_setCells_out _ _ _ _ _ (by intro h; simp at h)).trans q2
        refine @wpAnyH_take _ _ _ _ _ 6 ({ dst := some 3, op := Op.assign (Operand.tmp 118), type := 34, pos := "ref.go:131", after := #[{ on := 4, ground := Ground.data }, { on := 5, ground := Ground.chain }, { on := 0, ground := Ground.phase }, { on := 1, ground := Ground.phase }, { on := 2, ground := Ground.phase }, { on := 3, ground := Ground.phase }, { on := 4, ground := Ground.phase }, { on := 5, ground := Ground.phase }], guard := none }) (.int .i64 21) _ _ _ _ rfl (by kernel_rfl) (by kernel_rfl) (by kernel_rfl) (fun _ _ _ h => h) (Or.inl ⟨by rfl, ?y6⟩) (by assumption) ?_
        case y6 => intro w hSw; go_simp
        simp only [Act.put, List.setIfInBounds_toArray, List.set_cons_zero, List.set_cons_succ]
        refine @wpAnyH_done _ _ _ _ _ _ _ _ (by kernel_rfl) ?_ _
        refine NoPanic.normal ?_
        go_wp2_with fail
        rw [HF.out]
        exact get_retR (R := w.heap.size) rfl rfl rfl (hLF.putIt (bare 0)) (below_setCells (Nat.le_refl _) _ _ _ hBF)
    by_cases hr : right a = true
    case neg =>
      have hr' : right a = false := by simpa using hr
      have HF := Lib.hid (show fin s a i 0 = (bare 0, 1) from by unfold fin; rw [if_neg (by omega), if_neg hi, if_neg hr])
      have hi' : ¬ (i : Int) < s.size := by omega
      have d0 := hcut.1.cell (j := 0) rfl; have d1 := hcut.1.cell (j := 1) rfl; have d2 := hcut.1.cell (j := 2) rfl; have d3 := hcut.1.cell (j := 3) rfl; have d4 := hcut.1.cell (j := 4) rfl; have d5 := hcut.1.cell (j := 5) rfl; have d6 := hcut.1.cell (j := 6) rfl; have d7 := hcut.1.cell (j := 7) rfl; have d8 := hcut.1.cell (j := 8) rfl; have d9 := hcut.1.cell (j := 9) rfl; have d10 := hcut.1.cell (j := 10) rfl
      have HR := Lib.hid (fun w => rfRight a w)
      have hz := hcut.2.2.2.size
      clear hi hr hcut
      go_wp2_with fail
      refine (HR.out _).mono ?_
      rintro e w9 ⟨rfl, hb9⟩
      have M3 := Lib.hid (M.out.below hb9 hz)
      have M4 := Lib.hid (M3.out.bad hIg 1)
      have p1 := M3.out.2.1.rd.c1; have p2 := M3.out.2.1.rd.c2; have o2 := M3.out.2.1.rd.free 2
      clear q1 q2 g2
      go_wp2_with fail
      have hth : World.there (World.drew (w9.setCell ⟨w.heap.size + 1, 2, none⟩ (.int .i64 1))) w.heap.size 0 (itC (bare 0)).size := M4.out.2.2.1.there
      have hLF : Lies w.heap.size (itC (bare 0)) 29 (World.drew (w9.setCell ⟨w.heap.size + 1, 2, none⟩ (.int .i64 1))) := M4.out.2.2.1
      have hBF : Below w.heap.size w (World.drew (w9.setCell ⟨w.heap.size + 1, 2, none⟩ (.int .i64 1))) := below_drewOf M4.out.2.2.2
      have q2 : (World.drew (w9.setCell ⟨w.heap.size + 1, 2, none⟩ (.int .i64 1))).cell? ⟨w.heap.size + 1, 2, none⟩ = some (.int .i64 1) := M4.out.2.1.rd.c2
      refine wp_region_noPanic ?_
      refine wp_region_held_drew (S := fun w' => w'.cell? ⟨w.heap.size + 1, 2, none⟩ = some (.int .i64 1)) (by kernel_rfl) q2 (fun hHeld => ?_)
      refine @wpAnyH_take _ _ _ _ _ 0 ({ dst := some 114, op := Op.build 29 #[], type := 29, pos := "ref.go:131", after := #[], guard := none }) (itV (bare 0)) _ _ _ _ rfl (by kernel_rfl) (by kernel_rfl) (by kernel_rfl) (fun _ _ _ h => h) (Or.inl ⟨by rfl, ?y0⟩) (by assumption) ?_
      case y0 => intro w hSw; go_simp
      simp only [Act.put, List.setIfInBounds_toArray, List.set_cons_zero, List.set_cons_succ]
      refine @wpAnyH_take _ _ _ _ _ 1 ({ dst := some 115, op := Op.move (Operand.tmp 4), type := 52, pos := "ref.go:131", after := #[{ on := 5, ground := Ground.gcOnly Departure.lateStores }], guard := none }) (.pointer (some ⟨w.heap.size + 1, 0, none⟩)) _ _ _ _ rfl (by kernel_rfl) (by kernel_rfl) (by kernel_rfl) (fun _ _ _ h => h) (Or.inl ⟨by rfl, ?y1⟩) (by assumption) ?_
      case y1 => intro w hSw; go_simp
      simp only [Act.put, List.setIfInBounds_toArray, List.set_cons_zero, List.set_cons_succ]
      refine @wpAnyH_take _ _ _ _ _ 2 ({ dst := some 116, op := Op.nilCheck (Operand.tmp 115), type := 0, pos := "ref.go:131", after := #[{ on := 1, ground := Ground.data }, { on := 5, ground := Ground.gcOnly Departure.lateStores }], guard := none }) (.pointer (some ⟨w.heap.size + 1, 0, none⟩)) _ _ _ _ rfl (by kernel_rfl) (by kernel_rfl) (by kernel_rfl) (fun _ _ _ h => h) (Or.inl ⟨by rfl, ?y2⟩) (by assumption) ?_
      case y2 => intro w hSw; go_simp
      simp only [Act.put, List.setIfInBounds_toArray, List.set_cons_zero, List.set_cons_succ]
      refine @wpAnyH_take _ _ _ _ _ 3 ({ dst := some 117, op := Op.fieldAddr 54 (Operand.tmp 116) 2, type := 0, pos := "ref.go:131", after := #[{ on := 2, ground := Ground.data }, { on := 5, ground := Ground.gcOnly Departure.lateStores }], guard := none }) (.pointer (some ⟨w.heap.size + 1, 2, none⟩)) _ _ _ _ rfl (by kernel_rfl) (by kernel_rfl) (by kernel_rfl) (fun _ _ _ h => h) (Or.inl ⟨by rfl, ?y3⟩) (by assumption) ?_
      case y3 => intro w hSw; go_simp
      simp only [Act.put, List.setIfInBounds_toArray, List.set_cons_zero, List.set_cons_succ]
      refine @wpAnyH_take _ _ _ _ _ 4 ({ dst := some 118, op := Op.load 34 (Operand.tmp 117), type := 34, pos := "ref.go:131", after := #[{ on := 3, ground := Ground.data }, { on := 5, ground := Ground.gcOnly Departure.lateStores }], guard := none }) (.int .i64 1) _ _ _ _ rfl (by kernel_rfl) (by kernel_rfl) (by kernel_rfl) (fun _ _ _ h => h) (Or.inl ⟨by rfl, ?y4⟩) (by assumption) ?_
      case y4 => intro w hSw; go_simp
      simp only [Act.put, List.setIfInBounds_toArray, List.set_cons_zero, List.set_cons_succ]
      refine wpAnyH_ready (rs := [5]) (by kernel_rfl) (by simp) ?_
      refine AllReadyH.cons (o := { dst := none, op := Op.store 29 (Operand.tmp 2) (Operand.tmp 114), type := 0, pos := "ref.go:131", after := #[{ on := 0, ground := Ground.data }, { on := 0, ground := Ground.phase }, { on := 1, ground := Ground.textOnly Departure.lateStores }, { on := 2, ground := Ground.textOnly Departure.lateStores }, { on := 3, ground := Ground.textOnly Departure.lateStores }, { on := 4, ground := Ground.textOnly Departure.lateStores }], guard := none }) ?h1 ?h2 AllReadyH.nil
      case h1 => rfl
      case h2 =>
        intro K hK
        rw [if_pos (by rfl)]
        refine @wp_store_mid _ _ _ _ _ _ 29 (.tmp 2) (.tmp 114) rfl w.heap.size 0 (itC (bare 0)) rfl rfl hth info_it one_bare ?_
        refine hK.out _ _ ?_ (fun hHeld2 => ?_)
        · exact (World.cell?_setCells_out _ _ _ _ _ (by intro h; simp at h)).trans q2
        refine @wpAnyH_take _ _ _ _ _ 6 ({ dst := some 3, op := Op.assign (Operand.tmp 118), type := 34, pos := "ref.go:131", after := #[{ on := 4, ground := Ground.data }, { on := 5, ground := Ground.chain }, { on := 0, ground := Ground.phase }, { on := 1, ground := Ground.phase }, { on := 2, ground := Ground.phase }, { on := 3, ground := Ground.phase }, { on := 4, ground := Ground.phase }, { on := 5, ground := Ground.phase }], guard := none }) (.int .i64 1) _ _ _ _ rfl (by kernel_rfl) (by kernel_rfl) (by kernel_rfl) (fun _ _ _ h => h) (Or.inl ⟨by rfl, ?y6⟩) (by assumption) ?_
        case y6 => intro w hSw; go_simp
        simp only [Act.put, List.setIfInBounds_toArray, List.set_cons_zero, List.set_cons_succ]
        refine @wpAnyH_done _ _ _ _ _ _ _ _ (by kernel_rfl) ?_ _
        refine NoPanic.normal ?_
        go_wp2_with fail
        rw [HF.out]
        exact get_retR (R := w.heap.size) rfl rfl rfl (hLF.putIt (bare 0)) (below_setCells (Nat.le_refl _) _ _ _ hBF)
    have HF := Lib.hid (show fin s a i 0 = (a, 0) from by unfold fin; rw [if_neg (by omega), if_neg hi, if_pos hr])
    have hi' : ¬ (i : Int) < s.size := by omega
    have d0 := hcut.1.cell (j := 0) rfl; have d1 := hcut.1.cell (j := 1) rfl; have d2 := hcut.1.cell (j := 2) rfl; have d3 := hcut.1.cell (j := 3) rfl; have d4 := hcut.1.cell (j := 4) rfl; have d5 := hcut.1.cell (j := 5) rfl; have d6 := hcut.1.cell (j := 6) rfl; have d7 := hcut.1.cell (j := 7) rfl; have d8 := hcut.1.cell (j := 8) rfl; have d9 := hcut.1.cell (j := 9) rfl; have d10 := hcut.1.cell (j := 10) rfl
    have HR := Lib.hid (fun w => rfRight a w)
    have hz := hcut.2.2.2.size
    clear hi hcut
    go_wp2_with fail
    refine (HR.out _).mono ?_
    rintro e w9 ⟨rfl, hb9⟩
    have M3 := Lib.hid (M.out.below hb9 hz)
    have p1 := M3.out.2.1.rd.c1; have p2 := M3.out.2.1.rd.c2; have o2 := M3.out.2.1.rd.free 2
    clear q1 q2 g2
    clear d0 d1 d2 d3 d4 d5 d6 d7 d8 d9 d10
    have d0 := M3.out.1.cell (j := 0) rfl; have d1 := M3.out.1.cell (j := 1) rfl; have d2 := M3.out.1.cell (j := 2) rfl; have d3 := M3.out.1.cell (j := 3) rfl; have d4 := M3.out.1.cell (j := 4) rfl; have d5 := M3.out.1.cell (j := 5) rfl; have d6 := M3.out.1.cell (j := 6) rfl; have d7 := M3.out.1.cell (j := 7) rfl; have d8 := M3.out.1.cell (j := 8) rfl; have d9 := M3.out.1.cell (j := 9) rfl; have d10 := M3.out.1.cell (j := 10) rfl
    have c0 := M3.out.2.2.1.cell (j := 0) rfl; have c1 := M3.out.2.2.1.cell (j := 1) rfl; have c2 := M3.out.2.2.1.cell (j := 2) rfl; have c3 := M3.out.2.2.1.cell (j := 3) rfl; have c4 := M3.out.2.2.1.cell (j := 4) rfl; have c5 := M3.out.2.2.1.cell (j := 5) rfl; have c6 := M3.out.2.2.1.cell (j := 6) rfl; have c7 := M3.out.2.2.1.cell (j := 7) rfl; have c8 := M3.out.2.2.1.cell (j := 8) rfl; have c9 := M3.out.2.2.1.cell (j := 9) rfl; have c10 := M3.out.2.2.1.cell (j := 10) rfl
    have f0 := M3.out.2.2.1.free 0; have f1 := M3.out.2.2.1.free 1; have f2 := M3.out.2.2.1.free 2; have f3 := M3.out.2.2.1.free 3; have f4 := M3.out.2.2.1.free 4; have f5 := M3.out.2.2.1.free 5; have f6 := M3.out.2.2.1.free 6; have f7 := M3.out.2.2.1.free 7; have f8 := M3.out.2.2.1.free 8; have f9 := M3.out.2.2.1.free 9; have f10 := M3.out.2.2.1.free 10
    go_wp2_with fail
    rw [HF.out]
    exact get_retR (R := w.heap.size) rfl rfl rfl (M3.out.2.2.1.set11 _ _ _ _ _ _ _ _ _ _ _ ) (below_set11 M3.out.2.2.2 (Nat.le_refl _) _ _ _ _ _ _ _ _ _ _ _ )
end Go.Proofs.Ythgafhinlchghaa
