/- ModTake, put together. -/
import Derived.Test.YtipmphkmeiogoaaZ25
import Derived.Deep.RegionHeld3
/- One event taken into the panes. -/
namespace Go.Proofs.Ytipmphkmeiogoaa
open Go.RowKit Go.Shelf Tick
set_option linter.unusedVariables false
set_option maxRecDepth 8000
namespace Mo
open Gen (TellsI TellsB lies_new1)
open Jo (Jb Ev Sr evIs srcOk insOk jbC jbV srV evL Srs)
open Pan (Pl Pn adds)
abbrev coC (j : Jb) (v : Value) (e : Int) : Array Value := #[.int .i64 j.groups, .int .i64 j.size, .int .i64 j.slide, .int .i64 j.fold, .int .i64 j.fuel, .int .i64 j.limit, .int .i64 j.delay, .int .i64 j.idle, v, .int .i64 e]
/-- The collector's block. -/
structure ColAt (D : Nat) (j : Jb) (ps : List Pn) (A : Option Addr) (c : Nat) (W : World) : Prop where
  lies : Lies D (coC j (.slice A ps.length c) 0) 67 W
  few : ps.length ≤ c
  cap : c ≤ maxLen
  row : Row W A (pc ps)
theorem ColAt.below {D : Nat} {j : Jb} {ps : List Pn} {A : Option Addr} {c : Nat} {W W' : World} (h : ColAt D j ps A c W) (hb : Below W.heap.size W W') : ColAt D j ps A c W' := ⟨h.lies.below hb, h.few, h.cap, h.row.below hb⟩
theorem ColAt.mine {D : Nat} {j : Jb} {ps : List Pn} {A : Option Addr} {c : Nat} {W W' : World} {M : Nat → Prop} (h : ColAt D j ps A c W) (hm : Gen.Mine M W W') (hD : ¬ M D) (hA : ∀ a, A = some a → ¬ M a.block) : ColAt D j ps A c W' :=
  ⟨hm.lies h.lies hD, h.few, h.cap, hm.row h.row hA⟩
theorem mine_set2 (D : Nat) (w : World) (v u : Value) : Gen.Mine (· = D) w ((w.setCell ⟨D, 8, none⟩ v).setCell ⟨D, 9, none⟩ u) :=
  (Gen.Mine.set (M := (· = D)) (a := ⟨D, 8, none⟩) w v rfl).trans (Gen.Mine.set (M := (· = D)) (a := ⟨D, 9, none⟩) _ u rfl)
theorem keepT {D E : Nat} {j : Jb} {e : Ev} {a b : World} (hb : Below a.heap.size a b) (h : a.cell? ⟨D, 0, none⟩ = some (.int .i64 j.groups) ∧ a.cell? ⟨D, 1, none⟩ = some (.int .i64 j.size) ∧ a.cell? ⟨D, 2, none⟩ = some (.int .i64 j.slide) ∧ a.cell? ⟨D, 3, none⟩ = some (.int .i64 j.fold) ∧ a.cell? ⟨D, 4, none⟩ = some (.int .i64 j.fuel) ∧ a.cell? ⟨D, 5, none⟩ = some (.int .i64 j.limit) ∧ a.cell? ⟨D, 6, none⟩ = some (.int .i64 j.delay) ∧ a.cell? ⟨D, 7, none⟩ = some (.int .i64 j.idle) ∧ a.cell? ⟨E, 0, none⟩ = some (.string e.key) ∧ a.cell? ⟨E, 1, none⟩ = some (.int .i64 e.at_) ∧ a.cell? ⟨E, 2, none⟩ = some (.int .i64 e.val)) : b.cell? ⟨D, 0, none⟩ = some (.int .i64 j.groups) ∧ b.cell? ⟨D, 1, none⟩ = some (.int .i64 j.size) ∧ b.cell? ⟨D, 2, none⟩ = some (.int .i64 j.slide) ∧ b.cell? ⟨D, 3, none⟩ = some (.int .i64 j.fold) ∧ b.cell? ⟨D, 4, none⟩ = some (.int .i64 j.fuel) ∧ b.cell? ⟨D, 5, none⟩ = some (.int .i64 j.limit) ∧ b.cell? ⟨D, 6, none⟩ = some (.int .i64 j.delay) ∧ b.cell? ⟨D, 7, none⟩ = some (.int .i64 j.idle) ∧ b.cell? ⟨E, 0, none⟩ = some (.string e.key) ∧ b.cell? ⟨E, 1, none⟩ = some (.int .i64 e.at_) ∧ b.cell? ⟨E, 2, none⟩ = some (.int .i64 e.val) := by
  obtain ⟨h0, h1, h2, h3, h4, h5, h6, h7, h8, h9, h10⟩ := h
  exact ⟨cell_below h0 hb, cell_below h1 hb, cell_below h2 hb, cell_below h3 hb, cell_below h4 hb, cell_below h5 hb, cell_below h6 hb, cell_below h7 hb, cell_below h8 hb, cell_below h9 hb, cell_below h10 hb⟩
theorem cell_same_other (w : World) (b o o' : Nat) (v : Value) (h : o ≠ o') : (w.setCell ⟨b, o', none⟩ v).cell? ⟨b, o, none⟩ = w.cell? ⟨b, o, none⟩ := World.cell?_setCell_other _ _ _ _ (by intro e; injection e with _ e2; exact h e2.symm)
theorem keepTs {D E : Nat} {j : Jb} {e : Ev} {a : World} {o : Nat} {v : Value} (ho : 8 ≤ o) (hE : E ≠ D) (h : a.cell? ⟨D, 0, none⟩ = some (.int .i64 j.groups) ∧ a.cell? ⟨D, 1, none⟩ = some (.int .i64 j.size) ∧ a.cell? ⟨D, 2, none⟩ = some (.int .i64 j.slide) ∧ a.cell? ⟨D, 3, none⟩ = some (.int .i64 j.fold) ∧ a.cell? ⟨D, 4, none⟩ = some (.int .i64 j.fuel) ∧ a.cell? ⟨D, 5, none⟩ = some (.int .i64 j.limit) ∧ a.cell? ⟨D, 6, none⟩ = some (.int .i64 j.delay) ∧ a.cell? ⟨D, 7, none⟩ = some (.int .i64 j.idle) ∧ a.cell? ⟨E, 0, none⟩ = some (.string e.key) ∧ a.cell? ⟨E, 1, none⟩ = some (.int .i64 e.at_) ∧ a.cell? ⟨E, 2, none⟩ = some (.int .i64 e.val)) : (a.setCell ⟨D, o, none⟩ v).cell? ⟨D, 0, none⟩ = some (.int .i64 j.groups) ∧ (a.setCell ⟨D, o, none⟩ v).cell? ⟨D, 1, none⟩ = some (.int .i64 j.size) ∧ (a.setCell ⟨D, o, none⟩ v).cell? ⟨D, 2, none⟩ = some (.int .i64 j.slide) ∧ (a.setCell ⟨D, o, none⟩ v).cell? ⟨D, 3, none⟩ = some (.int .i64 j.fold) ∧ (a.setCell ⟨D, o, none⟩ v).cell? ⟨D, 4, none⟩ = some (.int .i64 j.fuel) ∧ (a.setCell ⟨D, o, none⟩ v).cell? ⟨D, 5, none⟩ = some (.int .i64 j.limit) ∧ (a.setCell ⟨D, o, none⟩ v).cell? ⟨D, 6, none⟩ = some (.int .i64 j.delay) ∧ (a.setCell ⟨D, o, none⟩ v).cell? ⟨D, 7, none⟩ = some (.int .i64 j.idle) ∧ (a.setCell ⟨D, o, none⟩ v).cell? ⟨E, 0, none⟩ = some (.string e.key) ∧ (a.setCell ⟨D, o, none⟩ v).cell? ⟨E, 1, none⟩ = some (.int .i64 e.at_) ∧ (a.setCell ⟨D, o, none⟩ v).cell? ⟨E, 2, none⟩ = some (.int .i64 e.val) := by
  obtain ⟨h0, h1, h2, h3, h4, h5, h6, h7, h8, h9, h10⟩ := h
  have far : ∀ i u, a.cell? ⟨E, i, none⟩ = some u → (a.setCell ⟨D, o, none⟩ v).cell? ⟨E, i, none⟩ = some u := fun i u hu => by rw [World.cell?_setCell_far _ _ _ _ (by exact fun h => hE h.symm)]; exact hu
  have near : ∀ i u, i < 8 → a.cell? ⟨D, i, none⟩ = some u → (a.setCell ⟨D, o, none⟩ v).cell? ⟨D, i, none⟩ = some u := fun i u hi hu => by rw [cell_same_other _ _ _ _ _ (by omega)]; exact hu
  exact ⟨near 0 _ (by omega) h0, near 1 _ (by omega) h1, near 2 _ (by omega) h2, near 3 _ (by omega) h3, near 4 _ (by omega) h4, near 5 _ (by omega) h5, near 6 _ (by omega) h6, near 7 _ (by omega) h7, far _ _ h8, far _ _ h9, far _ _ h10⟩
set_option maxRecDepth 100000 in
set_option maxHeartbeats 600000 in
theorem mdTake (j : Jb) (hj : Jo.right j = true) (l : List Ev) (e : Ev) (hall : ∀ x ∈ l ++ [e], evIs x = true) (hl : l.length < 120) (D : Nat) (A : Option Addr) (c : Nat) (w : World) (hC : ColAt D j (panes j l) A c w) :
    Calls Try.prog 31 #[.pointer (some ⟨D, 0, none⟩), evV e] w fun r w' => r = .returned (.bool true) ∧ (∃ A' c', ColAt D j (panes j (l ++ [e])) A' c' w' ∧ ∀ a, A' = some a → w.heap.size ≤ a.block ∧ a.block < w'.heap.size) ∧ Gen.Mine (· = D) w w' := by
  have HPO := Lib.hid (fun w => mdPanesOf j hj e (hall e (by simp)) w)
  have hp := panes_push hj hall hl
  have HR1 := panes_right hj (l := l) (fun x hx => hall x (by simp [hx])) (by omega)
  have HR2 := panes_right hj (l := [e]) (fun x hx => hall x (by simp at hx; simp [hx])) (by simp)
  obtain ⟨ps, hps⟩ : ∃ ps, ps = panes j l := ⟨_, rfl⟩
  obtain ⟨qs, hqs⟩ : ∃ qs, qs = panes j [e] := ⟨_, rfl⟩
  obtain ⟨zs, hzs⟩ : ∃ zs, zs = panes j (l ++ [e]) := ⟨_, rfl⟩
  rw [← hps] at hp HR1 hC
  rw [← hqs] at hp HR2 HPO
  rw [← hzs] at hp ⊢
  have HMG : Hid (∀ (A2 : Option Addr) (c2 : Nat) w', Row w' A (pc ps) → Row w' A2 (pc qs) → Calls Try.prog 50 #[.int .i64 j.fold, .slice A ps.length c, .slice A2 qs.length c2] w' (GivesPN (zs, 0) w')) := Lib.hid fun A2 c2 w' h1 h2 =>
    hp ▸ paMerge_okN j.fold ps qs A A2 c c2 w' h1 h2 hC.few (by have := hC.cap; unfold maxLen at this; omega) HR1 HR2 (Pan.isK_true (fold_ok hj))
  clear hp HR1 HR2 hps hqs hzs hj hall hl
  have hb0 := below_al (o := .cells (evC e) 45) (Below.refl w.heap.size w)
  have hD := lt_of_block hC.lies
  have C1 := Lib.hid (hC.below hb0)
  have E1 := Lib.hid (Lies.new w (evC e) 45)
  have B1 := Lib.hid hb0
  clear hC hb0
  go_enter Try.func31, Try.ntmps31
  go_wp2_with fail
  obtain ⟨w1, hw1⟩ : ∃ w1, w1 = w.alloc (.cells (evC e) 45) := ⟨_, rfl⟩
  rw [← hw1] at C1 E1 B1 ⊢
  clear hw1
  have x0 := C1.out.lies.cell (j := 0) rfl; have x1 := C1.out.lies.cell (j := 1) rfl; have x2 := C1.out.lies.cell (j := 2) rfl; have x3 := C1.out.lies.cell (j := 3) rfl; have x4 := C1.out.lies.cell (j := 4) rfl; have x5 := C1.out.lies.cell (j := 5) rfl; have x6 := C1.out.lies.cell (j := 6) rfl; have x7 := C1.out.lies.cell (j := 7) rfl; have x8 := C1.out.lies.cell (j := 8) rfl
  have y0 := E1.out.cell (j := 0) rfl; have y1 := E1.out.cell (j := 1) rfl; have y2 := E1.out.cell (j := 2) rfl
  have C1 : Hid (ColAt D j ps A c w1.drew) := Lib.hid ⟨C1.out.lies, C1.out.few, C1.out.cap, C1.out.row⟩
  have B1 : Hid (Below w.heap.size w w1.drew) := Lib.hid (below_drewOf B1.out)
  obtain ⟨E, hE⟩ : ∃ E, E = w.heap.size := ⟨_, rfl⟩
  rw [← hE] at y0 y1 y2
  have hDE : E ≠ D := by omega
  rw [← hE]
  have S0 : w1.drew.cell? ⟨D, 0, none⟩ = some (.int .i64 j.groups) ∧ w1.drew.cell? ⟨D, 1, none⟩ = some (.int .i64 j.size) ∧ w1.drew.cell? ⟨D, 2, none⟩ = some (.int .i64 j.slide) ∧ w1.drew.cell? ⟨D, 3, none⟩ = some (.int .i64 j.fold) ∧ w1.drew.cell? ⟨D, 4, none⟩ = some (.int .i64 j.fuel) ∧ w1.drew.cell? ⟨D, 5, none⟩ = some (.int .i64 j.limit) ∧ w1.drew.cell? ⟨D, 6, none⟩ = some (.int .i64 j.delay) ∧ w1.drew.cell? ⟨D, 7, none⟩ = some (.int .i64 j.idle) ∧ w1.drew.cell? ⟨E, 0, none⟩ = some (.string e.key) ∧ w1.drew.cell? ⟨E, 1, none⟩ = some (.int .i64 e.at_) ∧ w1.drew.cell? ⟨E, 2, none⟩ = some (.int .i64 e.val) := ⟨x0, x1, x2, x3, x4, x5, x6, x7, y0, y1, y2⟩
  have HE := Lib.hid hE
  clear hE
  refine wp_region_held_drew (S := fun w' => w'.cell? ⟨D, 0, none⟩ = some (.int .i64 j.groups) ∧ w'.cell? ⟨D, 1, none⟩ = some (.int .i64 j.size) ∧ w'.cell? ⟨D, 2, none⟩ = some (.int .i64 j.slide) ∧ w'.cell? ⟨D, 3, none⟩ = some (.int .i64 j.fold) ∧ w'.cell? ⟨D, 4, none⟩ = some (.int .i64 j.fuel) ∧ w'.cell? ⟨D, 5, none⟩ = some (.int .i64 j.limit) ∧ w'.cell? ⟨D, 6, none⟩ = some (.int .i64 j.delay) ∧ w'.cell? ⟨D, 7, none⟩ = some (.int .i64 j.idle) ∧ w'.cell? ⟨E, 0, none⟩ = some (.string e.key) ∧ w'.cell? ⟨E, 1, none⟩ = some (.int .i64 e.at_) ∧ w'.cell? ⟨E, 2, none⟩ = some (.int .i64 e.val)) (by kernel_rfl) S0 (fun hHeld => ?_)
  refine wpAnyH_take (i := 0) (oi := { dst := some 6, op := Op.move (Operand.tmp 0), type := 89, pos := "model.go:90", after := #[], guard := none }) (v := ?v1) rfl (by kernel_rfl) (by kernel_rfl) (by kernel_rfl) (fun _ _ _ h => h) (Or.inl ⟨by rfl, ?y1⟩) (by assumption) ?r1
  case y1 => (intro w9 hSw; (try dsimp only at hSw); go_simp; (try with_reducible rfl))
  simp only [Act.put, List.setIfInBounds_toArray, List.set_cons_zero, List.set_cons_succ]
  refine wpAnyH_take (i := 1) (oi := { dst := some 7, op := Op.move (Operand.tmp 0), type := 89, pos := "model.go:90", after := #[{ on := 23, ground := Ground.gcOnly Departure.lateStores }], guard := none }) (v := ?v2) rfl (by kernel_rfl) (by kernel_rfl) (by kernel_rfl) (fun _ _ _ h => h) (Or.inl ⟨by rfl, ?y2⟩) (by assumption) ?r2
  case y2 => (intro w9 hSw; (try dsimp only at hSw); go_simp; (try with_reducible rfl))
  simp only [Act.put, List.setIfInBounds_toArray, List.set_cons_zero, List.set_cons_succ]
  refine wpAnyH_take (i := 2) (oi := { dst := some 8, op := Op.move (Operand.tmp 0), type := 89, pos := "model.go:90", after := #[], guard := none }) (v := ?v3) rfl (by kernel_rfl) (by kernel_rfl) (by kernel_rfl) (fun _ _ _ h => h) (Or.inl ⟨by rfl, ?y3⟩) (by assumption) ?r3
  case y3 => (intro w9 hSw; (try dsimp only at hSw); go_simp; (try with_reducible rfl))
  simp only [Act.put, List.setIfInBounds_toArray, List.set_cons_zero, List.set_cons_succ]
  refine wpAnyH_take (i := 3) (oi := { dst := some 9, op := Op.nilCheck (Operand.tmp 8), type := 0, pos := "model.go:90", after := #[{ on := 2, ground := Ground.data }], guard := none }) (v := ?v4) rfl (by kernel_rfl) (by kernel_rfl) (by kernel_rfl) (fun _ _ _ h => h) (Or.inl ⟨by rfl, ?y4⟩) (by assumption) ?r4
  case y4 => (intro w9 hSw; (try dsimp only at hSw); go_simp; (try with_reducible rfl))
  simp only [Act.put, List.setIfInBounds_toArray, List.set_cons_zero, List.set_cons_succ]
  refine wpAnyH_take (i := 4) (oi := { dst := some 10, op := Op.fieldAddr 67 (Operand.tmp 9) 0, type := 0, pos := "model.go:90", after := #[{ on := 3, ground := Ground.data }], guard := none }) (v := ?v5) rfl (by kernel_rfl) (by kernel_rfl) (by kernel_rfl) (fun _ _ _ h => h) (Or.inl ⟨by rfl, ?y5⟩) (by assumption) ?r5
  case y5 => (intro w9 hSw; (try dsimp only at hSw); go_simp; (try with_reducible rfl))
  simp only [Act.put, List.setIfInBounds_toArray, List.set_cons_zero, List.set_cons_succ]
  refine wpAnyH_take (i := 5) (oi := { dst := some 11, op := Op.fieldAddr 23 (Operand.tmp 10) 3, type := 0, pos := "model.go:90", after := #[{ on := 4, ground := Ground.data }], guard := none }) (v := ?v6) rfl (by kernel_rfl) (by kernel_rfl) (by kernel_rfl) (fun _ _ _ h => h) (Or.inl ⟨by rfl, ?y6⟩) (by assumption) ?r6
  case y6 => (intro w9 hSw; (try dsimp only at hSw); go_simp; (try with_reducible rfl))
  simp only [Act.put, List.setIfInBounds_toArray, List.set_cons_zero, List.set_cons_succ]
  refine wpAnyH_take (i := 6) (oi := { dst := some 12, op := Op.load 3 (Operand.tmp 11), type := 3, pos := "model.go:90", after := #[{ on := 5, ground := Ground.data }], guard := none }) (v := ?v7) rfl (by kernel_rfl) (by kernel_rfl) (by kernel_rfl) (fun _ _ _ h => h) (Or.inl ⟨by rfl, ?y7⟩) (by assumption) ?r7
  case y7 => (intro w9 hSw; (try dsimp only at hSw); go_simp; (try with_reducible rfl))
  simp only [Act.put, List.setIfInBounds_toArray, List.set_cons_zero, List.set_cons_succ]
  refine wpAnyH_take (i := 7) (oi := { dst := some 13, op := Op.move (Operand.tmp 0), type := 89, pos := "model.go:90", after := #[], guard := none }) (v := ?v8) rfl (by kernel_rfl) (by kernel_rfl) (by kernel_rfl) (fun _ _ _ h => h) (Or.inl ⟨by rfl, ?y8⟩) (by assumption) ?r8
  case y8 => (intro w9 hSw; (try dsimp only at hSw); go_simp; (try with_reducible rfl))
  simp only [Act.put, List.setIfInBounds_toArray, List.set_cons_zero, List.set_cons_succ]
  refine wpAnyH_take (i := 8) (oi := { dst := some 14, op := Op.nilCheck (Operand.tmp 13), type := 0, pos := "model.go:90", after := #[{ on := 7, ground := Ground.data }], guard := none }) (v := ?v9) rfl (by kernel_rfl) (by kernel_rfl) (by kernel_rfl) (fun _ _ _ h => h) (Or.inl ⟨by rfl, ?y9⟩) (by assumption) ?r9
  case y9 => (intro w9 hSw; (try dsimp only at hSw); go_simp; (try with_reducible rfl))
  simp only [Act.put, List.setIfInBounds_toArray, List.set_cons_zero, List.set_cons_succ]
  refine wpAnyH_take (i := 9) (oi := { dst := some 15, op := Op.fieldAddr 67 (Operand.tmp 14) 1, type := 0, pos := "model.go:90", after := #[{ on := 8, ground := Ground.data }], guard := none }) (v := ?v10) rfl (by kernel_rfl) (by kernel_rfl) (by kernel_rfl) (fun _ _ _ h => h) (Or.inl ⟨by rfl, ?y10⟩) (by assumption) ?r10
  case y10 => (intro w9 hSw; (try dsimp only at hSw); go_simp; (try with_reducible rfl))
  simp only [Act.put, List.setIfInBounds_toArray, List.set_cons_zero, List.set_cons_succ]
  refine wpAnyH_take (i := 11) (oi := { dst := some 17, op := Op.move (Operand.tmp 0), type := 89, pos := "model.go:90", after := #[], guard := none }) (v := ?v11) rfl (by kernel_rfl) (by kernel_rfl) (by kernel_rfl) (fun _ _ _ h => h) (Or.inl ⟨by rfl, ?y11⟩) (by assumption) ?r11
  case y11 => (intro w9 hSw; (try dsimp only at hSw); go_simp; (try with_reducible rfl))
  simp only [Act.put, List.setIfInBounds_toArray, List.set_cons_zero, List.set_cons_succ]
  refine wpAnyH_take (i := 12) (oi := { dst := some 18, op := Op.nilCheck (Operand.tmp 17), type := 0, pos := "model.go:90", after := #[{ on := 11, ground := Ground.data }], guard := none }) (v := ?v12) rfl (by kernel_rfl) (by kernel_rfl) (by kernel_rfl) (fun _ _ _ h => h) (Or.inl ⟨by rfl, ?y12⟩) (by assumption) ?r12
  case y12 => (intro w9 hSw; (try dsimp only at hSw); go_simp; (try with_reducible rfl))
  simp only [Act.put, List.setIfInBounds_toArray, List.set_cons_zero, List.set_cons_succ]
  refine wpAnyH_take (i := 13) (oi := { dst := some 19, op := Op.fieldAddr 67 (Operand.tmp 18) 0, type := 0, pos := "model.go:90", after := #[{ on := 12, ground := Ground.data }], guard := none }) (v := ?v13) rfl (by kernel_rfl) (by kernel_rfl) (by kernel_rfl) (fun _ _ _ h => h) (Or.inl ⟨by rfl, ?y13⟩) (by assumption) ?r13
  case y13 => (intro w9 hSw; (try dsimp only at hSw); go_simp; (try with_reducible rfl))
  simp only [Act.put, List.setIfInBounds_toArray, List.set_cons_zero, List.set_cons_succ]
  refine wpAnyH_take (i := 14) (oi := { dst := some 20, op := Op.load 23 (Operand.tmp 19), type := 23, pos := "model.go:90", after := #[{ on := 13, ground := Ground.data }], guard := none }) (v := ?v14) rfl (by kernel_rfl) (by kernel_rfl) (by kernel_rfl) (fun _ _ _ h => h) (Or.inl ⟨by rfl, ?y14⟩) (by assumption) ?r14
  case y14 => (intro w9 hSw; (try dsimp only at hSw); go_simp; (try with_reducible rfl))
  simp only [Act.put, List.setIfInBounds_toArray, List.set_cons_zero, List.set_cons_succ]
  refine wpAnyH_take (i := 15) (oi := { dst := some 21, op := Op.load 45 (Operand.tmp 3), type := 45, pos := "model.go:90", after := #[], guard := none }) (v := ?v15) rfl (by kernel_rfl) (by kernel_rfl) (by kernel_rfl) (fun _ _ _ h => h) (Or.inl ⟨by rfl, ?y15⟩) (by assumption) ?r15
  case y15 => (intro w9 hSw; (try dsimp only at hSw); go_simp; (try with_reducible rfl))
  simp only [Act.put, List.setIfInBounds_toArray, List.set_cons_zero, List.set_cons_succ]
  refine wpAnyH_ready (rs := [10, 16]) (by kernel_rfl) (by simp) ?_
  refine AllReadyH.cons (o := { dst := some 16, op := Op.load 65 (Operand.tmp 15), type := 65, pos := "model.go:90", after := #[{ on := 9, ground := Ground.data }], guard := none }) rfl (fun K hK => ?_) ?_
  · go_simp
    refine hK.out _ _ (S0) (fun hHeld => ?_)
    clear hK K
    (try simp only [Act.put, List.setIfInBounds_toArray, List.set_cons_zero, List.set_cons_succ])
    refine wpAnyH_ready (rs := [16]) (by kernel_rfl) (by simp) ?_
    refine AllReadyH.cons (o := { dst := some 22, op := Op.call { callee := Callee.value (Operand.func 51), args := #[Operand.tmp 20, Operand.tmp 21], argTypes := #[23, 45] }, type := 65, pos := "model.go:90", after := #[{ on := 14, ground := Ground.data }, { on := 15, ground := Ground.data }], guard := none }) rfl (fun K hK => ?_) ?_
    · go_simp
      refine (HPO.out _).mono ?_
      rintro e5 w5 ⟨A5, c5, rfl, q1, q2, q3, hb5⟩
      have C5 := Lib.hid (C1.out.below hb5)
      have R5 := Lib.hid q3
      have B5 := Lib.hid (below_next B1.out hb5)
      have S5 := keepT hb5 S0
      have z8 := C5.out.lies.cell (j := 8) rfl
      clear q3
      go_wp2_with fail
      refine hK.out _ _ (S5) (fun hHeld => ?_)
      clear hK K
      (try simp only [Act.put, List.setIfInBounds_toArray, List.set_cons_zero, List.set_cons_succ])
      refine wpAnyH_ready (rs := [17]) (by kernel_rfl) (by simp) ?_
      refine AllReadyH.cons (o := { dst := some 23, op := Op.call { callee := Callee.value (Operand.func 50), args := #[Operand.tmp 12, Operand.tmp 16, Operand.tmp 22], argTypes := #[3, 65, 65] }, type := 83, pos := "model.go:90", after := #[{ on := 6, ground := Ground.data }, { on := 10, ground := Ground.data }, { on := 16, ground := Ground.data }, { on := 16, ground := Ground.chain }], guard := none }) rfl (fun K hK => ?_) ?_
      · go_simp
        refine (HMG.out _ _ _ C5.out.row R5.out).mono ?_
        rintro e6 w6 ⟨A6, c6, rfl, p1, p2, p3, hb6, p4⟩
        have C6 := Lib.hid (C5.out.below hb6)
        have R6 := Lib.hid p3
        have P6 : Hid (∀ a, A6 = some a → w.heap.size ≤ a.block ∧ a.block < w6.heap.size) := Lib.hid (fun a ha => ⟨Nat.le_trans B5.out.size (p4 a ha).1, (p4 a ha).2⟩)
        have B6 := Lib.hid (below_next B5.out hb6)
        have S6 := keepT hb6 S5
        have f8 := C6.out.lies.free 8
        have f9 := C6.out.lies.free 9
        have e8 := C6.out.lies.cell (j := 8) rfl
        have e9 := C6.out.lies.cell (j := 9) rfl
        clear p3 p4
        go_wp2_with fail
        refine hK.out _ _ (S6) (fun hHeld => ?_)
        clear hK K
        (try simp only [Act.put, List.setIfInBounds_toArray, List.set_cons_zero, List.set_cons_succ])
        refine wpAnyH_take (i := 18) (oi := { dst := some 5, op := Op.move (Operand.tmp 23), type := 83, pos := "model.go:90", after := #[{ on := 17, ground := Ground.data }], guard := none }) (v := ?v16) rfl (by kernel_rfl) (by kernel_rfl) (by kernel_rfl) (fun _ _ _ h => h) (Or.inl ⟨by rfl, ?y16⟩) (by assumption) ?r16
        case y16 => (intro w9 hSw; (try dsimp only at hSw); go_simp; (try with_reducible rfl))
        simp only [Act.put, List.setIfInBounds_toArray, List.set_cons_zero, List.set_cons_succ]
        refine wpAnyH_take (i := 19) (oi := { dst := some 24, op := Op.extract (Operand.tmp 5) 0, type := 65, pos := "model.go:90", after := #[{ on := 18, ground := Ground.data }], guard := none }) (v := ?v17) rfl (by kernel_rfl) (by kernel_rfl) (by kernel_rfl) (fun _ _ _ h => h) (Or.inl ⟨by rfl, ?y17⟩) (by assumption) ?r17
        case y17 => (intro w9 hSw; (try dsimp only at hSw); go_simp; (try with_reducible rfl))
        simp only [Act.put, List.setIfInBounds_toArray, List.set_cons_zero, List.set_cons_succ]
        refine wpAnyH_take (i := 20) (oi := { dst := some 25, op := Op.extract (Operand.tmp 5) 1, type := 25, pos := "model.go:90", after := #[{ on := 18, ground := Ground.data }, { on := 23, ground := Ground.gcOnly Departure.lateStores }], guard := none }) (v := ?v18) rfl (by kernel_rfl) (by kernel_rfl) (by kernel_rfl) (fun _ _ _ h => h) (Or.inl ⟨by rfl, ?y18⟩) (by assumption) ?r18
        case y18 => (intro w9 hSw; (try dsimp only at hSw); go_simp; (try with_reducible rfl))
        simp only [Act.put, List.setIfInBounds_toArray, List.set_cons_zero, List.set_cons_succ]
        refine wpAnyH_take (i := 21) (oi := { dst := some 26, op := Op.nilCheck (Operand.tmp 6), type := 0, pos := "model.go:90", after := #[{ on := 0, ground := Ground.data }, { on := 0, ground := Ground.phase }, { on := 1, ground := Ground.textOnly Departure.lateStores }, { on := 2, ground := Ground.phase }, { on := 3, ground := Ground.phase }, { on := 4, ground := Ground.phase }, { on := 5, ground := Ground.phase }, { on := 6, ground := Ground.phase }, { on := 7, ground := Ground.phase }, { on := 8, ground := Ground.phase }, { on := 9, ground := Ground.phase }, { on := 10, ground := Ground.phase }, { on := 11, ground := Ground.phase }, { on := 12, ground := Ground.phase }, { on := 13, ground := Ground.phase }, { on := 14, ground := Ground.phase }, { on := 15, ground := Ground.phase }, { on := 16, ground := Ground.phase }, { on := 17, ground := Ground.phase }, { on := 18, ground := Ground.phase }, { on := 19, ground := Ground.phase }, { on := 20, ground := Ground.textOnly Departure.lateStores }], guard := none }) (v := ?v19) rfl (by kernel_rfl) (by kernel_rfl) (by kernel_rfl) (fun _ _ _ h => h) (Or.inl ⟨by rfl, ?y19⟩) (by assumption) ?r19
        case y19 => (intro w9 hSw; (try dsimp only at hSw); go_simp; (try with_reducible rfl))
        simp only [Act.put, List.setIfInBounds_toArray, List.set_cons_zero, List.set_cons_succ]
        refine wpAnyH_take (i := 22) (oi := { dst := some 27, op := Op.fieldAddr 67 (Operand.tmp 26) 1, type := 0, pos := "model.go:90", after := #[{ on := 21, ground := Ground.data }, { on := 0, ground := Ground.phase }, { on := 1, ground := Ground.textOnly Departure.lateStores }, { on := 2, ground := Ground.phase }, { on := 3, ground := Ground.phase }, { on := 4, ground := Ground.phase }, { on := 5, ground := Ground.phase }, { on := 6, ground := Ground.phase }, { on := 7, ground := Ground.phase }, { on := 8, ground := Ground.phase }, { on := 9, ground := Ground.phase }, { on := 10, ground := Ground.phase }, { on := 11, ground := Ground.phase }, { on := 12, ground := Ground.phase }, { on := 13, ground := Ground.phase }, { on := 14, ground := Ground.phase }, { on := 15, ground := Ground.phase }, { on := 16, ground := Ground.phase }, { on := 17, ground := Ground.phase }, { on := 18, ground := Ground.phase }, { on := 19, ground := Ground.phase }, { on := 20, ground := Ground.textOnly Departure.lateStores }], guard := none }) (v := ?v20) rfl (by kernel_rfl) (by kernel_rfl) (by kernel_rfl) (fun _ _ _ h => h) (Or.inl ⟨by rfl, ?y20⟩) (by assumption) ?r20
        case y20 => (intro w9 hSw; (try dsimp only at hSw); go_simp; (try with_reducible rfl))
        simp only [Act.put, List.setIfInBounds_toArray, List.set_cons_zero, List.set_cons_succ]
        refine wpAnyH_ready (rs := [23]) (by kernel_rfl) (by simp) ?_
        refine AllReadyH.cons (o := { dst := none, op := Op.store 65 (Operand.tmp 27) (Operand.tmp 24), type := 0, pos := "model.go:90", after := #[{ on := 22, ground := Ground.data }, { on := 19, ground := Ground.data }, { on := 17, ground := Ground.chain }, { on := 0, ground := Ground.phase }, { on := 1, ground := Ground.textOnly Departure.lateStores }, { on := 2, ground := Ground.phase }, { on := 3, ground := Ground.phase }, { on := 4, ground := Ground.phase }, { on := 5, ground := Ground.phase }, { on := 6, ground := Ground.phase }, { on := 7, ground := Ground.phase }, { on := 8, ground := Ground.phase }, { on := 9, ground := Ground.phase }, { on := 10, ground := Ground.phase }, { on := 11, ground := Ground.phase }, { on := 12, ground := Ground.phase }, { on := 13, ground := Ground.phase }, { on := 14, ground := Ground.phase }, { on := 15, ground := Ground.phase }, { on := 16, ground := Ground.phase }, { on := 17, ground := Ground.phase }, { on := 18, ground := Ground.phase }, { on := 19, ground := Ground.phase }, { on := 20, ground := Ground.textOnly Departure.lateStores }], guard := none }) rfl (fun K hK => ?_) ?_
        · go_simp
          refine hK.out _ _ (keepTs (by omega) hDE S6) (fun hHeld => ?_)
          clear hK K
          (try simp only [Act.put, List.setIfInBounds_toArray, List.set_cons_zero, List.set_cons_succ])
          refine wpAnyH_take (i := 24) (oi := { dst := some 28, op := Op.nilCheck (Operand.tmp 7), type := 0, pos := "model.go:90", after := #[{ on := 1, ground := Ground.data }, { on := 0, ground := Ground.phase }, { on := 1, ground := Ground.phase }, { on := 2, ground := Ground.phase }, { on := 3, ground := Ground.phase }, { on := 4, ground := Ground.phase }, { on := 5, ground := Ground.phase }, { on := 6, ground := Ground.phase }, { on := 7, ground := Ground.phase }, { on := 8, ground := Ground.phase }, { on := 9, ground := Ground.phase }, { on := 10, ground := Ground.phase }, { on := 11, ground := Ground.phase }, { on := 12, ground := Ground.phase }, { on := 13, ground := Ground.phase }, { on := 14, ground := Ground.phase }, { on := 15, ground := Ground.phase }, { on := 16, ground := Ground.phase }, { on := 17, ground := Ground.phase }, { on := 18, ground := Ground.phase }, { on := 19, ground := Ground.phase }, { on := 20, ground := Ground.phase }, { on := 21, ground := Ground.phase }, { on := 22, ground := Ground.phase }, { on := 23, ground := Ground.phase }], guard := none }) (v := ?v21) rfl (by kernel_rfl) (by kernel_rfl) (by kernel_rfl) (fun _ _ _ h => h) (Or.inl ⟨by rfl, ?y21⟩) (by assumption) ?r21
          case y21 => (intro w9 hSw; (try dsimp only at hSw); go_simp; (try with_reducible rfl))
          simp only [Act.put, List.setIfInBounds_toArray, List.set_cons_zero, List.set_cons_succ]
          refine wpAnyH_take (i := 25) (oi := { dst := some 29, op := Op.fieldAddr 67 (Operand.tmp 28) 2, type := 0, pos := "model.go:90", after := #[{ on := 24, ground := Ground.data }, { on := 0, ground := Ground.phase }, { on := 1, ground := Ground.phase }, { on := 2, ground := Ground.phase }, { on := 3, ground := Ground.phase }, { on := 4, ground := Ground.phase }, { on := 5, ground := Ground.phase }, { on := 6, ground := Ground.phase }, { on := 7, ground := Ground.phase }, { on := 8, ground := Ground.phase }, { on := 9, ground := Ground.phase }, { on := 10, ground := Ground.phase }, { on := 11, ground := Ground.phase }, { on := 12, ground := Ground.phase }, { on := 13, ground := Ground.phase }, { on := 14, ground := Ground.phase }, { on := 15, ground := Ground.phase }, { on := 16, ground := Ground.phase }, { on := 17, ground := Ground.phase }, { on := 18, ground := Ground.phase }, { on := 19, ground := Ground.phase }, { on := 20, ground := Ground.phase }, { on := 21, ground := Ground.phase }, { on := 22, ground := Ground.phase }, { on := 23, ground := Ground.phase }], guard := none }) (v := ?v22) rfl (by kernel_rfl) (by kernel_rfl) (by kernel_rfl) (fun _ _ _ h => h) (Or.inl ⟨by rfl, ?y22⟩) (by assumption) ?r22
          case y22 => (intro w9 hSw; (try dsimp only at hSw); go_simp; (try with_reducible rfl))
          simp only [Act.put, List.setIfInBounds_toArray, List.set_cons_zero, List.set_cons_succ]
          refine wpAnyH_ready (rs := [26]) (by kernel_rfl) (by simp) ?_
          refine AllReadyH.cons (o := { dst := none, op := Op.store 25 (Operand.tmp 29) (Operand.tmp 25), type := 0, pos := "model.go:90", after := #[{ on := 25, ground := Ground.data }, { on := 20, ground := Ground.data }, { on := 23, ground := Ground.chain }, { on := 0, ground := Ground.phase }, { on := 1, ground := Ground.phase }, { on := 2, ground := Ground.phase }, { on := 3, ground := Ground.phase }, { on := 4, ground := Ground.phase }, { on := 5, ground := Ground.phase }, { on := 6, ground := Ground.phase }, { on := 7, ground := Ground.phase }, { on := 8, ground := Ground.phase }, { on := 9, ground := Ground.phase }, { on := 10, ground := Ground.phase }, { on := 11, ground := Ground.phase }, { on := 12, ground := Ground.phase }, { on := 13, ground := Ground.phase }, { on := 14, ground := Ground.phase }, { on := 15, ground := Ground.phase }, { on := 16, ground := Ground.phase }, { on := 17, ground := Ground.phase }, { on := 18, ground := Ground.phase }, { on := 19, ground := Ground.phase }, { on := 20, ground := Ground.phase }, { on := 21, ground := Ground.phase }, { on := 22, ground := Ground.phase }, { on := 23, ground := Ground.phase }], guard := none }) rfl (fun K hK => ?_) ?_
          · go_simp
            refine hK.out _ _ (keepTs (by omega) hDE (keepTs (by omega) hDE S6)) (fun hHeld => ?_)
            clear hK K
            (try simp only [Act.put, List.setIfInBounds_toArray, List.set_cons_zero, List.set_cons_succ])
            refine wpAnyH_done (by kernel_rfl) ?_ _
            obtain ⟨w8, hw8⟩ : ∃ w8, w8 = (w6.setCell ⟨D, 8, none⟩ (.slice A6 zs.length c6)).setCell ⟨D, 9, none⟩ (.int .i64 0) := ⟨_, rfl⟩
            have L8 : Hid (Lies D (coC j (.slice A6 zs.length c6) 0) 67 w8) := Lib.hid (by rw [hw8]; have h := (C6.out.lies.set 8 (.slice A6 zs.length c6)).set 9 (.int .i64 0); simpa using h)
            have M8 : Hid (Gen.Mine (· = D) w w8) := Lib.hid (by rw [hw8]; exact (Gen.Mine.up B6.out).trans (mine_set2 D w6 _ _))
            have R8 : Hid (Row w8 A6 (pc zs)) := Lib.hid (by
              have hm : Gen.Mine (· = D) w6 w8 := by rw [hw8]; exact mine_set2 D w6 _ _
              exact hm.row R6.out fun a ha e => by have := (P6.out a ha).1; omega)
            have Z8 : Hid (w8.heap.size = w6.heap.size) := Lib.hid (by rw [hw8]; simp)
            rw [← hw8]
            have g9 := L8.out.cell (j := 9) rfl
            clear hw8 hHeld S6 f8 f9 e8 e9 S5 S0 z8
            go_wp2_with fail
            go_ret
            exact ⟨rfl, ⟨A6, c6, ⟨L8.out, p1, p2, R8.out⟩, fun a ha => ⟨(P6.out a ha).1, by rw [Z8.out]; exact (P6.out a ha).2⟩⟩, M8.out⟩
          exact AllReadyH.nil
        exact AllReadyH.nil
      exact AllReadyH.nil
    exact AllReadyH.nil
  refine AllReadyH.cons (o := { dst := some 22, op := Op.call { callee := Callee.value (Operand.func 51), args := #[Operand.tmp 20, Operand.tmp 21], argTypes := #[23, 45] }, type := 65, pos := "model.go:90", after := #[{ on := 14, ground := Ground.data }, { on := 15, ground := Ground.data }], guard := none }) rfl (fun K hK => ?_) ?_
  · go_simp
    refine (HPO.out _).mono ?_
    rintro e5 w5 ⟨A5, c5, rfl, q1, q2, q3, hb5⟩
    have C5 := Lib.hid (C1.out.below hb5)
    have R5 := Lib.hid q3
    have B5 := Lib.hid (below_next B1.out hb5)
    have S5 := keepT hb5 S0
    have z8 := C5.out.lies.cell (j := 8) rfl
    clear q3
    go_wp2_with fail
    refine hK.out _ _ (S5) (fun hHeld => ?_)
    clear hK K
    (try simp only [Act.put, List.setIfInBounds_toArray, List.set_cons_zero, List.set_cons_succ])
    refine wpAnyH_ready (rs := [10]) (by kernel_rfl) (by simp) ?_
    refine AllReadyH.cons (o := { dst := some 16, op := Op.load 65 (Operand.tmp 15), type := 65, pos := "model.go:90", after := #[{ on := 9, ground := Ground.data }], guard := none }) rfl (fun K hK => ?_) ?_
    · go_simp
      refine hK.out _ _ (S5) (fun hHeld => ?_)
      clear hK K
      (try simp only [Act.put, List.setIfInBounds_toArray, List.set_cons_zero, List.set_cons_succ])
      refine wpAnyH_ready (rs := [17]) (by kernel_rfl) (by simp) ?_
      refine AllReadyH.cons (o := { dst := some 23, op := Op.call { callee := Callee.value (Operand.func 50), args := #[Operand.tmp 12, Operand.tmp 16, Operand.tmp 22], argTypes := #[3, 65, 65] }, type := 83, pos := "model.go:90", after := #[{ on := 6, ground := Ground.data }, { on := 10, ground := Ground.data }, { on := 16, ground := Ground.data }, { on := 16, ground := Ground.chain }], guard := none }) rfl (fun K hK => ?_) ?_
      · go_simp
        refine (HMG.out _ _ _ C5.out.row R5.out).mono ?_
        rintro e6 w6 ⟨A6, c6, rfl, p1, p2, p3, hb6, p4⟩
        have C6 := Lib.hid (C5.out.below hb6)
        have R6 := Lib.hid p3
        have P6 : Hid (∀ a, A6 = some a → w.heap.size ≤ a.block ∧ a.block < w6.heap.size) := Lib.hid (fun a ha => ⟨Nat.le_trans B5.out.size (p4 a ha).1, (p4 a ha).2⟩)
        have B6 := Lib.hid (below_next B5.out hb6)
        have S6 := keepT hb6 S5
        have f8 := C6.out.lies.free 8
        have f9 := C6.out.lies.free 9
        have e8 := C6.out.lies.cell (j := 8) rfl
        have e9 := C6.out.lies.cell (j := 9) rfl
        clear p3 p4
        go_wp2_with fail
        refine hK.out _ _ (S6) (fun hHeld => ?_)
        clear hK K
        (try simp only [Act.put, List.setIfInBounds_toArray, List.set_cons_zero, List.set_cons_succ])
        refine wpAnyH_take (i := 18) (oi := { dst := some 5, op := Op.move (Operand.tmp 23), type := 83, pos := "model.go:90", after := #[{ on := 17, ground := Ground.data }], guard := none }) (v := ?v23) rfl (by kernel_rfl) (by kernel_rfl) (by kernel_rfl) (fun _ _ _ h => h) (Or.inl ⟨by rfl, ?y23⟩) (by assumption) ?r23
        case y23 => (intro w9 hSw; (try dsimp only at hSw); go_simp; (try with_reducible rfl))
        simp only [Act.put, List.setIfInBounds_toArray, List.set_cons_zero, List.set_cons_succ]
        refine wpAnyH_take (i := 19) (oi := { dst := some 24, op := Op.extract (Operand.tmp 5) 0, type := 65, pos := "model.go:90", after := #[{ on := 18, ground := Ground.data }], guard := none }) (v := ?v24) rfl (by kernel_rfl) (by kernel_rfl) (by kernel_rfl) (fun _ _ _ h => h) (Or.inl ⟨by rfl, ?y24⟩) (by assumption) ?r24
        case y24 => (intro w9 hSw; (try dsimp only at hSw); go_simp; (try with_reducible rfl))
        simp only [Act.put, List.setIfInBounds_toArray, List.set_cons_zero, List.set_cons_succ]
        refine wpAnyH_take (i := 20) (oi := { dst := some 25, op := Op.extract (Operand.tmp 5) 1, type := 25, pos := "model.go:90", after := #[{ on := 18, ground := Ground.data }, { on := 23, ground := Ground.gcOnly Departure.lateStores }], guard := none }) (v := ?v25) rfl (by kernel_rfl) (by kernel_rfl) (by kernel_rfl) (fun _ _ _ h => h) (Or.inl ⟨by rfl, ?y25⟩) (by assumption) ?r25
        case y25 => (intro w9 hSw; (try dsimp only at hSw); go_simp; (try with_reducible rfl))
        simp only [Act.put, List.setIfInBounds_toArray, List.set_cons_zero, List.set_cons_succ]
        refine wpAnyH_take (i := 21) (oi := { dst := some 26, op := Op.nilCheck (Operand.tmp 6), type := 0, pos := "model.go:90", after := #[{ on := 0, ground := Ground.data }, { on := 0, ground := Ground.phase }, { on := 1, ground := Ground.textOnly Departure.lateStores }, { on := 2, ground := Ground.phase }, { on := 3, ground := Ground.phase }, { on := 4, ground := Ground.phase }, { on := 5, ground := Ground.phase }, { on := 6, ground := Ground.phase }, { on := 7, ground := Ground.phase }, { on := 8, ground := Ground.phase }, { on := 9, ground := Ground.phase }, { on := 10, ground := Ground.phase }, { on := 11, ground := Ground.phase }, { on := 12, ground := Ground.phase }, { on := 13, ground := Ground.phase }, { on := 14, ground := Ground.phase }, { on := 15, ground := Ground.phase }, { on := 16, ground := Ground.phase }, { on := 17, ground := Ground.phase }, { on := 18, ground := Ground.phase }, { on := 19, ground := Ground.phase }, { on := 20, ground := Ground.textOnly Departure.lateStores }], guard := none }) (v := ?v26) rfl (by kernel_rfl) (by kernel_rfl) (by kernel_rfl) (fun _ _ _ h => h) (Or.inl ⟨by rfl, ?y26⟩) (by assumption) ?r26
        case y26 => (intro w9 hSw; (try dsimp only at hSw); go_simp; (try with_reducible rfl))
        simp only [Act.put, List.setIfInBounds_toArray, List.set_cons_zero, List.set_cons_succ]
        refine wpAnyH_take (i := 22) (oi := { dst := some 27, op := Op.fieldAddr 67 (Operand.tmp 26) 1, type := 0, pos := "model.go:90", after := #[{ on := 21, ground := Ground.data }, { on := 0, ground := Ground.phase }, { on := 1, ground := Ground.textOnly Departure.lateStores }, { on := 2, ground := Ground.phase }, { on := 3, ground := Ground.phase }, { on := 4, ground := Ground.phase }, { on := 5, ground := Ground.phase }, { on := 6, ground := Ground.phase }, { on := 7, ground := Ground.phase }, { on := 8, ground := Ground.phase }, { on := 9, ground := Ground.phase }, { on := 10, ground := Ground.phase }, { on := 11, ground := Ground.phase }, { on := 12, ground := Ground.phase }, { on := 13, ground := Ground.phase }, { on := 14, ground := Ground.phase }, { on := 15, ground := Ground.phase }, { on := 16, ground := Ground.phase }, { on := 17, ground := Ground.phase }, { on := 18, ground := Ground.phase }, { on := 19, ground := Ground.phase }, { on := 20, ground := Ground.textOnly Departure.lateStores }], guard := none }) (v := ?v27) rfl (by kernel_rfl) (by kernel_rfl) (by kernel_rfl) (fun _ _ _ h => h) (Or.inl ⟨by rfl, ?y27⟩) (by assumption) ?r27
        case y27 => (intro w9 hSw; (try dsimp only at hSw); go_simp; (try with_reducible rfl))
        simp only [Act.put, List.setIfInBounds_toArray, List.set_cons_zero, List.set_cons_succ]
        refine wpAnyH_ready (rs := [23]) (by kernel_rfl) (by simp) ?_
        refine AllReadyH.cons (o := { dst := none, op := Op.store 65 (Operand.tmp 27) (Operand.tmp 24), type := 0, pos := "model.go:90", after := #[{ on := 22, ground := Ground.data }, { on := 19, ground := Ground.data }, { on := 17, ground := Ground.chain }, { on := 0, ground := Ground.phase }, { on := 1, ground := Ground.textOnly Departure.lateStores }, { on := 2, ground := Ground.phase }, { on := 3, ground := Ground.phase }, { on := 4, ground := Ground.phase }, { on := 5, ground := Ground.phase }, { on := 6, ground := Ground.phase }, { on := 7, ground := Ground.phase }, { on := 8, ground := Ground.phase }, { on := 9, ground := Ground.phase }, { on := 10, ground := Ground.phase }, { on := 11, ground := Ground.phase }, { on := 12, ground := Ground.phase }, { on := 13, ground := Ground.phase }, { on := 14, ground := Ground.phase }, { on := 15, ground := Ground.phase }, { on := 16, ground := Ground.phase }, { on := 17, ground := Ground.phase }, { on := 18, ground := Ground.phase }, { on := 19, ground := Ground.phase }, { on := 20, ground := Ground.textOnly Departure.lateStores }], guard := none }) rfl (fun K hK => ?_) ?_
        · go_simp
          refine hK.out _ _ (keepTs (by omega) hDE S6) (fun hHeld => ?_)
          clear hK K
          (try simp only [Act.put, List.setIfInBounds_toArray, List.set_cons_zero, List.set_cons_succ])
          refine wpAnyH_take (i := 24) (oi := { dst := some 28, op := Op.nilCheck (Operand.tmp 7), type := 0, pos := "model.go:90", after := #[{ on := 1, ground := Ground.data }, { on := 0, ground := Ground.phase }, { on := 1, ground := Ground.phase }, { on := 2, ground := Ground.phase }, { on := 3, ground := Ground.phase }, { on := 4, ground := Ground.phase }, { on := 5, ground := Ground.phase }, { on := 6, ground := Ground.phase }, { on := 7, ground := Ground.phase }, { on := 8, ground := Ground.phase }, { on := 9, ground := Ground.phase }, { on := 10, ground := Ground.phase }, { on := 11, ground := Ground.phase }, { on := 12, ground := Ground.phase }, { on := 13, ground := Ground.phase }, { on := 14, ground := Ground.phase }, { on := 15, ground := Ground.phase }, { on := 16, ground := Ground.phase }, { on := 17, ground := Ground.phase }, { on := 18, ground := Ground.phase }, { on := 19, ground := Ground.phase }, { on := 20, ground := Ground.phase }, { on := 21, ground := Ground.phase }, { on := 22, ground := Ground.phase }, { on := 23, ground := Ground.phase }], guard := none }) (v := ?v28) rfl (by kernel_rfl) (by kernel_rfl) (by kernel_rfl) (fun _ _ _ h => h) (Or.inl ⟨by rfl, ?y28⟩) (by assumption) ?r28
          case y28 => (intro w9 hSw; (try dsimp only at hSw); go_simp; (try with_reducible rfl))
          simp only [Act.put, List.setIfInBounds_toArray, List.set_cons_zero, List.set_cons_succ]
          refine wpAnyH_take (i := 25) (oi := { dst := some 29, op := Op.fieldAddr 67 (Operand.tmp 28) 2, type := 0, pos := "model.go:90", after := #[{ on := 24, ground := Ground.data }, { on := 0, ground := Ground.phase }, { on := 1, ground := Ground.phase }, { on := 2, ground := Ground.phase }, { on := 3, ground := Ground.phase }, { on := 4, ground := Ground.phase }, { on := 5, ground := Ground.phase }, { on := 6, ground := Ground.phase }, { on := 7, ground := Ground.phase }, { on := 8, ground := Ground.phase }, { on := 9, ground := Ground.phase }, { on := 10, ground := Ground.phase }, { on := 11, ground := Ground.phase }, { on := 12, ground := Ground.phase }, { on := 13, ground := Ground.phase }, { on := 14, ground := Ground.phase }, { on := 15, ground := Ground.phase }, { on := 16, ground := Ground.phase }, { on := 17, ground := Ground.phase }, { on := 18, ground := Ground.phase }, { on := 19, ground := Ground.phase }, { on := 20, ground := Ground.phase }, { on := 21, ground := Ground.phase }, { on := 22, ground := Ground.phase }, { on := 23, ground := Ground.phase }], guard := none }) (v := ?v29) rfl (by kernel_rfl) (by kernel_rfl) (by kernel_rfl) (fun _ _ _ h => h) (Or.inl ⟨by rfl, ?y29⟩) (by assumption) ?r29
          case y29 => (intro w9 hSw; (try dsimp only at hSw); go_simp; (try with_reducible rfl))
          simp only [Act.put, List.setIfInBounds_toArray, List.set_cons_zero, List.set_cons_succ]
          refine wpAnyH_ready (rs := [26]) (by kernel_rfl) (by simp) ?_
          refine AllReadyH.cons (o := { dst := none, op := Op.store 25 (Operand.tmp 29) (Operand.tmp 25), type := 0, pos := "model.go:90", after := #[{ on := 25, ground := Ground.data }, { on := 20, ground := Ground.data }, { on := 23, ground := Ground.chain }, { on := 0, ground := Ground.phase }, { on := 1, ground := Ground.phase }, { on := 2, ground := Ground.phase }, { on := 3, ground := Ground.phase }, { on := 4, ground := Ground.phase }, { on := 5, ground := Ground.phase }, { on := 6, ground := Ground.phase }, { on := 7, ground := Ground.phase }, { on := 8, ground := Ground.phase }, { on := 9, ground := Ground.phase }, { on := 10, ground := Ground.phase }, { on := 11, ground := Ground.phase }, { on := 12, ground := Ground.phase }, { on := 13, ground := Ground.phase }, { on := 14, ground := Ground.phase }, { on := 15, ground := Ground.phase }, { on := 16, ground := Ground.phase }, { on := 17, ground := Ground.phase }, { on := 18, ground := Ground.phase }, { on := 19, ground := Ground.phase }, { on := 20, ground := Ground.phase }, { on := 21, ground := Ground.phase }, { on := 22, ground := Ground.phase }, { on := 23, ground := Ground.phase }], guard := none }) rfl (fun K hK => ?_) ?_
          · go_simp
            refine hK.out _ _ (keepTs (by omega) hDE (keepTs (by omega) hDE S6)) (fun hHeld => ?_)
            clear hK K
            (try simp only [Act.put, List.setIfInBounds_toArray, List.set_cons_zero, List.set_cons_succ])
            refine wpAnyH_done (by kernel_rfl) ?_ _
            obtain ⟨w8, hw8⟩ : ∃ w8, w8 = (w6.setCell ⟨D, 8, none⟩ (.slice A6 zs.length c6)).setCell ⟨D, 9, none⟩ (.int .i64 0) := ⟨_, rfl⟩
            have L8 : Hid (Lies D (coC j (.slice A6 zs.length c6) 0) 67 w8) := Lib.hid (by rw [hw8]; have h := (C6.out.lies.set 8 (.slice A6 zs.length c6)).set 9 (.int .i64 0); simpa using h)
            have M8 : Hid (Gen.Mine (· = D) w w8) := Lib.hid (by rw [hw8]; exact (Gen.Mine.up B6.out).trans (mine_set2 D w6 _ _))
            have R8 : Hid (Row w8 A6 (pc zs)) := Lib.hid (by
              have hm : Gen.Mine (· = D) w6 w8 := by rw [hw8]; exact mine_set2 D w6 _ _
              exact hm.row R6.out fun a ha e => by have := (P6.out a ha).1; omega)
            have Z8 : Hid (w8.heap.size = w6.heap.size) := Lib.hid (by rw [hw8]; simp)
            rw [← hw8]
            have g9 := L8.out.cell (j := 9) rfl
            clear hw8 hHeld S6 f8 f9 e8 e9 S5 S0 z8
            go_wp2_with fail
            go_ret
            exact ⟨rfl, ⟨A6, c6, ⟨L8.out, p1, p2, R8.out⟩, fun a ha => ⟨(P6.out a ha).1, by rw [Z8.out]; exact (P6.out a ha).2⟩⟩, M8.out⟩
          exact AllReadyH.nil
        exact AllReadyH.nil
      exact AllReadyH.nil
    exact AllReadyH.nil
  exact AllReadyH.nil
end Mo
end Go.Proofs.Ytipmphkmeiogoaa
