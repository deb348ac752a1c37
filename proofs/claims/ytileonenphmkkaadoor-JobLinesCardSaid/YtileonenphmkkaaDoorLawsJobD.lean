/- The walk of the law JobLines. -/
import Derived.Test.YtileonenphmkkaaDoorJobLaw
import Derived.Test.YtileonenphmkkaaDoorJobParse
import Derived.Test.YtileonenphmkkaaDoorJobPrint
import Derived.Test.YtileonenphmkkaaDoorJobRef
import Derived.Test.YtileonenphmkkaaDoorJobPush
import Derived.Test.YtileonenphmkkaaDoorWays
namespace Go.Proofs.YtileonenphmkkaaDoor
open Go.ChangeShapes Go.WideShapes Go.ChangeAt Go.RowKit
set_option linter.unusedVariables false
set_option linter.unusedSimpArgs false
set_option maxRecDepth 8000
namespace Jo
open Gen
theorem keepD {w x : World} {o : Obj} (h : Below w.heap.size w x.drew) : Below w.heap.size w (x.alloc o).drew := below_next h (below_al (b := x.drew) (o := o) (Below.refl _ _))
theorem joinB {w0 w6 : World} {v : Value} {ms : List (List UInt8)} {cut : List UInt8} (h : BuiltS w0 w6 v ms) (hl : ms.length = 6) (hcut : ms.flatten = cut) (hz : cut.length ≤ 1000) :
    ∃ g c, v = .slice (some ⟨g, 0, none⟩) 6 c ∧ ∀ w', Below w6.heap.size w6 w' → Calls Tryd.prog 16 #[.slice (some ⟨g, 0, none⟩) 6 c, strv []] w' (GivesS cut w') := by
  obtain ⟨g, c, rfl, h1, h2, h3, h4⟩ := h.form (by intro e; rw [e] at hl; cases hl)
  subst hcut
  refine ⟨g, c, by rw [hl], fun w' hb => ?_⟩
  have q := jJoin0 g c ms w' (fun j x hx => (hb.cell (lt_of_cell (h2 j x hx))).trans (h2 j x hx)) (Nat.lt_of_lt_of_le h4 hb.size) (by omega) h1 (by omega)
  rw [hl] at q
  exact q
/-- The zero job of a variable that was made ahead of a call. -/
structure Zt (w0 : World) (n : Nat) (v : Value) (X : World) : Prop where
  lies : Lies n (jbC zJ) 23 X
  ne : ∀ q, v.ownBlock = some q → q ≠ n
  lo : w0.heap.size ≤ n
abbrev jO : Obj := .cells #[.int .i64 0, .int .i64 0, .int .i64 0, .int .i64 0, .int .i64 0, .int .i64 0, .int .i64 0, .int .i64 0] 23
abbrev eO : Obj := .cells #[] 9
theorem Zt.next {w0 X Y : World} {n : Nat} {v : Value} (h : Zt w0 n v X) (hb : Below X.heap.size X Y) : Zt w0 n v Y := ⟨(hb.block _ (lt_of_block h.lies)).trans h.lies, h.ne, h.lo⟩
theorem Zt.push {w0 X Y : World} {n : Nat} {v v' : Value} (h : Zt w0 n v X) (g : X.grownBy Y v.ownBlock) (l : v'.ownBlock = v.ownBlock ∨ v'.ownBlock = some X.heap.size) : Zt w0 n v' Y :=
  ⟨(g.block n (lt_of_block h.lies) fun e => h.ne n e.symm rfl).trans h.lies, (fun q hq => by
    rcases l with e | e
    · exact h.ne q (e ▸ hq)
    · rw [e] at hq
      have h1 := Option.some.inj hq
      have h2 := lt_of_block h.lies
      omega), h.lo⟩
theorem bE {Y : World} : BuiltS Y (Y.alloc eO).drew (.slice (some ⟨Y.heap.size, 0, none⟩) 0 0) [] := (BuiltS.new (Below.refl _ _) rfl).up (below_drewOf (Below.refl _ _))
theorem bJE {Y : World} : BuiltS Y ((Y.alloc jO).alloc eO).drew (.slice (some ⟨Y.heap.size + 1, 0, none⟩) 0 0) [] := (BuiltS.new (below_al (Below.refl _ _)) (by rw [World.size_alloc])).up (below_drewOf (Below.refl _ _))
theorem bEJ {Y : World} : BuiltS Y ((Y.alloc eO).alloc jO).drew (.slice (some ⟨Y.heap.size, 0, none⟩) 0 0) [] := ((BuiltS.new (Below.refl _ _) rfl).al _).up (below_drewOf (Below.refl _ _))
theorem zNew {w0 Y w5 : World} (h0 : Below w0.heap.size w0 Y) (hb : Below (Y.alloc jO).heap.size (Y.alloc jO) w5) : Zt w0 Y.heap.size (.bool true) w5 :=
  Zt.next ⟨Lies.new Y _ _, (fun q hq => by cases hq), h0.size⟩ hb
theorem zC {w0 Y w5 : World} {v v' : Value} {ms : List (List UInt8)} (hB : BuiltS w0 Y v ms) (g : (Y.alloc jO).grownBy w5 v.ownBlock) (l : v'.ownBlock = v.ownBlock ∨ v'.ownBlock = some (Y.alloc jO).heap.size) : Zt w0 Y.heap.size v' w5 :=
  Zt.push ⟨Lies.new Y _ _, fun q hq => by have := (hB.far hq).2; omega, hB.below.size⟩ g l
theorem zA {Y w5 : World} {v' : Value} (g : ((Y.alloc jO).alloc eO).drew.grownBy w5 (Value.slice (some ⟨Y.heap.size + 1, 0, none⟩) 0 0).ownBlock) (l : v'.ownBlock = (Value.slice (some ⟨Y.heap.size + 1, 0, none⟩) 0 0).ownBlock ∨ v'.ownBlock = some ((Y.alloc jO).alloc eO).drew.heap.size) : Zt Y Y.heap.size v' w5 :=
  Zt.push (X := ((Y.alloc jO).alloc eO).drew) ⟨(Lies.new Y _ _).al.drew, fun q hq => by have h : Y.heap.size + 1 = q := Option.some.inj hq; omega, Nat.le_refl _⟩ g l
theorem zB {Y w5 : World} {v' : Value} (g : ((Y.alloc eO).alloc jO).drew.grownBy w5 (Value.slice (some ⟨Y.heap.size, 0, none⟩) 0 0).ownBlock) (l : v'.ownBlock = (Value.slice (some ⟨Y.heap.size, 0, none⟩) 0 0).ownBlock ∨ v'.ownBlock = some ((Y.alloc eO).alloc jO).drew.heap.size) : Zt Y (Y.heap.size + 1) v' w5 :=
  Zt.push (X := ((Y.alloc eO).alloc jO).drew) ⟨(by have h := Lies.new (Y.alloc eO) (jbC zJ) 23; rw [World.size_alloc] at h; exact h.drew), fun q hq => by have h : Y.heap.size = q := Option.some.inj hq; omega, Nat.le_succ _⟩ g l
theorem below_set {w X : World} {n i : Nat} {v : Value} (h : Below w.heap.size w X) (hn : w.heap.size ≤ n) : Below w.heap.size w (X.setCell ⟨n, i, none⟩ v) :=
  Mine.below (M := (· = n)) h (Mine.set _ (a := ⟨n, i, none⟩) _ rfl) (fun k hk => by subst hk; exact hn) h.size
theorem tmod_loJ {x d : Int} (h : 0 < d) : -d < x.tmod d := by
  have h3 : (-x).tmod d < d := Int.tmod_lt_of_pos (-x) h
  rw [Int.neg_tmod] at h3
  omega
theorem anyW {P : Program} {md : Region.Mode} {ops : Array Oper} {Q : Exit → Act → World → Prop} {S : World → Prop} {n : Nat} {l : Array Bool} {a : Act} {w : World} (hS : S w) (h : ∀ X, S X → wpAnyH P md ops Q S n l a X) : wpAnyH P md ops Q S n l a w := h w hS
def ptJ (z : Bool) (g : Nat) : Value := bif z then .pointer (some ⟨g, 0, none⟩) else undef
/-- Which operations of the region have come up, behind the plain ones. -/
def lstJ (p : Nat) (z : Bool) : Array Bool := #[decide (1 ≤ p), true, true, true, decide (2 ≤ p), true, true, true, true, decide (3 ≤ p), decide (4 ≤ p), decide (5 ≤ p), false, false, false, false, z, false, false, false]
theorem zAl {w0 Y : World} {v : Value} {ms : List (List UInt8)} (hB : BuiltS w0 Y v ms) : Zt w0 Y.heap.size v (Y.alloc jO) :=
  ⟨Lies.new Y _ _, fun q hq => by have := (hB.far hq).2; omega, hB.below.size⟩
theorem zAl0 {w0 Y : World} (h : Below w0.heap.size w0 Y) : Zt w0 Y.heap.size (.bool true) (Y.alloc jO) :=
  ⟨Lies.new Y _ _, fun q hq => by (cases hq), h.size⟩
theorem Zt.free0 {w0 X : World} {n : Nat} {v : Value} (h : Zt w0 n v X) : Zt w0 n (.bool true) X := ⟨h.lies, fun q hq => by (cases hq), h.lo⟩
/-- A block made behind it is another one. -/
theorem Zt.empty {w0 X : World} {n : Nat} {v : Value} (h : Zt w0 n v X) (o : Obj) : Zt w0 n (.slice (some ⟨X.heap.size, 0, none⟩) 0 0) (X.alloc o) :=
  ⟨h.lies.al, fun q hq => by have h1 : X.heap.size = q := Option.some.inj hq; have h2 := lt_of_block h.lies; omega, h.lo⟩
set_option maxHeartbeats 1000000 in
theorem walkLinesC (j : Jb) (k0 : Int) (t more cut tm : List UInt8) (Ls : List (List UInt8)) (k : Nat) (em km : Int) (jm : Jb) (w : World) (hw : Vr w)
    (HP : Hid (∀ w, Tb w → Calls Tryd.prog 8 #[jbV j] w (fun e w' => e = .returned (.tuple #[strv t, .int .i64 0]) ∧ Below w.heap.size w w')))
    (HS : Hid (∀ w, Calls Tryd.prog 15 #[strv t, strv [10]] w fun e w' => e = .returned (.slice (some ⟨w.heap.size, 0, none⟩) 7 7) ∧ w' = w.alloc (.cells (ss (Ls ++ [[]])).toArray 9)))
    (HC : Hid (∀ w, Vr w → Calls Tryd.prog 12 #[strv cut] w (fun e w' => e = .returned (.tuple #[jbV zJ, .int .i64 131, .int .i64 ((k : Int) + 1)]) ∧ Below w.heap.size w w')))
    (HM : Hid (∀ w, Vr w → Calls Tryd.prog 12 #[strv tm] w (fun e w' => e = .returned (.tuple #[jbV jm, .int .i64 em, .int .i64 km]) ∧ Below w.heap.size w w')))
    (hadd : ∀ w, (Op.stringOp .add (⟨t.toArray⟩ : ByteArray) (⟨more.toArray⟩ : ByteArray)).run Tryd.prog w = .ok (strv tm) w)
    (h6 : Ls.length = 6) (hk : k ≤ 5) (hm : more.length ≤ 100) (hkk : (k0.tmod 6 + 6).tmod 6 = (k : Int)) (hcut : (Ls.take k ++ Ls.drop (k + 1)).flatten = cut) (hcl : cut.length ≤ 1000)
    (hend : (more = [] ∧ em = 0) ∨ (more ≠ [] ∧ em = 131 ∧ km = 7)) :
    Calls Tryd.prog 7 #[jbV j, .int .i64 k0, strv more] w (TellsB true w) := by
  have HW := Lib.hid hw
  have B0 := Lib.hid (below_al (o := .cells (jbC j) 23) (Below.refl w.heap.size w))
  have g1 : ¬ (100 : Int) < (more.length : Int) := by omega
  obtain ⟨q, hq⟩ : ∃ q, k0.tmod 6 = q := ⟨_, rfl⟩
  have q1 : -6 < q := hq ▸ tmod_loJ (by omega)
  have q2 : q < 6 := hq ▸ Int.tmod_lt_of_pos _ (by omega)
  rw [hq] at hkk
  have e1 : IntKind.i64.wrap q = q := by simp [IntKind.wrap, IntKind.bits, IntKind.signed]; omega
  have e2 : IntKind.i64.wrap (q + 6) = q + 6 := by simp [IntKind.wrap, IntKind.bits, IntKind.signed]; omega
  have e3 : IntKind.i64.wrap (k : Int) = k := by simp [IntKind.wrap, IntKind.bits, IntKind.signed]; omega
  have e4 : (q + 6) % 6 = (k : Int) := by rw [← Int.tmod_eq_emod_of_nonneg (by omega)]; exact hkk
  have CC := Lib.hid (show (ss (Ls ++ [[]])).toArray[6]? = some (strv []) from by
    rw [List.getElem?_toArray, List.getElem?_map, List.getElem?_append_right (by omega), h6]; rfl)
  have E6 := Lib.hid h6
  have EK := Lib.hid hk
  have ECut := Lib.hid hcut
  have EL := Lib.hid hcl
  have EE := Lib.hid hend
  obtain ⟨C, hC⟩ : ∃ C, C = (ss (Ls ++ [[]])).toArray := ⟨_, rfl⟩
  have ECC := Lib.hid hC
  rw [← hC] at HS CC
  clear hw hm h6 hk hcut hcl hend hC
  go_enter Tryd.func7, Tryd.ntmps7
  go_wp2_with fail
  refine (HP.out _ (HW.out.next B0.out).tab).mono ?_
  rintro e w1 ⟨rfl, hb1⟩
  have B1 := Lib.hid (below_next B0.out hb1)
  clear hb1
  go_wp2_with fail
  refine (HS.out _).mono ?_
  rintro e w2 ⟨rfl, h2⟩
  have L2 := Lib.hid (show Lies w1.heap.size C 9 w2 from h2 ▸ Lies.new w1 _ _)
  have B2 := Lib.hid (show Below w.heap.size w w2 from h2 ▸ below_al B1.out)
  have x6 := L2.out.cell (j := 6) CC.out
  obtain ⟨b, hb⟩ : ∃ b, b = w1.heap.size := ⟨_, rfl⟩
  rw [← hb] at L2 x6 ⊢
  clear h2 hb
  go_wp2_with fail
  have VX := Lib.hid (show ∀ X, Below w2.heap.size w2 X → Vr X from fun X hb => HW.out.next (below_next B2.out hb))
  have C0 := Lib.hid (show ∀ X, Below w2.heap.size w2 X → ∀ j u, (ss (Ls.take k))[j]? = some u → X.cell? ((⟨b, 0, none⟩ : Addr).add j) = some u from fun X hb j u hu => by
    rw [Go.WideShapes.add_plain, Nat.zero_add]
    have h1 : (ss (Ls ++ [[]]))[j]? = some u := by
      have h2 : (ss (Ls.take k)) = (ss Ls).take k := List.map_take ..
      rw [h2, List.getElem?_take] at hu
      split at hu
      · have h3 : ss (Ls ++ [[]]) = ss Ls ++ ss [[]] := List.map_append ..
        rw [h3, List.getElem?_append_left (by rw [List.length_map, E6.out]; have := EK.out; omega)]
        exact hu
      · cases hu
    have h2 := L2.out.cell (j := j) (by rw [ECC.out, List.getElem?_toArray]; exact h1)
    exact (hb.cell (lt_of_cell h2)).trans h2)
  have D0 := Lib.hid (show ∀ X, Below w2.heap.size w2 X → ∀ j u, (ss (Ls.drop (k + 1) ++ [[]]))[j]? = some u → X.cell? ((⟨b, k + 1, none⟩ : Addr).add j) = some u from fun X hb j u hu => by
    rw [Go.WideShapes.add_plain]
    have h1 : (ss (Ls ++ [[]]))[k + 1 + j]? = some u := by
      have h3 : ss (Ls.drop (k + 1) ++ [[]]) = (ss (Ls ++ [[]])).drop (k + 1) := by
        have h4 : Ls.drop (k + 1) ++ [[]] = (Ls ++ [[]]).drop (k + 1) := by rw [List.drop_append_of_le_length (by rw [E6.out]; have := EK.out; omega)]
        rw [h4]
        exact List.map_drop ..
      rw [h3, List.getElem?_drop] at hu
      exact hu
    have h2 := L2.out.cell (j := k + 1 + j) (by rw [ECC.out, List.getElem?_toArray]; exact h1)
    exact (hb.cell (lt_of_cell h2)).trans h2)
  have LT := Lib.hid (show (Ls.take k).length = k by rw [List.length_take, E6.out]; have := EK.out; omega)
  have LD := Lib.hid (show (Ls.drop (k + 1) ++ [[]]).length = 6 - k by rw [List.length_append, List.length_drop, E6.out, List.length_singleton]; have := EK.out; omega)
  have L6 := Lib.hid (show ([] ++ Ls.take k ++ (Ls.drop (k + 1) ++ [[]])).length = 6 by simp [E6.out]; have := EK.out; omega)
  have LC := Lib.hid (show ([] ++ Ls.take k ++ (Ls.drop (k + 1) ++ [[]])).flatten = cut by rw [← ECut.out]; simp)
  have LK := Lib.hid (show k + (6 - k) ≤ 100 by have := EK.out; omega)
  have t1 : k ≤ 7 := by have := EK.out; omega
  have t2 : k + 1 ≤ 7 := by have := EK.out; omega
  have t3 : (k : Int) + 1 ≤ 7 := by omega
  have t4 : (k : Int) ≤ 7 := by omega
  have t5 : (0 : Int) ≤ (k : Int) := by omega
  have t6 : (0 : Int) ≤ (k : Int) + 1 := by omega
  have t7 : IntKind.i64.wrap ((k : Int) + 1) = (k : Int) + 1 := by simp [IntKind.wrap, IntKind.bits, IntKind.signed]; omega
  have t8 : ((k : Int) + 1).toNat = k + 1 := by omega
  have t9 : ¬ k = 6 := by have := EK.out; omega
  have t10 : ¬ (7 : Nat) = k + 1 := by omega
  have t11 : ¬ (7 : Nat) = k := by omega
  have t12 : ¬ k = 7 := by omega
  have S0 : Below w2.heap.size w2 w2.drew := below_drewOf (Below.refl _ _)
  clear e1 e2 e3 e4 hkk hq q1 q2 g1 x6
  refine wp_region_noPanic ?_
  refine wp_region_held_drew (S := fun w' => Below w2.heap.size w2 w') (by kernel_rfl) S0 (fun hHeld => ?_)
  refine @wpAnyH_take _ _ _ _ _ 1 { dst := some 46, op := Op.move (Operand.tmp 9), type := 33, pos := "law.go:69", after := #[], guard := none } (.slice (some ⟨b, 0, none⟩) 7 7) _ _ _ _ rfl (by kernel_rfl) (by kernel_rfl) (by kernel_rfl) (fun _ _ _ h => h) (Or.inl ⟨by rfl, ?y1⟩) (by assumption) ?_
  case y1 => intro w hSw; go_simp
  simp only [Act.put, List.setIfInBounds_toArray, List.set_cons_zero, List.set_cons_succ]
  refine @wpAnyH_take _ _ _ _ _ 2 { dst := some 47, op := Op.move (Operand.tmp 1), type := 3, pos := "law.go:69", after := #[], guard := none } (.int .i64 (k : Int)) _ _ _ _ rfl (by kernel_rfl) (by kernel_rfl) (by kernel_rfl) (fun _ _ _ h => h) (Or.inl ⟨by rfl, ?y2⟩) (by assumption) ?_
  case y2 => intro w hSw; go_simp
  simp only [Act.put, List.setIfInBounds_toArray, List.set_cons_zero, List.set_cons_succ]
  refine @wpAnyH_take _ _ _ _ _ 3 { dst := some 48, op := Op.slice 33 (Operand.tmp 46) none (some (Operand.tmp 47)) none, type := 33, pos := "law.go:69", after := #[{ on := 1, ground := Ground.data }, { on := 2, ground := Ground.data }], guard := none } (.slice (some ⟨b, 0, none⟩) k 7) _ _ _ _ rfl (by kernel_rfl) (by kernel_rfl) (by kernel_rfl) (fun _ _ _ h => h) (Or.inl ⟨by rfl, ?y3⟩) (by assumption) ?_
  case y3 => intro w hSw; go_simp
  simp only [Act.put, List.setIfInBounds_toArray, List.set_cons_zero, List.set_cons_succ]
  refine @wpAnyH_take _ _ _ _ _ 5 { dst := some 50, op := Op.move (Operand.tmp 9), type := 33, pos := "law.go:69", after := #[], guard := none } (.slice (some ⟨b, 0, none⟩) 7 7) _ _ _ _ rfl (by kernel_rfl) (by kernel_rfl) (by kernel_rfl) (fun _ _ _ h => h) (Or.inl ⟨by rfl, ?y5⟩) (by assumption) ?_
  case y5 => intro w hSw; go_simp
  simp only [Act.put, List.setIfInBounds_toArray, List.set_cons_zero, List.set_cons_succ]
  refine @wpAnyH_take _ _ _ _ _ 6 { dst := some 51, op := Op.move (Operand.tmp 1), type := 3, pos := "law.go:69", after := #[], guard := none } (.int .i64 (k : Int)) _ _ _ _ rfl (by kernel_rfl) (by kernel_rfl) (by kernel_rfl) (fun _ _ _ h => h) (Or.inl ⟨by rfl, ?y6⟩) (by assumption) ?_
  case y6 => intro w hSw; go_simp
  simp only [Act.put, List.setIfInBounds_toArray, List.set_cons_zero, List.set_cons_succ]
  refine @wpAnyH_take _ _ _ _ _ 7 { dst := some 52, op := Op.binOp BinOp.add 3 (Operand.tmp 51) (Operand.const (Value.int IntKind.i64 1)) 3, type := 3, pos := "law.go:69", after := #[{ on := 6, ground := Ground.data }], guard := none } (.int .i64 ((k : Int) + 1)) _ _ _ _ rfl (by kernel_rfl) (by kernel_rfl) (by kernel_rfl) (fun _ _ _ h => h) (Or.inl ⟨by rfl, ?y7⟩) (by assumption) ?_
  case y7 => intro w hSw; go_simp
  simp only [Act.put, List.setIfInBounds_toArray, List.set_cons_zero, List.set_cons_succ]
  refine @wpAnyH_take _ _ _ _ _ 8 { dst := some 53, op := Op.slice 33 (Operand.tmp 50) (some (Operand.tmp 52)) none none, type := 33, pos := "law.go:69", after := #[{ on := 5, ground := Ground.data }, { on := 7, ground := Ground.data }], guard := none } (.slice (some ⟨b, k + 1, none⟩) (6 - k) (6 - k)) _ _ _ _ rfl (by kernel_rfl) (by kernel_rfl) (by kernel_rfl) (fun _ _ _ h => h) (Or.inl ⟨by rfl, ?y8⟩) (by assumption) ?_
  case y8 => intro w hSw; go_simp
  simp only [Act.put, List.setIfInBounds_toArray, List.set_cons_zero, List.set_cons_succ]
  refine any_ways (Inv := (fun (n : Nat) (listed : Array Bool) (act : Act) (w' : World) => Below w2.heap.size w2 w' ∧ ∃ (z : Bool) (g : Nat),
      (n + 0 + z.toNat = 5 ∧ listed = lstJ 0 z ∧ act = { tmps := #[jbV j, .int .i64 (k : Int), strv more, .pointer (some ⟨w.heap.size, 0, none⟩), undef, undef, .bool false, strv t, .int .i64 0, .slice (some ⟨b, 0, none⟩) 7 7, ptJ z g, undef, undef, undef, undef, undef, .tuple #[strv t, .int .i64 0], jbV j, .tuple #[strv t, .int .i64 0], strv t, .int .i64 0, .int .i64 0, .bool false, .bool false, strv more, .int .i64 (more.length : Int), .bool (decide ((100 : Int) < (more.length : Int))), .bool (decide ((100 : Int) < (more.length : Int))), undef, strv t, .slice (some ⟨b, 0, none⟩) 7 7, .slice (some ⟨b, 0, none⟩) 7 7, .int .i64 7, .bool false, .bool false, .slice (some ⟨b, 0, none⟩) 7 7, .pointer (some ⟨b, 6, none⟩), strv [], .bool false, .bool false, .int .i64 k0, .int .i64 q, .int .i64 (q + 6), .int .i64 (k : Int), undef, undef, .slice (some ⟨b, 0, none⟩) 7 7, .int .i64 (k : Int), .slice (some ⟨b, 0, none⟩) k 7, undef, .slice (some ⟨b, 0, none⟩) 7 7, .int .i64 (k : Int), .int .i64 ((k : Int) + 1), .slice (some ⟨b, k + 1, none⟩) (6 - k) (6 - k), undef, undef, undef, undef, undef, undef, undef, undef, undef, undef, undef, undef, undef, undef, undef, undef, undef, undef, undef, undef, undef, undef, undef, undef, undef, undef, undef, undef, undef, undef, undef, undef, undef, undef, undef, undef, undef, undef, undef, undef, undef, undef], defers := [] } ∧ (z = true → Zt w2 g (.bool true) w')) ∨
      (∃ b0 : Value, n + 1 + z.toNat = 5 ∧ listed = lstJ 1 z ∧ act = { tmps := #[jbV j, .int .i64 (k : Int), strv more, .pointer (some ⟨w.heap.size, 0, none⟩), undef, undef, .bool false, strv t, .int .i64 0, .slice (some ⟨b, 0, none⟩) 7 7, ptJ z g, undef, undef, undef, undef, undef, .tuple #[strv t, .int .i64 0], jbV j, .tuple #[strv t, .int .i64 0], strv t, .int .i64 0, .int .i64 0, .bool false, .bool false, strv more, .int .i64 (more.length : Int), .bool (decide ((100 : Int) < (more.length : Int))), .bool (decide ((100 : Int) < (more.length : Int))), undef, strv t, .slice (some ⟨b, 0, none⟩) 7 7, .slice (some ⟨b, 0, none⟩) 7 7, .int .i64 7, .bool false, .bool false, .slice (some ⟨b, 0, none⟩) 7 7, .pointer (some ⟨b, 6, none⟩), strv [], .bool false, .bool false, .int .i64 k0, .int .i64 q, .int .i64 (q + 6), .int .i64 (k : Int), undef, b0, .slice (some ⟨b, 0, none⟩) 7 7, .int .i64 (k : Int), .slice (some ⟨b, 0, none⟩) k 7, undef, .slice (some ⟨b, 0, none⟩) 7 7, .int .i64 (k : Int), .int .i64 ((k : Int) + 1), .slice (some ⟨b, k + 1, none⟩) (6 - k) (6 - k), undef, undef, undef, undef, undef, undef, undef, undef, undef, undef, undef, undef, undef, undef, undef, undef, undef, undef, undef, undef, undef, undef, undef, undef, undef, undef, undef, undef, undef, undef, undef, undef, undef, undef, undef, undef, undef, undef, undef, undef, undef, undef], defers := [] } ∧ BuiltS w2 w' b0 [] ∧ (z = true → Zt w2 g b0 w')) ∨
      (∃ b0 v1 : Value, n + 2 + z.toNat = 5 ∧ listed = lstJ 2 z ∧ act = { tmps := #[jbV j, .int .i64 (k : Int), strv more, .pointer (some ⟨w.heap.size, 0, none⟩), undef, undef, .bool false, strv t, .int .i64 0, .slice (some ⟨b, 0, none⟩) 7 7, ptJ z g, undef, undef, undef, undef, undef, .tuple #[strv t, .int .i64 0], jbV j, .tuple #[strv t, .int .i64 0], strv t, .int .i64 0, .int .i64 0, .bool false, .bool false, strv more, .int .i64 (more.length : Int), .bool (decide ((100 : Int) < (more.length : Int))), .bool (decide ((100 : Int) < (more.length : Int))), undef, strv t, .slice (some ⟨b, 0, none⟩) 7 7, .slice (some ⟨b, 0, none⟩) 7 7, .int .i64 7, .bool false, .bool false, .slice (some ⟨b, 0, none⟩) 7 7, .pointer (some ⟨b, 6, none⟩), strv [], .bool false, .bool false, .int .i64 k0, .int .i64 q, .int .i64 (q + 6), .int .i64 (k : Int), undef, b0, .slice (some ⟨b, 0, none⟩) 7 7, .int .i64 (k : Int), .slice (some ⟨b, 0, none⟩) k 7, v1, .slice (some ⟨b, 0, none⟩) 7 7, .int .i64 (k : Int), .int .i64 ((k : Int) + 1), .slice (some ⟨b, k + 1, none⟩) (6 - k) (6 - k), undef, undef, undef, undef, undef, undef, undef, undef, undef, undef, undef, undef, undef, undef, undef, undef, undef, undef, undef, undef, undef, undef, undef, undef, undef, undef, undef, undef, undef, undef, undef, undef, undef, undef, undef, undef, undef, undef, undef, undef, undef, undef], defers := [] } ∧ BuiltS w2 w' v1 ([] ++ Ls.take k) ∧ (z = true → Zt w2 g v1 w')) ∨
      (∃ (b0 v1 : Value) (g1 c1 : Nat), n + 3 + z.toNat = 5 ∧ listed = lstJ 3 z ∧ act = { tmps := #[jbV j, .int .i64 (k : Int), strv more, .pointer (some ⟨w.heap.size, 0, none⟩), undef, undef, .bool false, strv t, .int .i64 0, .slice (some ⟨b, 0, none⟩) 7 7, ptJ z g, undef, undef, undef, undef, undef, .tuple #[strv t, .int .i64 0], jbV j, .tuple #[strv t, .int .i64 0], strv t, .int .i64 0, .int .i64 0, .bool false, .bool false, strv more, .int .i64 (more.length : Int), .bool (decide ((100 : Int) < (more.length : Int))), .bool (decide ((100 : Int) < (more.length : Int))), undef, strv t, .slice (some ⟨b, 0, none⟩) 7 7, .slice (some ⟨b, 0, none⟩) 7 7, .int .i64 7, .bool false, .bool false, .slice (some ⟨b, 0, none⟩) 7 7, .pointer (some ⟨b, 6, none⟩), strv [], .bool false, .bool false, .int .i64 k0, .int .i64 q, .int .i64 (q + 6), .int .i64 (k : Int), undef, b0, .slice (some ⟨b, 0, none⟩) 7 7, .int .i64 (k : Int), .slice (some ⟨b, 0, none⟩) k 7, v1, .slice (some ⟨b, 0, none⟩) 7 7, .int .i64 (k : Int), .int .i64 ((k : Int) + 1), .slice (some ⟨b, k + 1, none⟩) (6 - k) (6 - k), .slice (some ⟨g1, 0, none⟩) 6 c1, undef, undef, undef, undef, undef, undef, undef, undef, undef, undef, undef, undef, undef, undef, undef, undef, undef, undef, undef, undef, undef, undef, undef, undef, undef, undef, undef, undef, undef, undef, undef, undef, undef, undef, undef, undef, undef, undef, undef, undef, undef], defers := [] } ∧ Hid (∀ w'', Below w'.heap.size w' w'' → Calls Tryd.prog 16 #[.slice (some ⟨g1, 0, none⟩) 6 c1, strv []] w'' (GivesS cut w'')) ∧ (z = true → Zt w2 g (.bool true) w')) ∨
      (∃ (b0 v1 : Value) (g1 c1 : Nat), n + 4 + z.toNat = 5 ∧ listed = lstJ 4 z ∧ act = { tmps := #[jbV j, .int .i64 (k : Int), strv more, .pointer (some ⟨w.heap.size, 0, none⟩), undef, undef, .bool false, strv t, .int .i64 0, .slice (some ⟨b, 0, none⟩) 7 7, ptJ z g, undef, undef, undef, undef, undef, .tuple #[strv t, .int .i64 0], jbV j, .tuple #[strv t, .int .i64 0], strv t, .int .i64 0, .int .i64 0, .bool false, .bool false, strv more, .int .i64 (more.length : Int), .bool (decide ((100 : Int) < (more.length : Int))), .bool (decide ((100 : Int) < (more.length : Int))), undef, strv t, .slice (some ⟨b, 0, none⟩) 7 7, .slice (some ⟨b, 0, none⟩) 7 7, .int .i64 7, .bool false, .bool false, .slice (some ⟨b, 0, none⟩) 7 7, .pointer (some ⟨b, 6, none⟩), strv [], .bool false, .bool false, .int .i64 k0, .int .i64 q, .int .i64 (q + 6), .int .i64 (k : Int), undef, b0, .slice (some ⟨b, 0, none⟩) 7 7, .int .i64 (k : Int), .slice (some ⟨b, 0, none⟩) k 7, v1, .slice (some ⟨b, 0, none⟩) 7 7, .int .i64 (k : Int), .int .i64 ((k : Int) + 1), .slice (some ⟨b, k + 1, none⟩) (6 - k) (6 - k), .slice (some ⟨g1, 0, none⟩) 6 c1, strv cut, undef, undef, undef, undef, undef, undef, undef, undef, undef, undef, undef, undef, undef, undef, undef, undef, undef, undef, undef, undef, undef, undef, undef, undef, undef, undef, undef, undef, undef, undef, undef, undef, undef, undef, undef, undef, undef, undef, undef, undef], defers := [] } ∧ (z = true → Zt w2 g (.bool true) w')) ∨
      (∃ (b0 v1 : Value) (g1 c1 : Nat), n + 5 + z.toNat = 5 ∧ listed = lstJ 5 z ∧ act = { tmps := #[jbV j, .int .i64 (k : Int), strv more, .pointer (some ⟨w.heap.size, 0, none⟩), undef, undef, .bool false, strv t, .int .i64 0, .slice (some ⟨b, 0, none⟩) 7 7, ptJ z g, undef, undef, undef, undef, undef, .tuple #[strv t, .int .i64 0], jbV j, .tuple #[strv t, .int .i64 0], strv t, .int .i64 0, .int .i64 0, .bool false, .bool false, strv more, .int .i64 (more.length : Int), .bool (decide ((100 : Int) < (more.length : Int))), .bool (decide ((100 : Int) < (more.length : Int))), undef, strv t, .slice (some ⟨b, 0, none⟩) 7 7, .slice (some ⟨b, 0, none⟩) 7 7, .int .i64 7, .bool false, .bool false, .slice (some ⟨b, 0, none⟩) 7 7, .pointer (some ⟨b, 6, none⟩), strv [], .bool false, .bool false, .int .i64 k0, .int .i64 q, .int .i64 (q + 6), .int .i64 (k : Int), undef, b0, .slice (some ⟨b, 0, none⟩) 7 7, .int .i64 (k : Int), .slice (some ⟨b, 0, none⟩) k 7, v1, .slice (some ⟨b, 0, none⟩) 7 7, .int .i64 (k : Int), .int .i64 ((k : Int) + 1), .slice (some ⟨b, k + 1, none⟩) (6 - k) (6 - k), .slice (some ⟨g1, 0, none⟩) 6 c1, strv cut, .tuple #[jbV zJ, .int .i64 131, .int .i64 ((k : Int) + 1)], undef, undef, undef, undef, undef, undef, undef, undef, undef, undef, undef, undef, undef, undef, undef, undef, undef, undef, undef, undef, undef, undef, undef, undef, undef, undef, undef, undef, undef, undef, undef, undef, undef, undef, undef, undef, undef, undef, undef], defers := [] }))) (m := 8) ?hS ?hend ?hstep 5 _ _ _ ⟨S0, false, 0, Or.inl ⟨by rfl, by kernel_rfl, rfl, fun h => absurd h Bool.false_ne_true⟩⟩
  case hS =>
    intro n listed act w' h
    exact h.1
  case hstep =>
    clear hHeld S0
    rintro n listed act w' ⟨hb, z, g, ⟨hn, rfl, rfl, hZ⟩ | ⟨b0, hn, rfl, rfl, hB, hZ⟩ | ⟨b0, v1, hn, rfl, rfl, hB, hZ⟩ | ⟨b0, v1, g1, c1, hn, rfl, rfl, hJ, hZ⟩ | ⟨b0, v1, g1, c1, hn, rfl, rfl, hZ⟩ | ⟨b0, v1, g1, c1, hn, rfl, rfl⟩⟩
    · cases z
      · refine ⟨[0, 16], by kernel_rfl, by simp, ?_⟩
        change Steps _ _ _ _ _ { tmps := #[jbV j, .int .i64 (k : Int), strv more, .pointer (some ⟨w.heap.size, 0, none⟩), undef, undef, .bool false, strv t, .int .i64 0, .slice (some ⟨b, 0, none⟩) 7 7, undef, undef, undef, undef, undef, undef, .tuple #[strv t, .int .i64 0], jbV j, .tuple #[strv t, .int .i64 0], strv t, .int .i64 0, .int .i64 0, .bool false, .bool false, strv more, .int .i64 (more.length : Int), .bool (decide ((100 : Int) < (more.length : Int))), .bool (decide ((100 : Int) < (more.length : Int))), undef, strv t, .slice (some ⟨b, 0, none⟩) 7 7, .slice (some ⟨b, 0, none⟩) 7 7, .int .i64 7, .bool false, .bool false, .slice (some ⟨b, 0, none⟩) 7 7, .pointer (some ⟨b, 6, none⟩), strv [], .bool false, .bool false, .int .i64 k0, .int .i64 q, .int .i64 (q + 6), .int .i64 (k : Int), undef, undef, .slice (some ⟨b, 0, none⟩) 7 7, .int .i64 (k : Int), .slice (some ⟨b, 0, none⟩) k 7, undef, .slice (some ⟨b, 0, none⟩) 7 7, .int .i64 (k : Int), .int .i64 ((k : Int) + 1), .slice (some ⟨b, k + 1, none⟩) (6 - k) (6 - k), undef, undef, undef, undef, undef, undef, undef, undef, undef, undef, undef, undef, undef, undef, undef, undef, undef, undef, undef, undef, undef, undef, undef, undef, undef, undef, undef, undef, undef, undef, undef, undef, undef, undef, undef, undef, undef, undef, undef, undef, undef, undef], defers := [] } _ _
        refine Steps.cons (o := { dst := some 45, op := Op.buildSlice 33 0 #[], type := 33, pos := "law.go:69", after := #[], guard := none }) rfl (fun K hK => ?_) (Steps.cons (o := { dst := some 10, op := Op.alloc 23, type := 0, pos := "law.go:69", after := #[], guard := none }) rfl (fun K hK => ?_) Steps.nil)
        · go_simp
          exact hK.out _ _ ⟨below_al hb, false, 0, Or.inr (Or.inl ⟨.slice (some ⟨w'.heap.size, 0, none⟩) 0 0, by simp only [Bool.toNat_true, Bool.toNat_false] at hn ⊢; omega, by kernel_rfl, rfl, BuiltS.new hb rfl, fun h => absurd h Bool.false_ne_true⟩)⟩
        · go_simp
          exact hK.out _ _ ⟨below_al hb, true, w'.heap.size, Or.inl ⟨by simp only [Bool.toNat_true, Bool.toNat_false] at hn ⊢; omega, by kernel_rfl, rfl, fun _ => zAl0 hb⟩⟩
      · refine ⟨[0], by kernel_rfl, by simp, ?_⟩
        change Steps _ _ _ _ _ { tmps := #[jbV j, .int .i64 (k : Int), strv more, .pointer (some ⟨w.heap.size, 0, none⟩), undef, undef, .bool false, strv t, .int .i64 0, .slice (some ⟨b, 0, none⟩) 7 7, .pointer (some ⟨g, 0, none⟩), undef, undef, undef, undef, undef, .tuple #[strv t, .int .i64 0], jbV j, .tuple #[strv t, .int .i64 0], strv t, .int .i64 0, .int .i64 0, .bool false, .bool false, strv more, .int .i64 (more.length : Int), .bool (decide ((100 : Int) < (more.length : Int))), .bool (decide ((100 : Int) < (more.length : Int))), undef, strv t, .slice (some ⟨b, 0, none⟩) 7 7, .slice (some ⟨b, 0, none⟩) 7 7, .int .i64 7, .bool false, .bool false, .slice (some ⟨b, 0, none⟩) 7 7, .pointer (some ⟨b, 6, none⟩), strv [], .bool false, .bool false, .int .i64 k0, .int .i64 q, .int .i64 (q + 6), .int .i64 (k : Int), undef, undef, .slice (some ⟨b, 0, none⟩) 7 7, .int .i64 (k : Int), .slice (some ⟨b, 0, none⟩) k 7, undef, .slice (some ⟨b, 0, none⟩) 7 7, .int .i64 (k : Int), .int .i64 ((k : Int) + 1), .slice (some ⟨b, k + 1, none⟩) (6 - k) (6 - k), undef, undef, undef, undef, undef, undef, undef, undef, undef, undef, undef, undef, undef, undef, undef, undef, undef, undef, undef, undef, undef, undef, undef, undef, undef, undef, undef, undef, undef, undef, undef, undef, undef, undef, undef, undef, undef, undef, undef, undef, undef, undef], defers := [] } _ _
        refine Steps.cons (o := { dst := some 45, op := Op.buildSlice 33 0 #[], type := 33, pos := "law.go:69", after := #[], guard := none }) rfl (fun K hK => ?_) Steps.nil
        · go_simp
          exact hK.out _ _ ⟨below_al hb, true, g, Or.inr (Or.inl ⟨.slice (some ⟨w'.heap.size, 0, none⟩) 0 0, by simp only [Bool.toNat_true, Bool.toNat_false] at hn ⊢; omega, by kernel_rfl, rfl, BuiltS.new hb rfl, fun _ => (hZ rfl).empty _⟩)⟩
    · cases z
      · refine ⟨[4, 16], by kernel_rfl, by simp, ?_⟩
        change Steps _ _ _ _ _ { tmps := #[jbV j, .int .i64 (k : Int), strv more, .pointer (some ⟨w.heap.size, 0, none⟩), undef, undef, .bool false, strv t, .int .i64 0, .slice (some ⟨b, 0, none⟩) 7 7, undef, undef, undef, undef, undef, undef, .tuple #[strv t, .int .i64 0], jbV j, .tuple #[strv t, .int .i64 0], strv t, .int .i64 0, .int .i64 0, .bool false, .bool false, strv more, .int .i64 (more.length : Int), .bool (decide ((100 : Int) < (more.length : Int))), .bool (decide ((100 : Int) < (more.length : Int))), undef, strv t, .slice (some ⟨b, 0, none⟩) 7 7, .slice (some ⟨b, 0, none⟩) 7 7, .int .i64 7, .bool false, .bool false, .slice (some ⟨b, 0, none⟩) 7 7, .pointer (some ⟨b, 6, none⟩), strv [], .bool false, .bool false, .int .i64 k0, .int .i64 q, .int .i64 (q + 6), .int .i64 (k : Int), undef, b0, .slice (some ⟨b, 0, none⟩) 7 7, .int .i64 (k : Int), .slice (some ⟨b, 0, none⟩) k 7, undef, .slice (some ⟨b, 0, none⟩) 7 7, .int .i64 (k : Int), .int .i64 ((k : Int) + 1), .slice (some ⟨b, k + 1, none⟩) (6 - k) (6 - k), undef, undef, undef, undef, undef, undef, undef, undef, undef, undef, undef, undef, undef, undef, undef, undef, undef, undef, undef, undef, undef, undef, undef, undef, undef, undef, undef, undef, undef, undef, undef, undef, undef, undef, undef, undef, undef, undef, undef, undef, undef, undef], defers := [] } _ _
        refine Steps.cons (o := { dst := some 49, op := Op.call { callee := Callee.builtin Builtin.append, args := #[Operand.tmp 45, Operand.tmp 48], argTypes := #[33, 33] }, type := 33, pos := "law.go:69", after := #[{ on := 0, ground := Ground.data }, { on := 3, ground := Ground.data }], guard := none }) rfl (fun K hK => ?_) (Steps.cons (o := { dst := some 10, op := Op.alloc 23, type := 0, pos := "law.go:69", after := #[], guard := none }) rfl (fun K hK => ?_) Steps.nil)
        · refine step_pushS rfl (.tmp 45) (.tmp 48) rfl b0 [] (by simp [Act.eval]) hB ⟨b, 0, none⟩ k 7 (Ls.take k) (by simp [Act.eval]) LT.out (C0.out _ hb) (by simp; omega) ?_
          intro v1 w5 b1 q1 l1
          exact hK.out _ _ ⟨b1.below, false, 0, Or.inr (Or.inr (Or.inl ⟨b0, v1, by simp only [Bool.toNat_true, Bool.toNat_false] at hn ⊢; omega, by kernel_rfl, rfl, b1, fun h => absurd h Bool.false_ne_true⟩))⟩
        · go_simp
          exact hK.out _ _ ⟨below_al hb, true, w'.heap.size, Or.inr (Or.inl ⟨b0, by simp only [Bool.toNat_true, Bool.toNat_false] at hn ⊢; omega, by kernel_rfl, rfl, hB.al _, fun _ => zAl hB⟩)⟩
      · refine ⟨[4], by kernel_rfl, by simp, ?_⟩
        change Steps _ _ _ _ _ { tmps := #[jbV j, .int .i64 (k : Int), strv more, .pointer (some ⟨w.heap.size, 0, none⟩), undef, undef, .bool false, strv t, .int .i64 0, .slice (some ⟨b, 0, none⟩) 7 7, .pointer (some ⟨g, 0, none⟩), undef, undef, undef, undef, undef, .tuple #[strv t, .int .i64 0], jbV j, .tuple #[strv t, .int .i64 0], strv t, .int .i64 0, .int .i64 0, .bool false, .bool false, strv more, .int .i64 (more.length : Int), .bool (decide ((100 : Int) < (more.length : Int))), .bool (decide ((100 : Int) < (more.length : Int))), undef, strv t, .slice (some ⟨b, 0, none⟩) 7 7, .slice (some ⟨b, 0, none⟩) 7 7, .int .i64 7, .bool false, .bool false, .slice (some ⟨b, 0, none⟩) 7 7, .pointer (some ⟨b, 6, none⟩), strv [], .bool false, .bool false, .int .i64 k0, .int .i64 q, .int .i64 (q + 6), .int .i64 (k : Int), undef, b0, .slice (some ⟨b, 0, none⟩) 7 7, .int .i64 (k : Int), .slice (some ⟨b, 0, none⟩) k 7, undef, .slice (some ⟨b, 0, none⟩) 7 7, .int .i64 (k : Int), .int .i64 ((k : Int) + 1), .slice (some ⟨b, k + 1, none⟩) (6 - k) (6 - k), undef, undef, undef, undef, undef, undef, undef, undef, undef, undef, undef, undef, undef, undef, undef, undef, undef, undef, undef, undef, undef, undef, undef, undef, undef, undef, undef, undef, undef, undef, undef, undef, undef, undef, undef, undef, undef, undef, undef, undef, undef, undef], defers := [] } _ _
        refine Steps.cons (o := { dst := some 49, op := Op.call { callee := Callee.builtin Builtin.append, args := #[Operand.tmp 45, Operand.tmp 48], argTypes := #[33, 33] }, type := 33, pos := "law.go:69", after := #[{ on := 0, ground := Ground.data }, { on := 3, ground := Ground.data }], guard := none }) rfl (fun K hK => ?_) Steps.nil
        · refine step_pushS rfl (.tmp 45) (.tmp 48) rfl b0 [] (by simp [Act.eval]) hB ⟨b, 0, none⟩ k 7 (Ls.take k) (by simp [Act.eval]) LT.out (C0.out _ hb) (by simp; omega) ?_
          intro v1 w5 b1 q1 l1
          exact hK.out _ _ ⟨b1.below, true, g, Or.inr (Or.inr (Or.inl ⟨b0, v1, by simp only [Bool.toNat_true, Bool.toNat_false] at hn ⊢; omega, by kernel_rfl, rfl, b1, fun _ => (hZ rfl).push q1 l1⟩))⟩
    · cases z
      · refine ⟨[9, 16], by kernel_rfl, by simp, ?_⟩
        change Steps _ _ _ _ _ { tmps := #[jbV j, .int .i64 (k : Int), strv more, .pointer (some ⟨w.heap.size, 0, none⟩), undef, undef, .bool false, strv t, .int .i64 0, .slice (some ⟨b, 0, none⟩) 7 7, undef, undef, undef, undef, undef, undef, .tuple #[strv t, .int .i64 0], jbV j, .tuple #[strv t, .int .i64 0], strv t, .int .i64 0, .int .i64 0, .bool false, .bool false, strv more, .int .i64 (more.length : Int), .bool (decide ((100 : Int) < (more.length : Int))), .bool (decide ((100 : Int) < (more.length : Int))), undef, strv t, .slice (some ⟨b, 0, none⟩) 7 7, .slice (some ⟨b, 0, none⟩) 7 7, .int .i64 7, .bool false, .bool false, .slice (some ⟨b, 0, none⟩) 7 7, .pointer (some ⟨b, 6, none⟩), strv [], .bool false, .bool false, .int .i64 k0, .int .i64 q, .int .i64 (q + 6), .int .i64 (k : Int), undef, b0, .slice (some ⟨b, 0, none⟩) 7 7, .int .i64 (k : Int), .slice (some ⟨b, 0, none⟩) k 7, v1, .slice (some ⟨b, 0, none⟩) 7 7, .int .i64 (k : Int), .int .i64 ((k : Int) + 1), .slice (some ⟨b, k + 1, none⟩) (6 - k) (6 - k), undef, undef, undef, undef, undef, undef, undef, undef, undef, undef, undef, undef, undef, undef, undef, undef, undef, undef, undef, undef, undef, undef, undef, undef, undef, undef, undef, undef, undef, undef, undef, undef, undef, undef, undef, undef, undef, undef, undef, undef, undef, undef], defers := [] } _ _
        refine Steps.cons (o := { dst := some 54, op := Op.call { callee := Callee.builtin Builtin.append, args := #[Operand.tmp 49, Operand.tmp 53], argTypes := #[33, 33] }, type := 33, pos := "law.go:69", after := #[{ on := 4, ground := Ground.data }, { on := 8, ground := Ground.data }, { on := 4, ground := Ground.chain }], guard := none }) rfl (fun K hK => ?_) (Steps.cons (o := { dst := some 10, op := Op.alloc 23, type := 0, pos := "law.go:69", after := #[], guard := none }) rfl (fun K hK => ?_) Steps.nil)
        · refine step_pushS rfl (.tmp 49) (.tmp 53) rfl v1 ([] ++ Ls.take k) (by simp [Act.eval]) hB ⟨b, k + 1, none⟩ (6 - k) (6 - k) (Ls.drop (k + 1) ++ [[]]) (by simp [Act.eval]) LD.out (D0.out _ hb) (by rw [List.nil_append, LT.out]; exact Nat.le_trans LK.out (by omega)) ?_
          intro v2 w5 b1 q1 l1
          obtain ⟨g1, c1, rfl, hj⟩ := joinB b1 L6.out LC.out EL.out
          exact hK.out _ _ ⟨b1.below, false, 0, Or.inr (Or.inr (Or.inr (Or.inl ⟨b0, v1, g1, c1, by simp only [Bool.toNat_true, Bool.toNat_false] at hn ⊢; omega, by kernel_rfl, rfl, Lib.hid hj, fun h => absurd h Bool.false_ne_true⟩)))⟩
        · go_simp
          exact hK.out _ _ ⟨below_al hb, true, w'.heap.size, Or.inr (Or.inr (Or.inl ⟨b0, v1, by simp only [Bool.toNat_true, Bool.toNat_false] at hn ⊢; omega, by kernel_rfl, rfl, hB.al _, fun _ => zAl hB⟩))⟩
      · refine ⟨[9], by kernel_rfl, by simp, ?_⟩
        change Steps _ _ _ _ _ { tmps := #[jbV j, .int .i64 (k : Int), strv more, .pointer (some ⟨w.heap.size, 0, none⟩), undef, undef, .bool false, strv t, .int .i64 0, .slice (some ⟨b, 0, none⟩) 7 7, .pointer (some ⟨g, 0, none⟩), undef, undef, undef, undef, undef, .tuple #[strv t, .int .i64 0], jbV j, .tuple #[strv t, .int .i64 0], strv t, .int .i64 0, .int .i64 0, .bool false, .bool false, strv more, .int .i64 (more.length : Int), .bool (decide ((100 : Int) < (more.length : Int))), .bool (decide ((100 : Int) < (more.length : Int))), undef, strv t, .slice (some ⟨b, 0, none⟩) 7 7, .slice (some ⟨b, 0, none⟩) 7 7, .int .i64 7, .bool false, .bool false, .slice (some ⟨b, 0, none⟩) 7 7, .pointer (some ⟨b, 6, none⟩), strv [], .bool false, .bool false, .int .i64 k0, .int .i64 q, .int .i64 (q + 6), .int .i64 (k : Int), undef, b0, .slice (some ⟨b, 0, none⟩) 7 7, .int .i64 (k : Int), .slice (some ⟨b, 0, none⟩) k 7, v1, .slice (some ⟨b, 0, none⟩) 7 7, .int .i64 (k : Int), .int .i64 ((k : Int) + 1), .slice (some ⟨b, k + 1, none⟩) (6 - k) (6 - k), undef, undef, undef, undef, undef, undef, undef, undef, undef, undef, undef, undef, undef, undef, undef, undef, undef, undef, undef, undef, undef, undef, undef, undef, undef, undef, undef, undef, undef, undef, undef, undef, undef, undef, undef, undef, undef, undef, undef, undef, undef, undef], defers := [] } _ _
        refine Steps.cons (o := { dst := some 54, op := Op.call { callee := Callee.builtin Builtin.append, args := #[Operand.tmp 49, Operand.tmp 53], argTypes := #[33, 33] }, type := 33, pos := "law.go:69", after := #[{ on := 4, ground := Ground.data }, { on := 8, ground := Ground.data }, { on := 4, ground := Ground.chain }], guard := none }) rfl (fun K hK => ?_) Steps.nil
        · refine step_pushS rfl (.tmp 49) (.tmp 53) rfl v1 ([] ++ Ls.take k) (by simp [Act.eval]) hB ⟨b, k + 1, none⟩ (6 - k) (6 - k) (Ls.drop (k + 1) ++ [[]]) (by simp [Act.eval]) LD.out (D0.out _ hb) (by rw [List.nil_append, LT.out]; exact Nat.le_trans LK.out (by omega)) ?_
          intro v2 w5 b1 q1 l1
          obtain ⟨g1, c1, rfl, hj⟩ := joinB b1 L6.out LC.out EL.out
          exact hK.out _ _ ⟨b1.below, true, g, Or.inr (Or.inr (Or.inr (Or.inl ⟨b0, v1, g1, c1, by simp only [Bool.toNat_true, Bool.toNat_false] at hn ⊢; omega, by kernel_rfl, rfl, Lib.hid hj, fun _ => ((hZ rfl).push q1 l1).free0⟩)))⟩
    · cases z
      · refine ⟨[10, 16], by kernel_rfl, by simp, ?_⟩
        change Steps _ _ _ _ _ { tmps := #[jbV j, .int .i64 (k : Int), strv more, .pointer (some ⟨w.heap.size, 0, none⟩), undef, undef, .bool false, strv t, .int .i64 0, .slice (some ⟨b, 0, none⟩) 7 7, undef, undef, undef, undef, undef, undef, .tuple #[strv t, .int .i64 0], jbV j, .tuple #[strv t, .int .i64 0], strv t, .int .i64 0, .int .i64 0, .bool false, .bool false, strv more, .int .i64 (more.length : Int), .bool (decide ((100 : Int) < (more.length : Int))), .bool (decide ((100 : Int) < (more.length : Int))), undef, strv t, .slice (some ⟨b, 0, none⟩) 7 7, .slice (some ⟨b, 0, none⟩) 7 7, .int .i64 7, .bool false, .bool false, .slice (some ⟨b, 0, none⟩) 7 7, .pointer (some ⟨b, 6, none⟩), strv [], .bool false, .bool false, .int .i64 k0, .int .i64 q, .int .i64 (q + 6), .int .i64 (k : Int), undef, b0, .slice (some ⟨b, 0, none⟩) 7 7, .int .i64 (k : Int), .slice (some ⟨b, 0, none⟩) k 7, v1, .slice (some ⟨b, 0, none⟩) 7 7, .int .i64 (k : Int), .int .i64 ((k : Int) + 1), .slice (some ⟨b, k + 1, none⟩) (6 - k) (6 - k), .slice (some ⟨g1, 0, none⟩) 6 c1, undef, undef, undef, undef, undef, undef, undef, undef, undef, undef, undef, undef, undef, undef, undef, undef, undef, undef, undef, undef, undef, undef, undef, undef, undef, undef, undef, undef, undef, undef, undef, undef, undef, undef, undef, undef, undef, undef, undef, undef, undef], defers := [] } _ _
        refine Steps.cons (o := { dst := some 55, op := Op.call { callee := Callee.value (Operand.func 16), args := #[Operand.tmp 54, Operand.const (Value.string { data := #[] })], argTypes := #[33, 9] }, type := 9, pos := "law.go:69", after := #[{ on := 9, ground := Ground.data }, { on := 9, ground := Ground.chain }], guard := none }) rfl (fun K hK => ?_) (Steps.cons (o := { dst := some 10, op := Op.alloc 23, type := 0, pos := "law.go:69", after := #[], guard := none }) rfl (fun K hK => ?_) Steps.nil)
        · go_simp
          go_at_call 16
          refine (hJ.out _ (Below.refl _ _)).mono ?_
          rintro e w5 ⟨rfl, hb5⟩
          exact hK.out _ _ ⟨below_next hb hb5, false, 0, Or.inr (Or.inr (Or.inr (Or.inr (Or.inl ⟨b0, v1, g1, c1, by simp only [Bool.toNat_true, Bool.toNat_false] at hn ⊢; omega, by kernel_rfl, rfl, fun h => absurd h Bool.false_ne_true⟩))))⟩
        · go_simp
          exact hK.out _ _ ⟨below_al hb, true, w'.heap.size, Or.inr (Or.inr (Or.inr (Or.inl ⟨b0, v1, g1, c1, by simp only [Bool.toNat_true, Bool.toNat_false] at hn ⊢; omega, by kernel_rfl, rfl, Lib.hid fun w9 h9 => hJ.out w9 (below_next (below_al (Below.refl _ _)) h9), fun _ => zAl0 hb⟩)))⟩
      · refine ⟨[10], by kernel_rfl, by simp, ?_⟩
        change Steps _ _ _ _ _ { tmps := #[jbV j, .int .i64 (k : Int), strv more, .pointer (some ⟨w.heap.size, 0, none⟩), undef, undef, .bool false, strv t, .int .i64 0, .slice (some ⟨b, 0, none⟩) 7 7, .pointer (some ⟨g, 0, none⟩), undef, undef, undef, undef, undef, .tuple #[strv t, .int .i64 0], jbV j, .tuple #[strv t, .int .i64 0], strv t, .int .i64 0, .int .i64 0, .bool false, .bool false, strv more, .int .i64 (more.length : Int), .bool (decide ((100 : Int) < (more.length : Int))), .bool (decide ((100 : Int) < (more.length : Int))), undef, strv t, .slice (some ⟨b, 0, none⟩) 7 7, .slice (some ⟨b, 0, none⟩) 7 7, .int .i64 7, .bool false, .bool false, .slice (some ⟨b, 0, none⟩) 7 7, .pointer (some ⟨b, 6, none⟩), strv [], .bool false, .bool false, .int .i64 k0, .int .i64 q, .int .i64 (q + 6), .int .i64 (k : Int), undef, b0, .slice (some ⟨b, 0, none⟩) 7 7, .int .i64 (k : Int), .slice (some ⟨b, 0, none⟩) k 7, v1, .slice (some ⟨b, 0, none⟩) 7 7, .int .i64 (k : Int), .int .i64 ((k : Int) + 1), .slice (some ⟨b, k + 1, none⟩) (6 - k) (6 - k), .slice (some ⟨g1, 0, none⟩) 6 c1, undef, undef, undef, undef, undef, undef, undef, undef, undef, undef, undef, undef, undef, undef, undef, undef, undef, undef, undef, undef, undef, undef, undef, undef, undef, undef, undef, undef, undef, undef, undef, undef, undef, undef, undef, undef, undef, undef, undef, undef, undef], defers := [] } _ _
        refine Steps.cons (o := { dst := some 55, op := Op.call { callee := Callee.value (Operand.func 16), args := #[Operand.tmp 54, Operand.const (Value.string { data := #[] })], argTypes := #[33, 9] }, type := 9, pos := "law.go:69", after := #[{ on := 9, ground := Ground.data }, { on := 9, ground := Ground.chain }], guard := none }) rfl (fun K hK => ?_) Steps.nil
        · go_simp
          go_at_call 16
          refine (hJ.out _ (Below.refl _ _)).mono ?_
          rintro e w5 ⟨rfl, hb5⟩
          exact hK.out _ _ ⟨below_next hb hb5, true, g, Or.inr (Or.inr (Or.inr (Or.inr (Or.inl ⟨b0, v1, g1, c1, by simp only [Bool.toNat_true, Bool.toNat_false] at hn ⊢; omega, by kernel_rfl, rfl, fun _ => (hZ rfl).next hb5⟩))))⟩
    · cases z
      · refine ⟨[11, 16], by kernel_rfl, by simp, ?_⟩
        change Steps _ _ _ _ _ { tmps := #[jbV j, .int .i64 (k : Int), strv more, .pointer (some ⟨w.heap.size, 0, none⟩), undef, undef, .bool false, strv t, .int .i64 0, .slice (some ⟨b, 0, none⟩) 7 7, undef, undef, undef, undef, undef, undef, .tuple #[strv t, .int .i64 0], jbV j, .tuple #[strv t, .int .i64 0], strv t, .int .i64 0, .int .i64 0, .bool false, .bool false, strv more, .int .i64 (more.length : Int), .bool (decide ((100 : Int) < (more.length : Int))), .bool (decide ((100 : Int) < (more.length : Int))), undef, strv t, .slice (some ⟨b, 0, none⟩) 7 7, .slice (some ⟨b, 0, none⟩) 7 7, .int .i64 7, .bool false, .bool false, .slice (some ⟨b, 0, none⟩) 7 7, .pointer (some ⟨b, 6, none⟩), strv [], .bool false, .bool false, .int .i64 k0, .int .i64 q, .int .i64 (q + 6), .int .i64 (k : Int), undef, b0, .slice (some ⟨b, 0, none⟩) 7 7, .int .i64 (k : Int), .slice (some ⟨b, 0, none⟩) k 7, v1, .slice (some ⟨b, 0, none⟩) 7 7, .int .i64 (k : Int), .int .i64 ((k : Int) + 1), .slice (some ⟨b, k + 1, none⟩) (6 - k) (6 - k), .slice (some ⟨g1, 0, none⟩) 6 c1, strv cut, undef, undef, undef, undef, undef, undef, undef, undef, undef, undef, undef, undef, undef, undef, undef, undef, undef, undef, undef, undef, undef, undef, undef, undef, undef, undef, undef, undef, undef, undef, undef, undef, undef, undef, undef, undef, undef, undef, undef, undef], defers := [] } _ _
        refine Steps.cons (o := { dst := some 56, op := Op.call { callee := Callee.value (Operand.func 12), args := #[Operand.tmp 55], argTypes := #[9] }, type := 30, pos := "law.go:69", after := #[{ on := 10, ground := Ground.data }, { on := 10, ground := Ground.chain }], guard := none }) rfl (fun K hK => ?_) (Steps.cons (o := { dst := some 10, op := Op.alloc 23, type := 0, pos := "law.go:69", after := #[], guard := none }) rfl (fun K hK => ?_) Steps.nil)
        · go_simp
          go_at_call 12
          refine (HC.out _ (VX.out _ hb)).mono ?_
          rintro e w5 ⟨rfl, hb5⟩
          exact hK.out _ _ ⟨below_next hb hb5, false, 0, Or.inr (Or.inr (Or.inr (Or.inr (Or.inr (⟨b0, v1, g1, c1, by simp only [Bool.toNat_true, Bool.toNat_false] at hn ⊢; omega, by kernel_rfl, rfl⟩)))))⟩
        · go_simp
          exact hK.out _ _ ⟨below_al hb, true, w'.heap.size, Or.inr (Or.inr (Or.inr (Or.inr (Or.inl ⟨b0, v1, g1, c1, by simp only [Bool.toNat_true, Bool.toNat_false] at hn ⊢; omega, by kernel_rfl, rfl, fun _ => zAl0 hb⟩))))⟩
      · simp only [Bool.toNat_true] at hn; omega
    · omega
  case hend =>
    clear hHeld S0
    rintro listed act w' ⟨hb, z, g, ⟨hn, rfl, rfl, hZ⟩ | ⟨b0, hn, rfl, rfl, hB, hZ⟩ | ⟨b0, v1, hn, rfl, rfl, hB, hZ⟩ | ⟨b0, v1, g1, c1, hn, rfl, rfl, hJ, hZ⟩ | ⟨b0, v1, g1, c1, hn, rfl, rfl, hZ⟩ | ⟨b0, v1, g1, c1, hn, rfl, rfl⟩⟩
    · cases z <;> simp at hn
    · cases z <;> simp at hn
    · cases z <;> simp at hn
    · cases z <;> simp at hn
    · cases z
      · simp at hn
      · change wpAnyH _ _ _ _ _ _ _ { tmps := #[jbV j, .int .i64 (k : Int), strv more, .pointer (some ⟨w.heap.size, 0, none⟩), undef, undef, .bool false, strv t, .int .i64 0, .slice (some ⟨b, 0, none⟩) 7 7, .pointer (some ⟨g, 0, none⟩), undef, undef, undef, undef, undef, .tuple #[strv t, .int .i64 0], jbV j, .tuple #[strv t, .int .i64 0], strv t, .int .i64 0, .int .i64 0, .bool false, .bool false, strv more, .int .i64 (more.length : Int), .bool (decide ((100 : Int) < (more.length : Int))), .bool (decide ((100 : Int) < (more.length : Int))), undef, strv t, .slice (some ⟨b, 0, none⟩) 7 7, .slice (some ⟨b, 0, none⟩) 7 7, .int .i64 7, .bool false, .bool false, .slice (some ⟨b, 0, none⟩) 7 7, .pointer (some ⟨b, 6, none⟩), strv [], .bool false, .bool false, .int .i64 k0, .int .i64 q, .int .i64 (q + 6), .int .i64 (k : Int), undef, b0, .slice (some ⟨b, 0, none⟩) 7 7, .int .i64 (k : Int), .slice (some ⟨b, 0, none⟩) k 7, v1, .slice (some ⟨b, 0, none⟩) 7 7, .int .i64 (k : Int), .int .i64 ((k : Int) + 1), .slice (some ⟨b, k + 1, none⟩) (6 - k) (6 - k), .slice (some ⟨g1, 0, none⟩) 6 c1, strv cut, undef, undef, undef, undef, undef, undef, undef, undef, undef, undef, undef, undef, undef, undef, undef, undef, undef, undef, undef, undef, undef, undef, undef, undef, undef, undef, undef, undef, undef, undef, undef, undef, undef, undef, undef, undef, undef, undef, undef, undef], defers := [] } _
        refine wpAnyH_ready (rs := [11]) (by kernel_rfl) (by simp) ?_
        refine AllReadyH.cons (o := { dst := some 56, op := Op.call { callee := Callee.value (Operand.func 12), args := #[Operand.tmp 55], argTypes := #[9] }, type := 30, pos := "law.go:69", after := #[{ on := 10, ground := Ground.data }, { on := 10, ground := Ground.chain }], guard := none }) rfl (fun K hK => ?_) AllReadyH.nil
        go_simp
        go_at_call 12
        refine (HC.out _ (VX.out _ hb)).mono ?_
        rintro e w5 ⟨rfl, hb5⟩
        have hZ := fun h => (hZ h).next hb5
        have hb := below_next hb hb5
        clear hb5
        refine hK.out _ _ hb ?_
        intro hb4
        clear hb4
        refine @wpAnyH_take _ _ _ _ _ 12 { dst := some 44, op := Op.move (Operand.tmp 56), type := 30, pos := "law.go:69", after := #[{ on := 11, ground := Ground.data }], guard := none } (.tuple #[jbV zJ, .int .i64 131, .int .i64 ((k : Int) + 1)]) _ _ _ _ rfl (by kernel_rfl) (by kernel_rfl) (by kernel_rfl) (fun _ _ _ h => h) (Or.inl ⟨by rfl, ?yb12⟩) (by assumption) ?_
        case yb12 => intro w hSw; go_simp
        simp only [Act.put, List.setIfInBounds_toArray, List.set_cons_zero, List.set_cons_succ]
        refine @wpAnyH_take _ _ _ _ _ 13 { dst := some 57, op := Op.extract (Operand.tmp 44) 0, type := 23, pos := "law.go:69", after := #[{ on := 12, ground := Ground.data }], guard := none } (jbV zJ) _ _ _ _ rfl (by kernel_rfl) (by kernel_rfl) (by kernel_rfl) (fun _ _ _ h => h) (Or.inl ⟨by rfl, ?yb13⟩) (by assumption) ?_
        case yb13 => intro w hSw; go_simp
        simp only [Act.put, List.setIfInBounds_toArray, List.set_cons_zero, List.set_cons_succ]
        refine @wpAnyH_take _ _ _ _ _ 14 { dst := some 58, op := Op.extract (Operand.tmp 44) 1, type := 24, pos := "law.go:69", after := #[{ on := 12, ground := Ground.data }, { on := 17, ground := Ground.gcOnly Departure.lateStores }], guard := none } (.int .i64 131) _ _ _ _ rfl (by kernel_rfl) (by kernel_rfl) (by kernel_rfl) (fun _ _ _ h => h) (Or.inl ⟨by rfl, ?yb14⟩) (by assumption) ?_
        case yb14 => intro w hSw; go_simp
        simp only [Act.put, List.setIfInBounds_toArray, List.set_cons_zero, List.set_cons_succ]
        refine @wpAnyH_take _ _ _ _ _ 15 { dst := some 59, op := Op.extract (Operand.tmp 44) 2, type := 3, pos := "law.go:69", after := #[{ on := 12, ground := Ground.data }, { on := 18, ground := Ground.gcOnly Departure.lateStores }], guard := none } (.int .i64 ((k : Int) + 1)) _ _ _ _ rfl (by kernel_rfl) (by kernel_rfl) (by kernel_rfl) (fun _ _ _ h => h) (Or.inl ⟨by rfl, ?yb15⟩) (by assumption) ?_
        case yb15 => intro w hSw; go_simp
        simp only [Act.put, List.setIfInBounds_toArray, List.set_cons_zero, List.set_cons_succ]
        have z := hZ rfl
        have zlo := z.lo
        have c0 := z.lies.cell (j := 0) rfl; have c1' := z.lies.cell (j := 1) rfl; have c2 := z.lies.cell (j := 2) rfl; have c3 := z.lies.cell (j := 3) rfl; have c4 := z.lies.cell (j := 4) rfl; have c5 := z.lies.cell (j := 5) rfl; have c6 := z.lies.cell (j := 6) rfl; have c7 := z.lies.cell (j := 7) rfl
        have f0 := z.lies.free 0; have f1 := z.lies.free 1; have f2 := z.lies.free 2; have f3 := z.lies.free 3; have f4 := z.lies.free 4; have f5 := z.lies.free 5; have f6 := z.lies.free 6; have f7 := z.lies.free 7
        clear z
        refine wpAnyH_ready (rs := [17]) (by kernel_rfl) (by simp) ?_
        refine AllReadyH.cons (o := { dst := none, op := Op.store 23 (Operand.tmp 10) (Operand.tmp 57), type := 0, pos := "law.go:69", after := #[{ on := 16, ground := Ground.data }, { on := 13, ground := Ground.data }, { on := 11, ground := Ground.chain }, { on := 0, ground := Ground.phase }, { on := 1, ground := Ground.phase }, { on := 2, ground := Ground.phase }, { on := 3, ground := Ground.phase }, { on := 4, ground := Ground.phase }, { on := 5, ground := Ground.phase }, { on := 6, ground := Ground.phase }, { on := 7, ground := Ground.phase }, { on := 8, ground := Ground.phase }, { on := 9, ground := Ground.phase }, { on := 10, ground := Ground.phase }, { on := 11, ground := Ground.phase }, { on := 12, ground := Ground.phase }, { on := 13, ground := Ground.phase }, { on := 14, ground := Ground.textOnly Departure.lateStores }, { on := 15, ground := Ground.textOnly Departure.lateStores }, { on := 16, ground := Ground.phase }], guard := none }) rfl (fun K hK => ?_) AllReadyH.nil
        go_simp
        refine hK.out _ _ ?_ ?_
        · exact below_set (below_set (below_set (below_set (below_set (below_set (below_set (below_set hb zlo) zlo) zlo) zlo) zlo) zlo) zlo) zlo
        intro hb4
        refine anyW hb4 ?_
        clear hb4 c0 c1' c2 c3 c4 c5 c6 c7 f0 f1 f2 f3 f4 f5 f6 f7 zlo hb hZ hn
        intro X hb4
        refine @wpAnyH_take _ _ _ _ _ 18 { dst := some 11, op := Op.assign (Operand.tmp 58), type := 24, pos := "law.go:69", after := #[{ on := 14, ground := Ground.data }, { on := 17, ground := Ground.chain }, { on := 0, ground := Ground.phase }, { on := 1, ground := Ground.phase }, { on := 2, ground := Ground.phase }, { on := 3, ground := Ground.phase }, { on := 4, ground := Ground.phase }, { on := 5, ground := Ground.phase }, { on := 6, ground := Ground.phase }, { on := 7, ground := Ground.phase }, { on := 8, ground := Ground.phase }, { on := 9, ground := Ground.phase }, { on := 10, ground := Ground.phase }, { on := 11, ground := Ground.phase }, { on := 12, ground := Ground.phase }, { on := 13, ground := Ground.phase }, { on := 14, ground := Ground.phase }, { on := 15, ground := Ground.textOnly Departure.lateStores }, { on := 16, ground := Ground.phase }, { on := 17, ground := Ground.phase }], guard := none } (.int .i64 131) _ _ _ _ rfl (by kernel_rfl) (by kernel_rfl) (by kernel_rfl) (fun _ _ _ h => h) (Or.inl ⟨by rfl, ?yb18⟩) (by assumption) ?_
        case yb18 => intro w hSw; go_simp
        simp only [Act.put, List.setIfInBounds_toArray, List.set_cons_zero, List.set_cons_succ]
        refine @wpAnyH_take _ _ _ _ _ 19 { dst := some 12, op := Op.assign (Operand.tmp 59), type := 3, pos := "law.go:69", after := #[{ on := 15, ground := Ground.data }, { on := 18, ground := Ground.chain }, { on := 0, ground := Ground.phase }, { on := 1, ground := Ground.phase }, { on := 2, ground := Ground.phase }, { on := 3, ground := Ground.phase }, { on := 4, ground := Ground.phase }, { on := 5, ground := Ground.phase }, { on := 6, ground := Ground.phase }, { on := 7, ground := Ground.phase }, { on := 8, ground := Ground.phase }, { on := 9, ground := Ground.phase }, { on := 10, ground := Ground.phase }, { on := 11, ground := Ground.phase }, { on := 12, ground := Ground.phase }, { on := 13, ground := Ground.phase }, { on := 14, ground := Ground.phase }, { on := 15, ground := Ground.phase }, { on := 16, ground := Ground.phase }, { on := 17, ground := Ground.phase }, { on := 18, ground := Ground.phase }], guard := none } (.int .i64 ((k : Int) + 1)) _ _ _ _ rfl (by kernel_rfl) (by kernel_rfl) (by kernel_rfl) (fun _ _ _ h => h) (Or.inl ⟨by rfl, ?yb19⟩) (by assumption) ?_
        case yb19 => intro w hSw; go_simp
        simp only [Act.put, List.setIfInBounds_toArray, List.set_cons_zero, List.set_cons_succ]
        refine wpAnyH_done (by kernel_rfl) ?_ _
        refine NoPanic.normal ?_
        go_wp2_with fail
        refine (HM.out _ (VX.out _ hb4)).mono ?_
        rintro e w6 ⟨rfl, hb6⟩
        have B6 := Lib.hid (below_next B2.out (below_next hb4 hb6))
        clear hb6
        rcases EE.out with ⟨rfl, rfl⟩ | ⟨hne, rfl, rfl⟩
        · go_wp2_with fail
          go_ret
          exact ⟨by first | rfl | simp, by first | exact B6.out | exact below_al B6.out⟩
        · have hmf : (more == []) = false := by simpa using hne
          go_wp2_with fail
          go_ret
          exact ⟨by first | rfl | simp, by first | exact B6.out | exact below_al B6.out⟩
    · cases z
      · change wpAnyH _ _ _ _ _ _ _ { tmps := #[jbV j, .int .i64 (k : Int), strv more, .pointer (some ⟨w.heap.size, 0, none⟩), undef, undef, .bool false, strv t, .int .i64 0, .slice (some ⟨b, 0, none⟩) 7 7, undef, undef, undef, undef, undef, undef, .tuple #[strv t, .int .i64 0], jbV j, .tuple #[strv t, .int .i64 0], strv t, .int .i64 0, .int .i64 0, .bool false, .bool false, strv more, .int .i64 (more.length : Int), .bool (decide ((100 : Int) < (more.length : Int))), .bool (decide ((100 : Int) < (more.length : Int))), undef, strv t, .slice (some ⟨b, 0, none⟩) 7 7, .slice (some ⟨b, 0, none⟩) 7 7, .int .i64 7, .bool false, .bool false, .slice (some ⟨b, 0, none⟩) 7 7, .pointer (some ⟨b, 6, none⟩), strv [], .bool false, .bool false, .int .i64 k0, .int .i64 q, .int .i64 (q + 6), .int .i64 (k : Int), undef, b0, .slice (some ⟨b, 0, none⟩) 7 7, .int .i64 (k : Int), .slice (some ⟨b, 0, none⟩) k 7, v1, .slice (some ⟨b, 0, none⟩) 7 7, .int .i64 (k : Int), .int .i64 ((k : Int) + 1), .slice (some ⟨b, k + 1, none⟩) (6 - k) (6 - k), .slice (some ⟨g1, 0, none⟩) 6 c1, strv cut, .tuple #[jbV zJ, .int .i64 131, .int .i64 ((k : Int) + 1)], undef, undef, undef, undef, undef, undef, undef, undef, undef, undef, undef, undef, undef, undef, undef, undef, undef, undef, undef, undef, undef, undef, undef, undef, undef, undef, undef, undef, undef, undef, undef, undef, undef, undef, undef, undef, undef, undef, undef], defers := [] } _
        refine @wpAnyH_take _ _ _ _ _ 12 { dst := some 44, op := Op.move (Operand.tmp 56), type := 30, pos := "law.go:69", after := #[{ on := 11, ground := Ground.data }], guard := none } (.tuple #[jbV zJ, .int .i64 131, .int .i64 ((k : Int) + 1)]) _ _ _ _ rfl (by kernel_rfl) (by kernel_rfl) (by kernel_rfl) (fun _ _ _ h => h) (Or.inl ⟨by rfl, ?ya12⟩) (by assumption) ?_
        case ya12 => intro w hSw; go_simp
        simp only [Act.put, List.setIfInBounds_toArray, List.set_cons_zero, List.set_cons_succ]
        refine @wpAnyH_take _ _ _ _ _ 13 { dst := some 57, op := Op.extract (Operand.tmp 44) 0, type := 23, pos := "law.go:69", after := #[{ on := 12, ground := Ground.data }], guard := none } (jbV zJ) _ _ _ _ rfl (by kernel_rfl) (by kernel_rfl) (by kernel_rfl) (fun _ _ _ h => h) (Or.inl ⟨by rfl, ?ya13⟩) (by assumption) ?_
        case ya13 => intro w hSw; go_simp
        simp only [Act.put, List.setIfInBounds_toArray, List.set_cons_zero, List.set_cons_succ]
        refine @wpAnyH_take _ _ _ _ _ 14 { dst := some 58, op := Op.extract (Operand.tmp 44) 1, type := 24, pos := "law.go:69", after := #[{ on := 12, ground := Ground.data }, { on := 17, ground := Ground.gcOnly Departure.lateStores }], guard := none } (.int .i64 131) _ _ _ _ rfl (by kernel_rfl) (by kernel_rfl) (by kernel_rfl) (fun _ _ _ h => h) (Or.inl ⟨by rfl, ?ya14⟩) (by assumption) ?_
        case ya14 => intro w hSw; go_simp
        simp only [Act.put, List.setIfInBounds_toArray, List.set_cons_zero, List.set_cons_succ]
        refine @wpAnyH_take _ _ _ _ _ 15 { dst := some 59, op := Op.extract (Operand.tmp 44) 2, type := 3, pos := "law.go:69", after := #[{ on := 12, ground := Ground.data }, { on := 18, ground := Ground.gcOnly Departure.lateStores }], guard := none } (.int .i64 ((k : Int) + 1)) _ _ _ _ rfl (by kernel_rfl) (by kernel_rfl) (by kernel_rfl) (fun _ _ _ h => h) (Or.inl ⟨by rfl, ?ya15⟩) (by assumption) ?_
        case ya15 => intro w hSw; go_simp
        simp only [Act.put, List.setIfInBounds_toArray, List.set_cons_zero, List.set_cons_succ]
        refine wpAnyH_ready (rs := [16]) (by kernel_rfl) (by simp) ?_
        refine AllReadyH.cons (o := { dst := some 10, op := Op.alloc 23, type := 0, pos := "law.go:69", after := #[], guard := none }) rfl (fun K hK => ?_) AllReadyH.nil
        go_simp
        have hZ := fun (_ : true = true) => zAl0 hb
        have hb0 := hb
        have hb := below_al (o := jO) hb
        refine hK.out _ _ hb ?_
        intro hb4
        clear hb4
        have z := hZ rfl
        have zlo := z.lo
        have c0 := z.lies.cell (j := 0) rfl; have c1' := z.lies.cell (j := 1) rfl; have c2 := z.lies.cell (j := 2) rfl; have c3 := z.lies.cell (j := 3) rfl; have c4 := z.lies.cell (j := 4) rfl; have c5 := z.lies.cell (j := 5) rfl; have c6 := z.lies.cell (j := 6) rfl; have c7 := z.lies.cell (j := 7) rfl
        have f0 := z.lies.free 0; have f1 := z.lies.free 1; have f2 := z.lies.free 2; have f3 := z.lies.free 3; have f4 := z.lies.free 4; have f5 := z.lies.free 5; have f6 := z.lies.free 6; have f7 := z.lies.free 7
        clear z
        refine wpAnyH_ready (rs := [17]) (by kernel_rfl) (by simp) ?_
        refine AllReadyH.cons (o := { dst := none, op := Op.store 23 (Operand.tmp 10) (Operand.tmp 57), type := 0, pos := "law.go:69", after := #[{ on := 16, ground := Ground.data }, { on := 13, ground := Ground.data }, { on := 11, ground := Ground.chain }, { on := 0, ground := Ground.phase }, { on := 1, ground := Ground.phase }, { on := 2, ground := Ground.phase }, { on := 3, ground := Ground.phase }, { on := 4, ground := Ground.phase }, { on := 5, ground := Ground.phase }, { on := 6, ground := Ground.phase }, { on := 7, ground := Ground.phase }, { on := 8, ground := Ground.phase }, { on := 9, ground := Ground.phase }, { on := 10, ground := Ground.phase }, { on := 11, ground := Ground.phase }, { on := 12, ground := Ground.phase }, { on := 13, ground := Ground.phase }, { on := 14, ground := Ground.textOnly Departure.lateStores }, { on := 15, ground := Ground.textOnly Departure.lateStores }, { on := 16, ground := Ground.phase }], guard := none }) rfl (fun K hK => ?_) AllReadyH.nil
        go_simp
        refine hK.out _ _ ?_ ?_
        · first | with_reducible exact below_al hb0 | with_reducible exact below_set (below_set (below_set (below_set (below_set (below_set (below_set (below_set hb zlo) zlo) zlo) zlo) zlo) zlo) zlo) zlo
        intro hb4
        refine anyW hb4 ?_
        clear hb0 hb4 c0 c1' c2 c3 c4 c5 c6 c7 f0 f1 f2 f3 f4 f5 f6 f7 zlo hb hZ hn
        intro X hb4
        refine @wpAnyH_take _ _ _ _ _ 18 { dst := some 11, op := Op.assign (Operand.tmp 58), type := 24, pos := "law.go:69", after := #[{ on := 14, ground := Ground.data }, { on := 17, ground := Ground.chain }, { on := 0, ground := Ground.phase }, { on := 1, ground := Ground.phase }, { on := 2, ground := Ground.phase }, { on := 3, ground := Ground.phase }, { on := 4, ground := Ground.phase }, { on := 5, ground := Ground.phase }, { on := 6, ground := Ground.phase }, { on := 7, ground := Ground.phase }, { on := 8, ground := Ground.phase }, { on := 9, ground := Ground.phase }, { on := 10, ground := Ground.phase }, { on := 11, ground := Ground.phase }, { on := 12, ground := Ground.phase }, { on := 13, ground := Ground.phase }, { on := 14, ground := Ground.phase }, { on := 15, ground := Ground.textOnly Departure.lateStores }, { on := 16, ground := Ground.phase }, { on := 17, ground := Ground.phase }], guard := none } (.int .i64 131) _ _ _ _ rfl (by kernel_rfl) (by kernel_rfl) (by kernel_rfl) (fun _ _ _ h => h) (Or.inl ⟨by rfl, ?ya18⟩) (by assumption) ?_
        case ya18 => intro w hSw; go_simp
        simp only [Act.put, List.setIfInBounds_toArray, List.set_cons_zero, List.set_cons_succ]
        refine @wpAnyH_take _ _ _ _ _ 19 { dst := some 12, op := Op.assign (Operand.tmp 59), type := 3, pos := "law.go:69", after := #[{ on := 15, ground := Ground.data }, { on := 18, ground := Ground.chain }, { on := 0, ground := Ground.phase }, { on := 1, ground := Ground.phase }, { on := 2, ground := Ground.phase }, { on := 3, ground := Ground.phase }, { on := 4, ground := Ground.phase }, { on := 5, ground := Ground.phase }, { on := 6, ground := Ground.phase }, { on := 7, ground := Ground.phase }, { on := 8, ground := Ground.phase }, { on := 9, ground := Ground.phase }, { on := 10, ground := Ground.phase }, { on := 11, ground := Ground.phase }, { on := 12, ground := Ground.phase }, { on := 13, ground := Ground.phase }, { on := 14, ground := Ground.phase }, { on := 15, ground := Ground.phase }, { on := 16, ground := Ground.phase }, { on := 17, ground := Ground.phase }, { on := 18, ground := Ground.phase }], guard := none } (.int .i64 ((k : Int) + 1)) _ _ _ _ rfl (by kernel_rfl) (by kernel_rfl) (by kernel_rfl) (fun _ _ _ h => h) (Or.inl ⟨by rfl, ?ya19⟩) (by assumption) ?_
        case ya19 => intro w hSw; go_simp
        simp only [Act.put, List.setIfInBounds_toArray, List.set_cons_zero, List.set_cons_succ]
        refine wpAnyH_done (by kernel_rfl) ?_ _
        refine NoPanic.normal ?_
        go_wp2_with fail
        refine (HM.out _ (VX.out _ hb4)).mono ?_
        rintro e w6 ⟨rfl, hb6⟩
        have B6 := Lib.hid (below_next B2.out (below_next hb4 hb6))
        clear hb6
        rcases EE.out with ⟨rfl, rfl⟩ | ⟨hne, rfl, rfl⟩
        · go_wp2_with fail
          go_ret
          exact ⟨by first | rfl | simp, by first | exact B6.out | exact below_al B6.out⟩
        · have hmf : (more == []) = false := by simpa using hne
          go_wp2_with fail
          go_ret
          exact ⟨by first | rfl | simp, by first | exact B6.out | exact below_al B6.out⟩
      · simp at hn
end Jo
end Go.Proofs.YtileonenphmkkaaDoor
