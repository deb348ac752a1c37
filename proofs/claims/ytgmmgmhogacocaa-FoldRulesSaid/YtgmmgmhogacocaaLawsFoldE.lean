/- The walk of FoldRules. -/
import Derived.Test.YtgmmgmhogacocaaLawsFoldB
import Derived.Test.YtgmmgmhogacocaaWays
namespace Go.Proofs.Ytgmmgmhogacocaa
open Go.ChangeShapes Go.WideShapes Go.ChangeAt Go.RowKit
open Acm
set_option linter.unusedVariables false
set_option linter.unusedSimpArgs false
theorem jn_ret {w wF : World} {R : Nat} {x : Ac} {act : Act} (ht : act.tmps.getD 5 undef = .pointer (some ⟨R, 0, none⟩)) (hd : act.defers = []) (hL : Lies R (acC x) 25 wF) (hB : Below w.heap.size w wF) :
    bodyPost Try.prog Try.f18 (Gives (acV x) w) .ret act wF := by
  have c0 := hL.cell (j := 0) rfl
  have c1 := hL.cell (j := 1) rfl
  have c2 := hL.cell (j := 2) rfl
  refine bodyPost_ret (v := acV x) ?_ hd ⟨rfl, hB⟩
  have ht2 : act.tmps[5]?.getD undef = .pointer (some ⟨R, 0, none⟩) := by simpa using ht
  simp [results, Try.results18, go_sem, ht2, c0, c1, c2]
theorem lwJoin (k : Int) (x y : Ac) (b : Nat) (w : World) (hk : w.cell? ⟨b, 0, none⟩ = some (.int .i64 k)) :
    Calls Try.prog 18 #[acV x, acV y, .pointer (some ⟨b, 0, none⟩)] w (Gives (acV (join k x y)) w) := by
  have HJ := Lib.hid (fun w => gives_ac (foldJoin k x y w))
  have hlt := lt_of_cell hk
  have hlt : b < w.heap.size := hlt
  have hn0 : b ≠ w.heap.size := by omega
  have hn1 : b ≠ w.heap.size + 1 := by omega
  have hn2 : b ≠ w.heap.size + 1 + 1 := by omega
  have hl1 : b < w.heap.size + 1 := by omega
  have hl2 : b < w.heap.size + 1 + 1 := by omega
  have Z1 := Lib.hid (show Lies (w.heap.size + 1 + 1) (acC zero) 25 (((w.alloc (.cells (acC x) 25)).alloc (.cells (acC y) 25)).alloc (.cells (acC zero) 25)) from by
    simpa only [World.size_alloc] using Lies.new ((w.alloc (.cells (acC x) 25)).alloc (.cells (acC y) 25)) (acC zero) 25)
  have B1 := Lib.hid (below_al (o := .cells (acC zero) 25) (below_al (o := .cells (acC y) 25) (below_al (o := .cells (acC x) 25) (Below.refl w.heap.size w))))
  go_enter Try.func18, Try.ntmps18
  go_wp2_with fail
  refine (HJ.out _).mono ?_
  rintro e w5 ⟨rfl, hb5⟩
  have Z5 := Lib.hid (Z1.out.below hb5)
  have B5 := Lib.hid (below_next B1.out hb5)
  have z0 := Z5.out.cell (j := 0) rfl; have z1 := Z5.out.cell (j := 1) rfl; have z2 := Z5.out.cell (j := 2) rfl
  have f0 := Z5.out.free 0; have f1 := Z5.out.free 1; have f2 := Z5.out.free 2
  clear hb5
  go_wp2_with fail
  exact jn_ret (R := w.heap.size + 1 + 1) rfl rfl (Z5.out.set3 _ _ _) (below_set3 B5.out (by omega) _ _ _)
theorem keepK {W a b : World} {p : Addr} {u : Value} (hb : Below a.heap.size a b) (h : a.cell? p = some u ∧ Below W.heap.size W a) : b.cell? p = some u ∧ Below W.heap.size W b :=
  ⟨cell_on hb h.1, below_next h.2 hb⟩
theorem keepS {W a : World} {p : Addr} {u : Value} {g : Nat} (h : a.cell? p = some u ∧ Below W.heap.size W a) (hp : p.block ≠ g) (hg : W.heap.size ≤ g) (o : Nat) (v : Value) : (a.setCell ⟨g, o, none⟩ v).cell? p = some u ∧ Below W.heap.size W (a.setCell ⟨g, o, none⟩ v) :=
  ⟨(World.cell?_of_block (w := a) (Below.heap_setCell a ⟨g, o, none⟩ v p.block hp)).trans h.1, h.2.setCell (p := ⟨g, o, none⟩) hg v⟩
theorem keepB10 {W a b : World} {p0 p1 p2 p3 p4 p5 p6 p7 p8 p9 : Addr} {u0 u1 u2 u3 u4 u5 u6 u7 u8 u9 : Value} (hb : Below a.heap.size a b) (h : a.cell? p0 = some u0 ∧ a.cell? p1 = some u1 ∧ a.cell? p2 = some u2 ∧ a.cell? p3 = some u3 ∧ a.cell? p4 = some u4 ∧ a.cell? p5 = some u5 ∧ a.cell? p6 = some u6 ∧ a.cell? p7 = some u7 ∧ a.cell? p8 = some u8 ∧ a.cell? p9 = some u9 ∧ Below W.heap.size W a) : b.cell? p0 = some u0 ∧ b.cell? p1 = some u1 ∧ b.cell? p2 = some u2 ∧ b.cell? p3 = some u3 ∧ b.cell? p4 = some u4 ∧ b.cell? p5 = some u5 ∧ b.cell? p6 = some u6 ∧ b.cell? p7 = some u7 ∧ b.cell? p8 = some u8 ∧ b.cell? p9 = some u9 ∧ Below W.heap.size W b :=
  ⟨cell_on hb h.1, cell_on hb h.2.1, cell_on hb h.2.2.1, cell_on hb h.2.2.2.1, cell_on hb h.2.2.2.2.1, cell_on hb h.2.2.2.2.2.1, cell_on hb h.2.2.2.2.2.2.1, cell_on hb h.2.2.2.2.2.2.2.1, cell_on hb h.2.2.2.2.2.2.2.2.1, cell_on hb h.2.2.2.2.2.2.2.2.2.1, below_next h.2.2.2.2.2.2.2.2.2.2 hb⟩
/-- Which operations of the row have come up. -/
def lst (p : Nat) (x y z : Bool) : Array Bool := #[true, true, decide (1 ≤ p), decide (2 ≤ p), true, true, decide (3 ≤ p), decide (4 ≤ p), true, true, decide (5 ≤ p), decide (6 ≤ p), x, y, z, false, false, false]
def pt (x : Bool) (g : Nat) : Value := bif x then .pointer (some ⟨g, 0, none⟩) else undef
def cl (p m : Nat) (v : Value) : Value := bif decide (m ≤ p) then v else undef
/-- The three accumulators' blocks, as far as they are laid; the kind's box; old blocks. -/
structure Laid (w : World) (k : Int) (x y z : Bool) (g9 g10 g11 : Nat) (w' : World) : Prop where
  s : w'.cell? ⟨w.heap.size, 0, none⟩ = some (.int .i64 k) ∧ Below w.heap.size w w'
  h9 : x = true → w.heap.size < g9 ∧ Lies g9 (acC zero) 25 w'
  h10 : y = true → w.heap.size < g10 ∧ Lies g10 (acC zero) 25 w'
  h11 : z = true → w.heap.size < g11 ∧ Lies g11 (acC zero) 25 w'
  a1 : x = true → y = true → g9 ≠ g10
  a2 : x = true → z = true → g9 ≠ g11
  a3 : y = true → z = true → g10 ≠ g11
theorem Laid.below {w : World} {k : Int} {x y z : Bool} {g9 g10 g11 : Nat} {w' w5 : World} (h : Laid w k x y z g9 g10 g11 w') (hb : Below w'.heap.size w' w5) : Laid w k x y z g9 g10 g11 w5 :=
  ⟨keepK hb h.s, fun e => ⟨(h.h9 e).1, (h.h9 e).2.below hb⟩, fun e => ⟨(h.h10 e).1, (h.h10 e).2.below hb⟩, fun e => ⟨(h.h11 e).1, (h.h11 e).2.below hb⟩, h.a1, h.a2, h.a3⟩
theorem Laid.lt {w : World} {k : Int} {x y z : Bool} {g9 g10 g11 : Nat} {w' : World} (h : Laid w k x y z g9 g10 g11 w') : w.heap.size < w'.heap.size := lt_of_cell h.s.1
theorem lies_ne {g : Nat} {C : Array Value} {T : TypeId} {w : World} (h : Lies g C T w) : g ≠ w.heap.size := by have := lt_of_block h; omega
theorem Laid.new9 {w : World} {k : Int} {y z : Bool} {g9 g10 g11 : Nat} {w' : World} (h : Laid w k false y z g9 g10 g11 w') : Laid w k true y z w'.heap.size g10 g11 (w'.alloc (.cells (acC zero) 25)) :=
  have hb := below_al (o := .cells (acC zero) 25) (Below.refl w'.heap.size w')
  ⟨keepK hb h.s, fun _ => ⟨h.lt, Lies.new _ _ _⟩, fun e => ⟨(h.h10 e).1, (h.h10 e).2.below hb⟩, fun e => ⟨(h.h11 e).1, (h.h11 e).2.below hb⟩, fun _ e => (lies_ne (h.h10 e).2).symm, fun _ e => (lies_ne (h.h11 e).2).symm, h.a3⟩
theorem Laid.new10 {w : World} {k : Int} {x z : Bool} {g9 g10 g11 : Nat} {w' : World} (h : Laid w k x false z g9 g10 g11 w') : Laid w k x true z g9 w'.heap.size g11 (w'.alloc (.cells (acC zero) 25)) :=
  have hb := below_al (o := .cells (acC zero) 25) (Below.refl w'.heap.size w')
  ⟨keepK hb h.s, fun e => ⟨(h.h9 e).1, (h.h9 e).2.below hb⟩, fun _ => ⟨h.lt, Lies.new _ _ _⟩, fun e => ⟨(h.h11 e).1, (h.h11 e).2.below hb⟩, fun e _ => lies_ne (h.h9 e).2, h.a2, fun _ e => (lies_ne (h.h11 e).2).symm⟩
theorem Laid.new11 {w : World} {k : Int} {x y : Bool} {g9 g10 g11 : Nat} {w' : World} (h : Laid w k x y false g9 g10 g11 w') : Laid w k x y true g9 g10 w'.heap.size (w'.alloc (.cells (acC zero) 25)) :=
  have hb := below_al (o := .cells (acC zero) 25) (Below.refl w'.heap.size w')
  ⟨keepK hb h.s, fun e => ⟨(h.h9 e).1, (h.h9 e).2.below hb⟩, fun e => ⟨(h.h10 e).1, (h.h10 e).2.below hb⟩, fun _ => ⟨h.lt, Lies.new _ _ _⟩, h.a1, fun e _ => lies_ne (h.h9 e).2, fun e _ => lies_ne (h.h10 e).2⟩
set_option maxRecDepth 100000 in
set_option maxHeartbeats 8000000 in
theorem walkFoldRules (k : Int) (A : Option Addr) (c : Nat) (zs : List Int) (D : Option Addr) (d : Nat) (xs : List Int) (E : Option Addr) (e0 : Nat) (us : List Int) (w : World)
    (hl : zs.length ≤ c) (hc : c ≤ 9223372036854775807) (hr : Row w A (zs.map (Value.int .i64))) (hl' : xs.length ≤ d) (hd : d ≤ 9223372036854775807) (hr' : Row w D (xs.map (Value.int .i64)))
    (hl2 : us.length ≤ e0) (he : e0 ≤ 9223372036854775807) (hr2 : Row w E (us.map (Value.int .i64))) :
    Calls Try.prog 6 #[.int .i64 k, .slice A zs.length c, .slice D xs.length d, .slice E us.length e0] w (Yes w) := by
  obtain ⟨ys, hys⟩ : ∃ ys, ys = zs.take 2000 := ⟨_, rfl⟩
  obtain ⟨ms, hms⟩ : ∃ ms, ms = xs.take 2000 := ⟨_, rfl⟩
  obtain ⟨ns, hns⟩ : ∃ ns, ns = us.take 2000 := ⟨_, rfl⟩
  have y1 : ys.length ≤ 2000 := by rw [hys, List.length_take]; omega
  have m1 : ms.length ≤ 2000 := by rw [hms, List.length_take]; omega
  have n1 : ns.length ≤ 2000 := by rw [hns, List.length_take]; omega
  have hyr : Row w A (ys.map (Value.int .i64)) := by rw [hys, List.map_take]; exact hr.first 2000
  have hmr : Row w D (ms.map (Value.int .i64)) := by rw [hms, List.map_take]; exact hr'.first 2000
  have hnr : Row w E (ns.map (Value.int .i64)) := by rw [hns, List.map_take]; exact hr2.first 2000
  obtain ⟨a, ha⟩ : ∃ a, a = all k ys := ⟨_, rfl⟩
  obtain ⟨b, hb⟩ : ∃ b, b = all k ms := ⟨_, rfl⟩
  obtain ⟨f, hf⟩ : ∃ f, f = all k ns := ⟨_, rfl⟩
  have HS1 := Lib.hid (fun w' (hb : w'.cell? ⟨w.heap.size, 0, none⟩ = some (.int .i64 k) ∧ Below w.heap.size w w') => gives_of (show Calls Try.prog 9 #[.slice A zs.length c] w' fun e w'' => e = .returned (.slice A ys.length c) ∧ w' = w'' from hys ▸ lwShort A c zs w' hl hc (hr.below hb.2)))
  have HS2 := Lib.hid (fun w' (hb : w'.cell? ⟨w.heap.size, 0, none⟩ = some (.int .i64 k) ∧ Below w.heap.size w w') => gives_of (show Calls Try.prog 9 #[.slice D xs.length d] w' fun e w'' => e = .returned (.slice D ms.length d) ∧ w' = w'' from hms ▸ lwShort D d xs w' hl' hd (hr'.below hb.2)))
  have HS3 := Lib.hid (fun w' (hb : w'.cell? ⟨w.heap.size, 0, none⟩ = some (.int .i64 k) ∧ Below w.heap.size w w') => gives_of (show Calls Try.prog 9 #[.slice E us.length e0] w' fun e w'' => e = .returned (.slice E ns.length e0) ∧ w' = w'' from hns ▸ lwShort E e0 us w' hl2 he (hr2.below hb.2)))
  have HA1 := Lib.hid (fun w' (hb : w'.cell? ⟨w.heap.size, 0, none⟩ = some (.int .i64 k) ∧ Below w.heap.size w w') => gives_ac (ha ▸ foldAll k A c ys w' (hyr.below hb.2) (by omega)))
  have HA2 := Lib.hid (fun w' (h : w'.cell? ⟨w.heap.size, 0, none⟩ = some (.int .i64 k) ∧ Below w.heap.size w w') => gives_ac (hb ▸ foldAll k D d ms w' (hmr.below h.2) (by omega)))
  have HA3 := Lib.hid (fun w' (h : w'.cell? ⟨w.heap.size, 0, none⟩ = some (.int .i64 k) ∧ Below w.heap.size w w') => gives_ac (hf ▸ foldAll k E e0 ns w' (hnr.below h.2) (by omega)))
  have S0 : (w.alloc (.cells #[.int .i64 k] 3)).drew.cell? ⟨w.heap.size, 0, none⟩ = some (.int .i64 k) ∧ Below w.heap.size w (w.alloc (.cells #[.int .i64 k] 3)).drew := ⟨(Lies.new w #[.int .i64 k] 3).drew.cell (j := 0) rfl, below_drewOf (below_al (Below.refl _ _))⟩
  have hR := rules k ys ms ns y1 m1 n1
  rw [← ha, ← hb, ← hf] at hR
  obtain ⟨r1, hr1⟩ : ∃ r, r = join k a b := ⟨_, rfl⟩
  obtain ⟨r2, hr2'⟩ : ∃ r, r = join k r1 f := ⟨_, rfl⟩
  obtain ⟨r3, hr3⟩ : ∃ r, r = join k b f := ⟨_, rfl⟩
  rw [← hr1, ← hr3, ← hr2'] at hR
  have HJ1 := Lib.hid (show ∀ w' : World, w'.cell? ⟨w.heap.size, 0, none⟩ = some (.int .i64 k) → Calls Try.prog 18 #[acV a, acV b, .pointer (some ⟨w.heap.size, 0, none⟩)] w' (Gives (acV r1) w') from fun w' h => (hr1.symm) ▸ lwJoin k a b w.heap.size w' h)
  have HJ2 := Lib.hid (show ∀ w' : World, w'.cell? ⟨w.heap.size, 0, none⟩ = some (.int .i64 k) → Calls Try.prog 18 #[acV b, acV a, .pointer (some ⟨w.heap.size, 0, none⟩)] w' (Gives (acV r1) w') from fun w' h => (hR.1) ▸ lwJoin k b a w.heap.size w' h)
  have HJ3 := Lib.hid (show ∀ w' : World, w'.cell? ⟨w.heap.size, 0, none⟩ = some (.int .i64 k) → Calls Try.prog 18 #[acV r1, acV f, .pointer (some ⟨w.heap.size, 0, none⟩)] w' (Gives (acV r2) w') from fun w' h => (hr2'.symm) ▸ lwJoin k r1 f w.heap.size w' h)
  have HJ4 := Lib.hid (show ∀ w' : World, w'.cell? ⟨w.heap.size, 0, none⟩ = some (.int .i64 k) → Calls Try.prog 18 #[acV b, acV f, .pointer (some ⟨w.heap.size, 0, none⟩)] w' (Gives (acV r3) w') from fun w' h => (hr3.symm) ▸ lwJoin k b f w.heap.size w' h)
  have HJ5 := Lib.hid (show ∀ w' : World, w'.cell? ⟨w.heap.size, 0, none⟩ = some (.int .i64 k) → Calls Try.prog 18 #[acV a, acV r3, .pointer (some ⟨w.heap.size, 0, none⟩)] w' (Gives (acV r2) w') from fun w' h => (hR.2.1) ▸ lwJoin k a r3 w.heap.size w' h)
  have HJ6 := Lib.hid (show ∀ w' : World, w'.cell? ⟨w.heap.size, 0, none⟩ = some (.int .i64 k) → Calls Try.prog 18 #[acV a, acV zero, .pointer (some ⟨w.heap.size, 0, none⟩)] w' (Gives (acV a) w') from fun w' h => by have h2 := lwJoin k a zero w.heap.size w' h; rwa [hR.2.2.1] at h2)
  have HJ7 := Lib.hid (show ∀ w' : World, w'.cell? ⟨w.heap.size, 0, none⟩ = some (.int .i64 k) → Calls Try.prog 18 #[acV zero, acV a, .pointer (some ⟨w.heap.size, 0, none⟩)] w' (Gives (acV a) w') from fun w' h => by have h2 := lwJoin k zero a w.heap.size w' h; rwa [hR.2.2.2] at h2)
  have hE1 := run_same r1
  have hE2 := run_same r2
  have hE3 := run_same a
  have HR := Lib.hid (fun w => gives_of (foldRight 1 w))
  have h1 : isK 1 = true := rfl
  clear hys hms hns ha hb hf hyr hmr hnr hr hr' hr2 hl hl' hl2 hc hd he hR hr1 hr2' hr3
  go_enter Try.func6, Try.ntmps6
  go_wp2_with fail
  generalize w.alloc (.cells #[.int .i64 k] 3) = w1 at S0 ⊢
  refine wp_region_noPanic ?_
  refine wp_region_held_drew (S := fun w' => w'.cell? ⟨w.heap.size, 0, none⟩ = some (.int .i64 k) ∧ Below w.heap.size w w') (by kernel_rfl) S0 (fun hHeld => ?_)
  refine @wpAnyH_take _ _ _ _ _ 0 { dst := some 13, op := Op.load 3 (Operand.tmp 4), type := 3, pos := "law.go:41", after := #[], guard := none } (.int .i64 k) _ _ _ _ rfl (by kernel_rfl) (by kernel_rfl) (by kernel_rfl) (fun _ _ _ h => h) (Or.inl ⟨by rfl, ?y0⟩) (by assumption) ?_
  case y0 => intro w hSw; go_simp
  simp only [Act.put, List.setIfInBounds_toArray, List.set_cons_zero, List.set_cons_succ]
  refine @wpAnyH_take _ _ _ _ _ 1 { dst := some 14, op := Op.move (Operand.tmp 1), type := 22, pos := "law.go:41", after := #[], guard := none } (.slice A zs.length c) _ _ _ _ rfl (by kernel_rfl) (by kernel_rfl) (by kernel_rfl) (fun _ _ _ h => h) (Or.inl ⟨by rfl, ?y1⟩) (by assumption) ?_
  case y1 => intro w hSw; go_simp
  simp only [Act.put, List.setIfInBounds_toArray, List.set_cons_zero, List.set_cons_succ]
  refine @wpAnyH_take _ _ _ _ _ 4 { dst := some 17, op := Op.load 3 (Operand.tmp 4), type := 3, pos := "law.go:41", after := #[], guard := none } (.int .i64 k) _ _ _ _ rfl (by kernel_rfl) (by kernel_rfl) (by kernel_rfl) (fun _ _ _ h => h) (Or.inl ⟨by rfl, ?y4⟩) (by assumption) ?_
  case y4 => intro w hSw; go_simp
  simp only [Act.put, List.setIfInBounds_toArray, List.set_cons_zero, List.set_cons_succ]
  refine @wpAnyH_take _ _ _ _ _ 5 { dst := some 18, op := Op.move (Operand.tmp 2), type := 22, pos := "law.go:41", after := #[], guard := none } (.slice D xs.length d) _ _ _ _ rfl (by kernel_rfl) (by kernel_rfl) (by kernel_rfl) (fun _ _ _ h => h) (Or.inl ⟨by rfl, ?y5⟩) (by assumption) ?_
  case y5 => intro w hSw; go_simp
  simp only [Act.put, List.setIfInBounds_toArray, List.set_cons_zero, List.set_cons_succ]
  refine @wpAnyH_take _ _ _ _ _ 8 { dst := some 21, op := Op.load 3 (Operand.tmp 4), type := 3, pos := "law.go:41", after := #[], guard := none } (.int .i64 k) _ _ _ _ rfl (by kernel_rfl) (by kernel_rfl) (by kernel_rfl) (fun _ _ _ h => h) (Or.inl ⟨by rfl, ?y8⟩) (by assumption) ?_
  case y8 => intro w hSw; go_simp
  simp only [Act.put, List.setIfInBounds_toArray, List.set_cons_zero, List.set_cons_succ]
  refine @wpAnyH_take _ _ _ _ _ 9 { dst := some 22, op := Op.move (Operand.tmp 3), type := 22, pos := "law.go:41", after := #[], guard := none } (.slice E us.length e0) _ _ _ _ rfl (by kernel_rfl) (by kernel_rfl) (by kernel_rfl) (fun _ _ _ h => h) (Or.inl ⟨by rfl, ?y9⟩) (by assumption) ?_
  case y9 => intro w hSw; go_simp
  simp only [Act.put, List.setIfInBounds_toArray, List.set_cons_zero, List.set_cons_succ]
  refine any_ways (Inv := (fun (n : Nat) (listed : Array Bool) (act : Act) (w' : World) => ∃ (p : Nat) (x y z : Bool) (g9 g10 g11 : Nat), p ≤ 6 ∧ n + p + x.toNat + y.toNat + z.toNat = 9 ∧ listed = lst p x y z ∧ act = { tmps := #[.int .i64 k, .slice A zs.length c, .slice D xs.length d, .slice E us.length e0, .pointer (some ⟨w.heap.size, 0, none⟩), undef, undef, undef, .bool false, pt x g9, pt y g10, pt z g11, undef, .int .i64 k, .slice A zs.length c, cl p 1 (.slice A ys.length c), cl p 2 (acV a), .int .i64 k, .slice D xs.length d, cl p 3 (.slice D ms.length d), cl p 4 (acV b), .int .i64 k, .slice E us.length e0, cl p 5 (.slice E ns.length e0), cl p 6 (acV f), undef, undef, undef, undef, undef, undef, undef, undef, undef, undef, undef, undef, undef, undef, undef, undef, undef, undef, undef, undef, undef, undef, undef, undef, undef, undef, undef, undef, undef, undef, undef, undef, undef, undef, undef, undef, undef, undef, undef, undef, undef, undef, undef, undef, undef, undef], defers := [] } ∧ Laid w k x y z g9 g10 g11 w')) (m := 3) ?hS ?hend ?hstep 9 _ _ _ ⟨0, false, false, false, 0, 0, 0, by decide, by rfl, by kernel_rfl, rfl, ⟨S0, (fun h => absurd h Bool.false_ne_true), (fun h => absurd h Bool.false_ne_true), (fun h => absurd h Bool.false_ne_true), (fun h => absurd h Bool.false_ne_true), (fun h => absurd h Bool.false_ne_true), (fun h => absurd h Bool.false_ne_true)⟩⟩
  case hS =>
    rintro n listed act w' ⟨p, x, y, z, g9, g10, g11, _, _, _, _, hM⟩
    exact hM.s
  case hstep =>
    clear hHeld S0
    rintro n listed act w' ⟨p, x, y, z, g9, g10, g11, hp, hn, rfl, rfl, hM⟩
    have hp7 : p = 0 ∨ p = 1 ∨ p = 2 ∨ p = 3 ∨ p = 4 ∨ p = 5 ∨ p = 6 := by omega
    clear hp
    rcases hp7 with rfl | rfl | rfl | rfl | rfl | rfl | rfl <;> cases x <;> cases y <;> cases z
    · refine ⟨[2, 12, 13, 14], by kernel_rfl, by simp, ?_⟩
      change Steps _ _ _ _ _ { tmps := #[.int .i64 k, .slice A zs.length c, .slice D xs.length d, .slice E us.length e0, .pointer (some ⟨w.heap.size, 0, none⟩), undef, undef, undef, .bool false, undef, undef, undef, undef, .int .i64 k, .slice A zs.length c, undef, undef, .int .i64 k, .slice D xs.length d, undef, undef, .int .i64 k, .slice E us.length e0, undef, undef, undef, undef, undef, undef, undef, undef, undef, undef, undef, undef, undef, undef, undef, undef, undef, undef, undef, undef, undef, undef, undef, undef, undef, undef, undef, undef, undef, undef, undef, undef, undef, undef, undef, undef, undef, undef, undef, undef, undef, undef, undef, undef, undef, undef, undef, undef], defers := [] } _ _
      refine Steps.cons (o := { dst := some 15, op := Op.call { callee := Callee.value (Operand.func 9), args := #[Operand.tmp 14], argTypes := #[22] }, type := 22, pos := "law.go:41", after := #[{ on := 1, ground := Ground.data }], guard := none }) rfl (fun K hK => ?_) (Steps.cons (o := { dst := some 9, op := Op.alloc 25, type := 0, pos := "law.go:41", after := #[], guard := none }) rfl (fun K hK => ?_) (Steps.cons (o := { dst := some 10, op := Op.alloc 25, type := 0, pos := "law.go:41", after := #[], guard := none }) rfl (fun K hK => ?_) (Steps.cons (o := { dst := some 11, op := Op.alloc 25, type := 0, pos := "law.go:41", after := #[], guard := none }) rfl (fun K hK => ?_) Steps.nil)))
      · go_simp
        go_at_call 9
        refine (HS1.out _ hM.s).mono ?_
        rintro e w5 ⟨rfl, hb5⟩
        exact hK.out _ _ ⟨1, false, false, false, g9, g10, g11, by decide, by simp only [Bool.toNat_true, Bool.toNat_false] at hn ⊢; omega, by kernel_rfl, rfl, hM.below hb5⟩
      · go_simp
        exact hK.out _ _ ⟨0, true, false, false, _, g10, g11, by decide, by simp only [Bool.toNat_true, Bool.toNat_false] at hn ⊢; omega, by kernel_rfl, rfl, hM.new9⟩
      · go_simp
        exact hK.out _ _ ⟨0, false, true, false, g9, _, g11, by decide, by simp only [Bool.toNat_true, Bool.toNat_false] at hn ⊢; omega, by kernel_rfl, rfl, hM.new10⟩
      · go_simp
        exact hK.out _ _ ⟨0, false, false, true, g9, g10, _, by decide, by simp only [Bool.toNat_true, Bool.toNat_false] at hn ⊢; omega, by kernel_rfl, rfl, hM.new11⟩
    · refine ⟨[2, 12, 13], by kernel_rfl, by simp, ?_⟩
      change Steps _ _ _ _ _ { tmps := #[.int .i64 k, .slice A zs.length c, .slice D xs.length d, .slice E us.length e0, .pointer (some ⟨w.heap.size, 0, none⟩), undef, undef, undef, .bool false, undef, undef, .pointer (some ⟨g11, 0, none⟩), undef, .int .i64 k, .slice A zs.length c, undef, undef, .int .i64 k, .slice D xs.length d, undef, undef, .int .i64 k, .slice E us.length e0, undef, undef, undef, undef, undef, undef, undef, undef, undef, undef, undef, undef, undef, undef, undef, undef, undef, undef, undef, undef, undef, undef, undef, undef, undef, undef, undef, undef, undef, undef, undef, undef, undef, undef, undef, undef, undef, undef, undef, undef, undef, undef, undef, undef, undef, undef, undef, undef], defers := [] } _ _
      refine Steps.cons (o := { dst := some 15, op := Op.call { callee := Callee.value (Operand.func 9), args := #[Operand.tmp 14], argTypes := #[22] }, type := 22, pos := "law.go:41", after := #[{ on := 1, ground := Ground.data }], guard := none }) rfl (fun K hK => ?_) (Steps.cons (o := { dst := some 9, op := Op.alloc 25, type := 0, pos := "law.go:41", after := #[], guard := none }) rfl (fun K hK => ?_) (Steps.cons (o := { dst := some 10, op := Op.alloc 25, type := 0, pos := "law.go:41", after := #[], guard := none }) rfl (fun K hK => ?_) Steps.nil))
      · go_simp
        go_at_call 9
        refine (HS1.out _ hM.s).mono ?_
        rintro e w5 ⟨rfl, hb5⟩
        exact hK.out _ _ ⟨1, false, false, true, g9, g10, g11, by decide, by simp only [Bool.toNat_true, Bool.toNat_false] at hn ⊢; omega, by kernel_rfl, rfl, hM.below hb5⟩
      · go_simp
        exact hK.out _ _ ⟨0, true, false, true, _, g10, g11, by decide, by simp only [Bool.toNat_true, Bool.toNat_false] at hn ⊢; omega, by kernel_rfl, rfl, hM.new9⟩
      · go_simp
        exact hK.out _ _ ⟨0, false, true, true, g9, _, g11, by decide, by simp only [Bool.toNat_true, Bool.toNat_false] at hn ⊢; omega, by kernel_rfl, rfl, hM.new10⟩
    · refine ⟨[2, 12, 14], by kernel_rfl, by simp, ?_⟩
      change Steps _ _ _ _ _ { tmps := #[.int .i64 k, .slice A zs.length c, .slice D xs.length d, .slice E us.length e0, .pointer (some ⟨w.heap.size, 0, none⟩), undef, undef, undef, .bool false, undef, .pointer (some ⟨g10, 0, none⟩), undef, undef, .int .i64 k, .slice A zs.length c, undef, undef, .int .i64 k, .slice D xs.length d, undef, undef, .int .i64 k, .slice E us.length e0, undef, undef, undef, undef, undef, undef, undef, undef, undef, undef, undef, undef, undef, undef, undef, undef, undef, undef, undef, undef, undef, undef, undef, undef, undef, undef, undef, undef, undef, undef, undef, undef, undef, undef, undef, undef, undef, undef, undef, undef, undef, undef, undef, undef, undef, undef, undef, undef], defers := [] } _ _
      refine Steps.cons (o := { dst := some 15, op := Op.call { callee := Callee.value (Operand.func 9), args := #[Operand.tmp 14], argTypes := #[22] }, type := 22, pos := "law.go:41", after := #[{ on := 1, ground := Ground.data }], guard := none }) rfl (fun K hK => ?_) (Steps.cons (o := { dst := some 9, op := Op.alloc 25, type := 0, pos := "law.go:41", after := #[], guard := none }) rfl (fun K hK => ?_) (Steps.cons (o := { dst := some 11, op := Op.alloc 25, type := 0, pos := "law.go:41", after := #[], guard := none }) rfl (fun K hK => ?_) Steps.nil))
      · go_simp
        go_at_call 9
        refine (HS1.out _ hM.s).mono ?_
        rintro e w5 ⟨rfl, hb5⟩
        exact hK.out _ _ ⟨1, false, true, false, g9, g10, g11, by decide, by simp only [Bool.toNat_true, Bool.toNat_false] at hn ⊢; omega, by kernel_rfl, rfl, hM.below hb5⟩
      · go_simp
        exact hK.out _ _ ⟨0, true, true, false, _, g10, g11, by decide, by simp only [Bool.toNat_true, Bool.toNat_false] at hn ⊢; omega, by kernel_rfl, rfl, hM.new9⟩
      · go_simp
        exact hK.out _ _ ⟨0, false, true, true, g9, g10, _, by decide, by simp only [Bool.toNat_true, Bool.toNat_false] at hn ⊢; omega, by kernel_rfl, rfl, hM.new11⟩
    · refine ⟨[2, 12], by kernel_rfl, by simp, ?_⟩
      change Steps _ _ _ _ _ { tmps := #[.int .i64 k, .slice A zs.length c, .slice D xs.length d, .slice E us.length e0, .pointer (some ⟨w.heap.size, 0, none⟩), undef, undef, undef, .bool false, undef, .pointer (some ⟨g10, 0, none⟩), .pointer (some ⟨g11, 0, none⟩), undef, .int .i64 k, .slice A zs.length c, undef, undef, .int .i64 k, .slice D xs.length d, undef, undef, .int .i64 k, .slice E us.length e0, undef, undef, undef, undef, undef, undef, undef, undef, undef, undef, undef, undef, undef, undef, undef, undef, undef, undef, undef, undef, undef, undef, undef, undef, undef, undef, undef, undef, undef, undef, undef, undef, undef, undef, undef, undef, undef, undef, undef, undef, undef, undef, undef, undef, undef, undef, undef, undef], defers := [] } _ _
      refine Steps.cons (o := { dst := some 15, op := Op.call { callee := Callee.value (Operand.func 9), args := #[Operand.tmp 14], argTypes := #[22] }, type := 22, pos := "law.go:41", after := #[{ on := 1, ground := Ground.data }], guard := none }) rfl (fun K hK => ?_) (Steps.cons (o := { dst := some 9, op := Op.alloc 25, type := 0, pos := "law.go:41", after := #[], guard := none }) rfl (fun K hK => ?_) Steps.nil)
      · go_simp
        go_at_call 9
        refine (HS1.out _ hM.s).mono ?_
        rintro e w5 ⟨rfl, hb5⟩
        exact hK.out _ _ ⟨1, false, true, true, g9, g10, g11, by decide, by simp only [Bool.toNat_true, Bool.toNat_false] at hn ⊢; omega, by kernel_rfl, rfl, hM.below hb5⟩
      · go_simp
        exact hK.out _ _ ⟨0, true, true, true, _, g10, g11, by decide, by simp only [Bool.toNat_true, Bool.toNat_false] at hn ⊢; omega, by kernel_rfl, rfl, hM.new9⟩
    · refine ⟨[2, 13, 14], by kernel_rfl, by simp, ?_⟩
      change Steps _ _ _ _ _ { tmps := #[.int .i64 k, .slice A zs.length c, .slice D xs.length d, .slice E us.length e0, .pointer (some ⟨w.heap.size, 0, none⟩), undef, undef, undef, .bool false, .pointer (some ⟨g9, 0, none⟩), undef, undef, undef, .int .i64 k, .slice A zs.length c, undef, undef, .int .i64 k, .slice D xs.length d, undef, undef, .int .i64 k, .slice E us.length e0, undef, undef, undef, undef, undef, undef, undef, undef, undef, undef, undef, undef, undef, undef, undef, undef, undef, undef, undef, undef, undef, undef, undef, undef, undef, undef, undef, undef, undef, undef, undef, undef, undef, undef, undef, undef, undef, undef, undef, undef, undef, undef, undef, undef, undef, undef, undef, undef], defers := [] } _ _
      refine Steps.cons (o := { dst := some 15, op := Op.call { callee := Callee.value (Operand.func 9), args := #[Operand.tmp 14], argTypes := #[22] }, type := 22, pos := "law.go:41", after := #[{ on := 1, ground := Ground.data }], guard := none }) rfl (fun K hK => ?_) (Steps.cons (o := { dst := some 10, op := Op.alloc 25, type := 0, pos := "law.go:41", after := #[], guard := none }) rfl (fun K hK => ?_) (Steps.cons (o := { dst := some 11, op := Op.alloc 25, type := 0, pos := "law.go:41", after := #[], guard := none }) rfl (fun K hK => ?_) Steps.nil))
      · go_simp
        go_at_call 9
        refine (HS1.out _ hM.s).mono ?_
        rintro e w5 ⟨rfl, hb5⟩
        exact hK.out _ _ ⟨1, true, false, false, g9, g10, g11, by decide, by simp only [Bool.toNat_true, Bool.toNat_false] at hn ⊢; omega, by kernel_rfl, rfl, hM.below hb5⟩
      · go_simp
        exact hK.out _ _ ⟨0, true, true, false, g9, _, g11, by decide, by simp only [Bool.toNat_true, Bool.toNat_false] at hn ⊢; omega, by kernel_rfl, rfl, hM.new10⟩
      · go_simp
        exact hK.out _ _ ⟨0, true, false, true, g9, g10, _, by decide, by simp only [Bool.toNat_true, Bool.toNat_false] at hn ⊢; omega, by kernel_rfl, rfl, hM.new11⟩
    · refine ⟨[2, 13], by kernel_rfl, by simp, ?_⟩
      change Steps _ _ _ _ _ { tmps := #[.int .i64 k, .slice A zs.length c, .slice D xs.length d, .slice E us.length e0, .pointer (some ⟨w.heap.size, 0, none⟩), undef, undef, undef, .bool false, .pointer (some ⟨g9, 0, none⟩), undef, .pointer (some ⟨g11, 0, none⟩), undef, .int .i64 k, .slice A zs.length c, undef, undef, .int .i64 k, .slice D xs.length d, undef, undef, .int .i64 k, .slice E us.length e0, undef, undef, undef, undef, undef, undef, undef, undef, undef, undef, undef, undef, undef, undef, undef, undef, undef, undef, undef, undef, undef, undef, undef, undef, undef, undef, undef, undef, undef, undef, undef, undef, undef, undef, undef, undef, undef, undef, undef, undef, undef, undef, undef, undef, undef, undef, undef, undef], defers := [] } _ _
      refine Steps.cons (o := { dst := some 15, op := Op.call { callee := Callee.value (Operand.func 9), args := #[Operand.tmp 14], argTypes := #[22] }, type := 22, pos := "law.go:41", after := #[{ on := 1, ground := Ground.data }], guard := none }) rfl (fun K hK => ?_) (Steps.cons (o := { dst := some 10, op := Op.alloc 25, type := 0, pos := "law.go:41", after := #[], guard := none }) rfl (fun K hK => ?_) Steps.nil)
      · go_simp
        go_at_call 9
        refine (HS1.out _ hM.s).mono ?_
        rintro e w5 ⟨rfl, hb5⟩
        exact hK.out _ _ ⟨1, true, false, true, g9, g10, g11, by decide, by simp only [Bool.toNat_true, Bool.toNat_false] at hn ⊢; omega, by kernel_rfl, rfl, hM.below hb5⟩
      · go_simp
        exact hK.out _ _ ⟨0, true, true, true, g9, _, g11, by decide, by simp only [Bool.toNat_true, Bool.toNat_false] at hn ⊢; omega, by kernel_rfl, rfl, hM.new10⟩
    · refine ⟨[2, 14], by kernel_rfl, by simp, ?_⟩
      change Steps _ _ _ _ _ { tmps := #[.int .i64 k, .slice A zs.length c, .slice D xs.length d, .slice E us.length e0, .pointer (some ⟨w.heap.size, 0, none⟩), undef, undef, undef, .bool false, .pointer (some ⟨g9, 0, none⟩), .pointer (some ⟨g10, 0, none⟩), undef, undef, .int .i64 k, .slice A zs.length c, undef, undef, .int .i64 k, .slice D xs.length d, undef, undef, .int .i64 k, .slice E us.length e0, undef, undef, undef, undef, undef, undef, undef, undef, undef, undef, undef, undef, undef, undef, undef, undef, undef, undef, undef, undef, undef, undef, undef, undef, undef, undef, undef, undef, undef, undef, undef, undef, undef, undef, undef, undef, undef, undef, undef, undef, undef, undef, undef, undef, undef, undef, undef, undef], defers := [] } _ _
      refine Steps.cons (o := { dst := some 15, op := Op.call { callee := Callee.value (Operand.func 9), args := #[Operand.tmp 14], argTypes := #[22] }, type := 22, pos := "law.go:41", after := #[{ on := 1, ground := Ground.data }], guard := none }) rfl (fun K hK => ?_) (Steps.cons (o := { dst := some 11, op := Op.alloc 25, type := 0, pos := "law.go:41", after := #[], guard := none }) rfl (fun K hK => ?_) Steps.nil)
      · go_simp
        go_at_call 9
        refine (HS1.out _ hM.s).mono ?_
        rintro e w5 ⟨rfl, hb5⟩
        exact hK.out _ _ ⟨1, true, true, false, g9, g10, g11, by decide, by simp only [Bool.toNat_true, Bool.toNat_false] at hn ⊢; omega, by kernel_rfl, rfl, hM.below hb5⟩
      · go_simp
        exact hK.out _ _ ⟨0, true, true, true, g9, g10, _, by decide, by simp only [Bool.toNat_true, Bool.toNat_false] at hn ⊢; omega, by kernel_rfl, rfl, hM.new11⟩
    · refine ⟨[2], by kernel_rfl, by simp, ?_⟩
      change Steps _ _ _ _ _ { tmps := #[.int .i64 k, .slice A zs.length c, .slice D xs.length d, .slice E us.length e0, .pointer (some ⟨w.heap.size, 0, none⟩), undef, undef, undef, .bool false, .pointer (some ⟨g9, 0, none⟩), .pointer (some ⟨g10, 0, none⟩), .pointer (some ⟨g11, 0, none⟩), undef, .int .i64 k, .slice A zs.length c, undef, undef, .int .i64 k, .slice D xs.length d, undef, undef, .int .i64 k, .slice E us.length e0, undef, undef, undef, undef, undef, undef, undef, undef, undef, undef, undef, undef, undef, undef, undef, undef, undef, undef, undef, undef, undef, undef, undef, undef, undef, undef, undef, undef, undef, undef, undef, undef, undef, undef, undef, undef, undef, undef, undef, undef, undef, undef, undef, undef, undef, undef, undef, undef], defers := [] } _ _
      refine Steps.cons (o := { dst := some 15, op := Op.call { callee := Callee.value (Operand.func 9), args := #[Operand.tmp 14], argTypes := #[22] }, type := 22, pos := "law.go:41", after := #[{ on := 1, ground := Ground.data }], guard := none }) rfl (fun K hK => ?_) Steps.nil
      · go_simp
        go_at_call 9
        refine (HS1.out _ hM.s).mono ?_
        rintro e w5 ⟨rfl, hb5⟩
        exact hK.out _ _ ⟨1, true, true, true, g9, g10, g11, by decide, by simp only [Bool.toNat_true, Bool.toNat_false] at hn ⊢; omega, by kernel_rfl, rfl, hM.below hb5⟩
    · refine ⟨[3, 12, 13, 14], by kernel_rfl, by simp, ?_⟩
      change Steps _ _ _ _ _ { tmps := #[.int .i64 k, .slice A zs.length c, .slice D xs.length d, .slice E us.length e0, .pointer (some ⟨w.heap.size, 0, none⟩), undef, undef, undef, .bool false, undef, undef, undef, undef, .int .i64 k, .slice A zs.length c, .slice A ys.length c, undef, .int .i64 k, .slice D xs.length d, undef, undef, .int .i64 k, .slice E us.length e0, undef, undef, undef, undef, undef, undef, undef, undef, undef, undef, undef, undef, undef, undef, undef, undef, undef, undef, undef, undef, undef, undef, undef, undef, undef, undef, undef, undef, undef, undef, undef, undef, undef, undef, undef, undef, undef, undef, undef, undef, undef, undef, undef, undef, undef, undef, undef, undef], defers := [] } _ _
      refine Steps.cons (o := { dst := some 16, op := Op.call { callee := Callee.value (Operand.func 10), args := #[Operand.tmp 13, Operand.tmp 15], argTypes := #[3, 22] }, type := 25, pos := "law.go:41", after := #[{ on := 0, ground := Ground.data }, { on := 2, ground := Ground.data }, { on := 2, ground := Ground.chain }], guard := none }) rfl (fun K hK => ?_) (Steps.cons (o := { dst := some 9, op := Op.alloc 25, type := 0, pos := "law.go:41", after := #[], guard := none }) rfl (fun K hK => ?_) (Steps.cons (o := { dst := some 10, op := Op.alloc 25, type := 0, pos := "law.go:41", after := #[], guard := none }) rfl (fun K hK => ?_) (Steps.cons (o := { dst := some 11, op := Op.alloc 25, type := 0, pos := "law.go:41", after := #[], guard := none }) rfl (fun K hK => ?_) Steps.nil)))
      · go_simp
        go_at_call 10
        refine (HA1.out _ hM.s).mono ?_
        rintro e w5 ⟨rfl, hb5⟩
        exact hK.out _ _ ⟨2, false, false, false, g9, g10, g11, by decide, by simp only [Bool.toNat_true, Bool.toNat_false] at hn ⊢; omega, by kernel_rfl, rfl, hM.below hb5⟩
      · go_simp
        exact hK.out _ _ ⟨1, true, false, false, _, g10, g11, by decide, by simp only [Bool.toNat_true, Bool.toNat_false] at hn ⊢; omega, by kernel_rfl, rfl, hM.new9⟩
      · go_simp
        exact hK.out _ _ ⟨1, false, true, false, g9, _, g11, by decide, by simp only [Bool.toNat_true, Bool.toNat_false] at hn ⊢; omega, by kernel_rfl, rfl, hM.new10⟩
      · go_simp
        exact hK.out _ _ ⟨1, false, false, true, g9, g10, _, by decide, by simp only [Bool.toNat_true, Bool.toNat_false] at hn ⊢; omega, by kernel_rfl, rfl, hM.new11⟩
    · refine ⟨[3, 12, 13], by kernel_rfl, by simp, ?_⟩
      change Steps _ _ _ _ _ { tmps := #[.int .i64 k, .slice A zs.length c, .slice D xs.length d, .slice E us.length e0, .pointer (some ⟨w.heap.size, 0, none⟩), undef, undef, undef, .bool false, undef, undef, .pointer (some ⟨g11, 0, none⟩), undef, .int .i64 k, .slice A zs.length c, .slice A ys.length c, undef, .int .i64 k, .slice D xs.length d, undef, undef, .int .i64 k, .slice E us.length e0, undef, undef, undef, undef, undef, undef, undef, undef, undef, undef, undef, undef, undef, undef, undef, undef, undef, undef, undef, undef, undef, undef, undef, undef, undef, undef, undef, undef, undef, undef, undef, undef, undef, undef, undef, undef, undef, undef, undef, undef, undef, undef, undef, undef, undef, undef, undef, undef], defers := [] } _ _
      refine Steps.cons (o := { dst := some 16, op := Op.call { callee := Callee.value (Operand.func 10), args := #[Operand.tmp 13, Operand.tmp 15], argTypes := #[3, 22] }, type := 25, pos := "law.go:41", after := #[{ on := 0, ground := Ground.data }, { on := 2, ground := Ground.data }, { on := 2, ground := Ground.chain }], guard := none }) rfl (fun K hK => ?_) (Steps.cons (o := { dst := some 9, op := Op.alloc 25, type := 0, pos := "law.go:41", after := #[], guard := none }) rfl (fun K hK => ?_) (Steps.cons (o := { dst := some 10, op := Op.alloc 25, type := 0, pos := "law.go:41", after := #[], guard := none }) rfl (fun K hK => ?_) Steps.nil))
      · go_simp
        go_at_call 10
        refine (HA1.out _ hM.s).mono ?_
        rintro e w5 ⟨rfl, hb5⟩
        exact hK.out _ _ ⟨2, false, false, true, g9, g10, g11, by decide, by simp only [Bool.toNat_true, Bool.toNat_false] at hn ⊢; omega, by kernel_rfl, rfl, hM.below hb5⟩
      · go_simp
        exact hK.out _ _ ⟨1, true, false, true, _, g10, g11, by decide, by simp only [Bool.toNat_true, Bool.toNat_false] at hn ⊢; omega, by kernel_rfl, rfl, hM.new9⟩
      · go_simp
        exact hK.out _ _ ⟨1, false, true, true, g9, _, g11, by decide, by simp only [Bool.toNat_true, Bool.toNat_false] at hn ⊢; omega, by kernel_rfl, rfl, hM.new10⟩
    · refine ⟨[3, 12, 14], by kernel_rfl, by simp, ?_⟩
      change Steps _ _ _ _ _ { tmps := #[.int .i64 k, .slice A zs.length c, .slice D xs.length d, .slice E us.length e0, .pointer (some ⟨w.heap.size, 0, none⟩), undef, undef, undef, .bool false, undef, .pointer (some ⟨g10, 0, none⟩), undef, undef, .int .i64 k, .slice A zs.length c, .slice A ys.length c, undef, .int .i64 k, .slice D xs.length d, undef, undef, .int .i64 k, .slice E us.length e0, undef, undef, undef, undef, undef, undef, undef, undef, undef, undef, undef, undef, undef, undef, undef, undef, undef, undef, undef, undef, undef, undef, undef, undef, undef, undef, undef, undef, undef, undef, undef, undef, undef, undef, undef, undef, undef, undef, undef, undef, undef, undef, undef, undef, undef, undef, undef, undef], defers := [] } _ _
      refine Steps.cons (o := { dst := some 16, op := Op.call { callee := Callee.value (Operand.func 10), args := #[Operand.tmp 13, Operand.tmp 15], argTypes := #[3, 22] }, type := 25, pos := "law.go:41", after := #[{ on := 0, ground := Ground.data }, { on := 2, ground := Ground.data }, { on := 2, ground := Ground.chain }], guard := none }) rfl (fun K hK => ?_) (Steps.cons (o := { dst := some 9, op := Op.alloc 25, type := 0, pos := "law.go:41", after := #[], guard := none }) rfl (fun K hK => ?_) (Steps.cons (o := { dst := some 11, op := Op.alloc 25, type := 0, pos := "law.go:41", after := #[], guard := none }) rfl (fun K hK => ?_) Steps.nil))
      · go_simp
        go_at_call 10
        refine (HA1.out _ hM.s).mono ?_
        rintro e w5 ⟨rfl, hb5⟩
        exact hK.out _ _ ⟨2, false, true, false, g9, g10, g11, by decide, by simp only [Bool.toNat_true, Bool.toNat_false] at hn ⊢; omega, by kernel_rfl, rfl, hM.below hb5⟩
      · go_simp
        exact hK.out _ _ ⟨1, true, true, false, _, g10, g11, by decide, by simp only [Bool.toNat_true, Bool.toNat_false] at hn ⊢; omega, by kernel_rfl, rfl, hM.new9⟩
      · go_simp
        exact hK.out _ _ ⟨1, false, true, true, g9, g10, _, by decide, by simp only [Bool.toNat_true, Bool.toNat_false] at hn ⊢; omega, by kernel_rfl, rfl, hM.new11⟩
    · refine ⟨[3, 12], by kernel_rfl, by simp, ?_⟩
      change Steps _ _ _ _ _ { tmps := #[.int .i64 k, .slice A zs.length c, .slice D xs.length d, .slice E us.length e0, .pointer (some ⟨w.heap.size, 0, none⟩), undef, undef, undef, .bool false, undef, .pointer (some ⟨g10, 0, none⟩), .pointer (some ⟨g11, 0, none⟩), undef, .int .i64 k, .slice A zs.length c, .slice A ys.length c, undef, .int .i64 k, .slice D xs.length d, undef, undef, .int .i64 k, .slice E us.length e0, undef, undef, undef, undef, undef, undef, undef, undef, undef, undef, undef, undef, undef, undef, undef, undef, undef, undef, undef, undef, undef, undef, undef, undef, undef, undef, undef, undef, undef, undef, undef, undef, undef, undef, undef, undef, undef, undef, undef, undef, undef, undef, undef, undef, undef, undef, undef, undef], defers := [] } _ _
      refine Steps.cons (o := { dst := some 16, op := Op.call { callee := Callee.value (Operand.func 10), args := #[Operand.tmp 13, Operand.tmp 15], argTypes := #[3, 22] }, type := 25, pos := "law.go:41", after := #[{ on := 0, ground := Ground.data }, { on := 2, ground := Ground.data }, { on := 2, ground := Ground.chain }], guard := none }) rfl (fun K hK => ?_) (Steps.cons (o := { dst := some 9, op := Op.alloc 25, type := 0, pos := "law.go:41", after := #[], guard := none }) rfl (fun K hK => ?_) Steps.nil)
      · go_simp
        go_at_call 10
        refine (HA1.out _ hM.s).mono ?_
        rintro e w5 ⟨rfl, hb5⟩
        exact hK.out _ _ ⟨2, false, true, true, g9, g10, g11, by decide, by simp only [Bool.toNat_true, Bool.toNat_false] at hn ⊢; omega, by kernel_rfl, rfl, hM.below hb5⟩
      · go_simp
        exact hK.out _ _ ⟨1, true, true, true, _, g10, g11, by decide, by simp only [Bool.toNat_true, Bool.toNat_false] at hn ⊢; omega, by kernel_rfl, rfl, hM.new9⟩
    · refine ⟨[3, 13, 14], by kernel_rfl, by simp, ?_⟩
      change Steps _ _ _ _ _ { tmps := #[.int .i64 k, .slice A zs.length c, .slice D xs.length d, .slice E us.length e0, .pointer (some ⟨w.heap.size, 0, none⟩), undef, undef, undef, .bool false, .pointer (some ⟨g9, 0, none⟩), undef, undef, undef, .int .i64 k, .slice A zs.length c, .slice A ys.length c, undef, .int .i64 k, .slice D xs.length d, undef, undef, .int .i64 k, .slice E us.length e0, undef, undef, undef, undef, undef, undef, undef, undef, undef, undef, undef, undef, undef, undef, undef, undef, undef, undef, undef, undef, undef, undef, undef, undef, undef, undef, undef, undef, undef, undef, undef, undef, undef, undef, undef, undef, undef, undef, undef, undef, undef, undef, undef, undef, undef, undef, undef, undef], defers := [] } _ _
      refine Steps.cons (o := { dst := some 16, op := Op.call { callee := Callee.value (Operand.func 10), args := #[Operand.tmp 13, Operand.tmp 15], argTypes := #[3, 22] }, type := 25, pos := "law.go:41", after := #[{ on := 0, ground := Ground.data }, { on := 2, ground := Ground.data }, { on := 2, ground := Ground.chain }], guard := none }) rfl (fun K hK => ?_) (Steps.cons (o := { dst := some 10, op := Op.alloc 25, type := 0, pos := "law.go:41", after := #[], guard := none }) rfl (fun K hK => ?_) (Steps.cons (o := { dst := some 11, op := Op.alloc 25, type := 0, pos := "law.go:41", after := #[], guard := none }) rfl (fun K hK => ?_) Steps.nil))
      · go_simp
        go_at_call 10
        refine (HA1.out _ hM.s).mono ?_
        rintro e w5 ⟨rfl, hb5⟩
        exact hK.out _ _ ⟨2, true, false, false, g9, g10, g11, by decide, by simp only [Bool.toNat_true, Bool.toNat_false] at hn ⊢; omega, by kernel_rfl, rfl, hM.below hb5⟩
      · go_simp
        exact hK.out _ _ ⟨1, true, true, false, g9, _, g11, by decide, by simp only [Bool.toNat_true, Bool.toNat_false] at hn ⊢; omega, by kernel_rfl, rfl, hM.new10⟩
      · go_simp
        exact hK.out _ _ ⟨1, true, false, true, g9, g10, _, by decide, by simp only [Bool.toNat_true, Bool.toNat_false] at hn ⊢; omega, by kernel_rfl, rfl, hM.new11⟩
    · refine ⟨[3, 13], by kernel_rfl, by simp, ?_⟩
      change Steps _ _ _ _ _ { tmps := #[.int .i64 k, .slice A zs.length c, .slice D xs.length d, .slice E us.length e0, .pointer (some ⟨w.heap.size, 0, none⟩), undef, undef, undef, .bool false, .pointer (some ⟨g9, 0, none⟩), undef, .pointer (some ⟨g11, 0, none⟩), undef, .int .i64 k, .slice A zs.length c, .slice A ys.length c, undef, .int .i64 k, .slice D xs.length d, undef, undef, .int .i64 k, .slice E us.length e0, undef, undef, undef, undef, undef, undef, undef, undef, undef, undef, undef, undef, undef, undef, undef, undef, undef, undef, undef, undef, undef, undef, undef, undef, undef, undef, undef, undef, undef, undef, undef, undef, undef, undef, undef, undef, undef, undef, undef, undef, undef, undef, undef, undef, undef, undef, undef, undef], defers := [] } _ _
      refine Steps.cons (o := { dst := some 16, op := Op.call { callee := Callee.value (Operand.func 10), args := #[Operand.tmp 13, Operand.tmp 15], argTypes := #[3, 22] }, type := 25, pos := "law.go:41", after := #[{ on := 0, ground := Ground.data }, { on := 2, ground := Ground.data }, { on := 2, ground := Ground.chain }], guard := none }) rfl (fun K hK => ?_) (Steps.cons (o := { dst := some 10, op := Op.alloc 25, type := 0, pos := "law.go:41", after := #[], guard := none }) rfl (fun K hK => ?_) Steps.nil)
      · go_simp
        go_at_call 10
        refine (HA1.out _ hM.s).mono ?_
        rintro e w5 ⟨rfl, hb5⟩
        exact hK.out _ _ ⟨2, true, false, true, g9, g10, g11, by decide, by simp only [Bool.toNat_true, Bool.toNat_false] at hn ⊢; omega, by kernel_rfl, rfl, hM.below hb5⟩
      · go_simp
        exact hK.out _ _ ⟨1, true, true, true, g9, _, g11, by decide, by simp only [Bool.toNat_true, Bool.toNat_false] at hn ⊢; omega, by kernel_rfl, rfl, hM.new10⟩
    · refine ⟨[3, 14], by kernel_rfl, by simp, ?_⟩
      change Steps _ _ _ _ _ { tmps := #[.int .i64 k, .slice A zs.length c, .slice D xs.length d, .slice E us.length e0, .pointer (some ⟨w.heap.size, 0, none⟩), undef, undef, undef, .bool false, .pointer (some ⟨g9, 0, none⟩), .pointer (some ⟨g10, 0, none⟩), undef, undef, .int .i64 k, .slice A zs.length c, .slice A ys.length c, undef, .int .i64 k, .slice D xs.length d, undef, undef, .int .i64 k, .slice E us.length e0, undef, undef, undef, undef, undef, undef, undef, undef, undef, undef, undef, undef, undef, undef, undef, undef, undef, undef, undef, undef, undef, undef, undef, undef, undef, undef, undef, undef, undef, undef, undef, undef, undef, undef, undef, undef, undef, undef, undef, undef, undef, undef, undef, undef, undef, undef, undef, undef], defers := [] } _ _
      refine Steps.cons (o := { dst := some 16, op := Op.call { callee := Callee.value (Operand.func 10), args := #[Operand.tmp 13, Operand.tmp 15], argTypes := #[3, 22] }, type := 25, pos := "law.go:41", after := #[{ on := 0, ground := Ground.data }, { on := 2, ground := Ground.data }, { on := 2, ground := Ground.chain }], guard := none }) rfl (fun K hK => ?_) (Steps.cons (o := { dst := some 11, op := Op.alloc 25, type := 0, pos := "law.go:41", after := #[], guard := none }) rfl (fun K hK => ?_) Steps.nil)
      · go_simp
        go_at_call 10
        refine (HA1.out _ hM.s).mono ?_
        rintro e w5 ⟨rfl, hb5⟩
        exact hK.out _ _ ⟨2, true, true, false, g9, g10, g11, by decide, by simp only [Bool.toNat_true, Bool.toNat_false] at hn ⊢; omega, by kernel_rfl, rfl, hM.below hb5⟩
      · go_simp
        exact hK.out _ _ ⟨1, true, true, true, g9, g10, _, by decide, by simp only [Bool.toNat_true, Bool.toNat_false] at hn ⊢; omega, by kernel_rfl, rfl, hM.new11⟩
    · refine ⟨[3], by kernel_rfl, by simp, ?_⟩
      change Steps _ _ _ _ _ { tmps := #[.int .i64 k, .slice A zs.length c, .slice D xs.length d, .slice E us.length e0, .pointer (some ⟨w.heap.size, 0, none⟩), undef, undef, undef, .bool false, .pointer (some ⟨g9, 0, none⟩), .pointer (some ⟨g10, 0, none⟩), .pointer (some ⟨g11, 0, none⟩), undef, .int .i64 k, .slice A zs.length c, .slice A ys.length c, undef, .int .i64 k, .slice D xs.length d, undef, undef, .int .i64 k, .slice E us.length e0, undef, undef, undef, undef, undef, undef, undef, undef, undef, undef, undef, undef, undef, undef, undef, undef, undef, undef, undef, undef, undef, undef, undef, undef, undef, undef, undef, undef, undef, undef, undef, undef, undef, undef, undef, undef, undef, undef, undef, undef, undef, undef, undef, undef, undef, undef, undef, undef], defers := [] } _ _
      refine Steps.cons (o := { dst := some 16, op := Op.call { callee := Callee.value (Operand.func 10), args := #[Operand.tmp 13, Operand.tmp 15], argTypes := #[3, 22] }, type := 25, pos := "law.go:41", after := #[{ on := 0, ground := Ground.data }, { on := 2, ground := Ground.data }, { on := 2, ground := Ground.chain }], guard := none }) rfl (fun K hK => ?_) Steps.nil
      · go_simp
        go_at_call 10
        refine (HA1.out _ hM.s).mono ?_
        rintro e w5 ⟨rfl, hb5⟩
        exact hK.out _ _ ⟨2, true, true, true, g9, g10, g11, by decide, by simp only [Bool.toNat_true, Bool.toNat_false] at hn ⊢; omega, by kernel_rfl, rfl, hM.below hb5⟩
    · refine ⟨[6, 12, 13, 14], by kernel_rfl, by simp, ?_⟩
      change Steps _ _ _ _ _ { tmps := #[.int .i64 k, .slice A zs.length c, .slice D xs.length d, .slice E us.length e0, .pointer (some ⟨w.heap.size, 0, none⟩), undef, undef, undef, .bool false, undef, undef, undef, undef, .int .i64 k, .slice A zs.length c, .slice A ys.length c, acV a, .int .i64 k, .slice D xs.length d, undef, undef, .int .i64 k, .slice E us.length e0, undef, undef, undef, undef, undef, undef, undef, undef, undef, undef, undef, undef, undef, undef, undef, undef, undef, undef, undef, undef, undef, undef, undef, undef, undef, undef, undef, undef, undef, undef, undef, undef, undef, undef, undef, undef, undef, undef, undef, undef, undef, undef, undef, undef, undef, undef, undef, undef], defers := [] } _ _
      refine Steps.cons (o := { dst := some 19, op := Op.call { callee := Callee.value (Operand.func 9), args := #[Operand.tmp 18], argTypes := #[22] }, type := 22, pos := "law.go:41", after := #[{ on := 5, ground := Ground.data }, { on := 3, ground := Ground.chain }], guard := none }) rfl (fun K hK => ?_) (Steps.cons (o := { dst := some 9, op := Op.alloc 25, type := 0, pos := "law.go:41", after := #[], guard := none }) rfl (fun K hK => ?_) (Steps.cons (o := { dst := some 10, op := Op.alloc 25, type := 0, pos := "law.go:41", after := #[], guard := none }) rfl (fun K hK => ?_) (Steps.cons (o := { dst := some 11, op := Op.alloc 25, type := 0, pos := "law.go:41", after := #[], guard := none }) rfl (fun K hK => ?_) Steps.nil)))
      · go_simp
        go_at_call 9
        refine (HS2.out _ hM.s).mono ?_
        rintro e w5 ⟨rfl, hb5⟩
        exact hK.out _ _ ⟨3, false, false, false, g9, g10, g11, by decide, by simp only [Bool.toNat_true, Bool.toNat_false] at hn ⊢; omega, by kernel_rfl, rfl, hM.below hb5⟩
      · go_simp
        exact hK.out _ _ ⟨2, true, false, false, _, g10, g11, by decide, by simp only [Bool.toNat_true, Bool.toNat_false] at hn ⊢; omega, by kernel_rfl, rfl, hM.new9⟩
      · go_simp
        exact hK.out _ _ ⟨2, false, true, false, g9, _, g11, by decide, by simp only [Bool.toNat_true, Bool.toNat_false] at hn ⊢; omega, by kernel_rfl, rfl, hM.new10⟩
      · go_simp
        exact hK.out _ _ ⟨2, false, false, true, g9, g10, _, by decide, by simp only [Bool.toNat_true, Bool.toNat_false] at hn ⊢; omega, by kernel_rfl, rfl, hM.new11⟩
    · refine ⟨[6, 12, 13], by kernel_rfl, by simp, ?_⟩
      change Steps _ _ _ _ _ { tmps := #[.int .i64 k, .slice A zs.length c, .slice D xs.length d, .slice E us.length e0, .pointer (some ⟨w.heap.size, 0, none⟩), undef, undef, undef, .bool false, undef, undef, .pointer (some ⟨g11, 0, none⟩), undef, .int .i64 k, .slice A zs.length c, .slice A ys.length c, acV a, .int .i64 k, .slice D xs.length d, undef, undef, .int .i64 k, .slice E us.length e0, undef, undef, undef, undef, undef, undef, undef, undef, undef, undef, undef, undef, undef, undef, undef, undef, undef, undef, undef, undef, undef, undef, undef, undef, undef, undef, undef, undef, undef, undef, undef, undef, undef, undef, undef, undef, undef, undef, undef, undef, undef, undef, undef, undef, undef, undef, undef, undef], defers := [] } _ _
      refine Steps.cons (o := { dst := some 19, op := Op.call { callee := Callee.value (Operand.func 9), args := #[Operand.tmp 18], argTypes := #[22] }, type := 22, pos := "law.go:41", after := #[{ on := 5, ground := Ground.data }, { on := 3, ground := Ground.chain }], guard := none }) rfl (fun K hK => ?_) (Steps.cons (o := { dst := some 9, op := Op.alloc 25, type := 0, pos := "law.go:41", after := #[], guard := none }) rfl (fun K hK => ?_) (Steps.cons (o := { dst := some 10, op := Op.alloc 25, type := 0, pos := "law.go:41", after := #[], guard := none }) rfl (fun K hK => ?_) Steps.nil))
      · go_simp
        go_at_call 9
        refine (HS2.out _ hM.s).mono ?_
        rintro e w5 ⟨rfl, hb5⟩
        exact hK.out _ _ ⟨3, false, false, true, g9, g10, g11, by decide, by simp only [Bool.toNat_true, Bool.toNat_false] at hn ⊢; omega, by kernel_rfl, rfl, hM.below hb5⟩
      · go_simp
        exact hK.out _ _ ⟨2, true, false, true, _, g10, g11, by decide, by simp only [Bool.toNat_true, Bool.toNat_false] at hn ⊢; omega, by kernel_rfl, rfl, hM.new9⟩
      · go_simp
        exact hK.out _ _ ⟨2, false, true, true, g9, _, g11, by decide, by simp only [Bool.toNat_true, Bool.toNat_false] at hn ⊢; omega, by kernel_rfl, rfl, hM.new10⟩
    · refine ⟨[6, 12, 14], by kernel_rfl, by simp, ?_⟩
      change Steps _ _ _ _ _ { tmps := #[.int .i64 k, .slice A zs.length c, .slice D xs.length d, .slice E us.length e0, .pointer (some ⟨w.heap.size, 0, none⟩), undef, undef, undef, .bool false, undef, .pointer (some ⟨g10, 0, none⟩), undef, undef, .int .i64 k, .slice A zs.length c, .slice A ys.length c, acV a, .int .i64 k, .slice D xs.length d, undef, undef, .int .i64 k, .slice E us.length e0, undef, undef, undef, undef, undef, undef, undef, undef, undef, undef, undef, undef, undef, undef, undef, undef, undef, undef, undef, undef, undef, undef, undef, undef, undef, undef, undef, undef, undef, undef, undef, undef, undef, undef, undef, undef, undef, undef, undef, undef, undef, undef, undef, undef, undef, undef, undef, undef], defers := [] } _ _
      refine Steps.cons (o := { dst := some 19, op := Op.call { callee := Callee.value (Operand.func 9), args := #[Operand.tmp 18], argTypes := #[22] }, type := 22, pos := "law.go:41", after := #[{ on := 5, ground := Ground.data }, { on := 3, ground := Ground.chain }], guard := none }) rfl (fun K hK => ?_) (Steps.cons (o := { dst := some 9, op := Op.alloc 25, type := 0, pos := "law.go:41", after := #[], guard := none }) rfl (fun K hK => ?_) (Steps.cons (o := { dst := some 11, op := Op.alloc 25, type := 0, pos := "law.go:41", after := #[], guard := none }) rfl (fun K hK => ?_) Steps.nil))
      · go_simp
        go_at_call 9
        refine (HS2.out _ hM.s).mono ?_
        rintro e w5 ⟨rfl, hb5⟩
        exact hK.out _ _ ⟨3, false, true, false, g9, g10, g11, by decide, by simp only [Bool.toNat_true, Bool.toNat_false] at hn ⊢; omega, by kernel_rfl, rfl, hM.below hb5⟩
      · go_simp
        exact hK.out _ _ ⟨2, true, true, false, _, g10, g11, by decide, by simp only [Bool.toNat_true, Bool.toNat_false] at hn ⊢; omega, by kernel_rfl, rfl, hM.new9⟩
      · go_simp
        exact hK.out _ _ ⟨2, false, true, true, g9, g10, _, by decide, by simp only [Bool.toNat_true, Bool.toNat_false] at hn ⊢; omega, by kernel_rfl, rfl, hM.new11⟩
    · refine ⟨[6, 12], by kernel_rfl, by simp, ?_⟩
      change Steps _ _ _ _ _ { tmps := #[.int .i64 k, .slice A zs.length c, .slice D xs.length d, .slice E us.length e0, .pointer (some ⟨w.heap.size, 0, none⟩), undef, undef, undef, .bool false, undef, .pointer (some ⟨g10, 0, none⟩), .pointer (some ⟨g11, 0, none⟩), undef, .int .i64 k, .slice A zs.length c, .slice A ys.length c, acV a, .int .i64 k, .slice D xs.length d, undef, undef, .int .i64 k, .slice E us.length e0, undef, undef, undef, undef, undef, undef, undef, undef, undef, undef, undef, undef, undef, undef, undef, undef, undef, undef, undef, undef, undef, undef, undef, undef, undef, undef, undef, undef, undef, undef, undef, undef, undef, undef, undef, undef, undef, undef, undef, undef, undef, undef, undef, undef, undef, undef, undef, undef], defers := [] } _ _
      refine Steps.cons (o := { dst := some 19, op := Op.call { callee := Callee.value (Operand.func 9), args := #[Operand.tmp 18], argTypes := #[22] }, type := 22, pos := "law.go:41", after := #[{ on := 5, ground := Ground.data }, { on := 3, ground := Ground.chain }], guard := none }) rfl (fun K hK => ?_) (Steps.cons (o := { dst := some 9, op := Op.alloc 25, type := 0, pos := "law.go:41", after := #[], guard := none }) rfl (fun K hK => ?_) Steps.nil)
      · go_simp
        go_at_call 9
        refine (HS2.out _ hM.s).mono ?_
        rintro e w5 ⟨rfl, hb5⟩
        exact hK.out _ _ ⟨3, false, true, true, g9, g10, g11, by decide, by simp only [Bool.toNat_true, Bool.toNat_false] at hn ⊢; omega, by kernel_rfl, rfl, hM.below hb5⟩
      · go_simp
        exact hK.out _ _ ⟨2, true, true, true, _, g10, g11, by decide, by simp only [Bool.toNat_true, Bool.toNat_false] at hn ⊢; omega, by kernel_rfl, rfl, hM.new9⟩
    · refine ⟨[6, 13, 14], by kernel_rfl, by simp, ?_⟩
      change Steps _ _ _ _ _ { tmps := #[.int .i64 k, .slice A zs.length c, .slice D xs.length d, .slice E us.length e0, .pointer (some ⟨w.heap.size, 0, none⟩), undef, undef, undef, .bool false, .pointer (some ⟨g9, 0, none⟩), undef, undef, undef, .int .i64 k, .slice A zs.length c, .slice A ys.length c, acV a, .int .i64 k, .slice D xs.length d, undef, undef, .int .i64 k, .slice E us.length e0, undef, undef, undef, undef, undef, undef, undef, undef, undef, undef, undef, undef, undef, undef, undef, undef, undef, undef, undef, undef, undef, undef, undef, undef, undef, undef, undef, undef, undef, undef, undef, undef, undef, undef, undef, undef, undef, undef, undef, undef, undef, undef, undef, undef, undef, undef, undef, undef], defers := [] } _ _
      refine Steps.cons (o := { dst := some 19, op := Op.call { callee := Callee.value (Operand.func 9), args := #[Operand.tmp 18], argTypes := #[22] }, type := 22, pos := "law.go:41", after := #[{ on := 5, ground := Ground.data }, { on := 3, ground := Ground.chain }], guard := none }) rfl (fun K hK => ?_) (Steps.cons (o := { dst := some 10, op := Op.alloc 25, type := 0, pos := "law.go:41", after := #[], guard := none }) rfl (fun K hK => ?_) (Steps.cons (o := { dst := some 11, op := Op.alloc 25, type := 0, pos := "law.go:41", after := #[], guard := none }) rfl (fun K hK => ?_) Steps.nil))
      · go_simp
        go_at_call 9
        refine (HS2.out _ hM.s).mono ?_
        rintro e w5 ⟨rfl, hb5⟩
        exact hK.out _ _ ⟨3, true, false, false, g9, g10, g11, by decide, by simp only [Bool.toNat_true, Bool.toNat_false] at hn ⊢; omega, by kernel_rfl, rfl, hM.below hb5⟩
      · go_simp
        exact hK.out _ _ ⟨2, true, true, false, g9, _, g11, by decide, by simp only [Bool.toNat_true, Bool.toNat_false] at hn ⊢; omega, by kernel_rfl, rfl, hM.new10⟩
      · go_simp
        exact hK.out _ _ ⟨2, true, false, true, g9, g10, _, by decide, by simp only [Bool.toNat_true, Bool.toNat_false] at hn ⊢; omega, by kernel_rfl, rfl, hM.new11⟩
    · refine ⟨[6, 13], by kernel_rfl, by simp, ?_⟩
      change Steps _ _ _ _ _ { tmps := #[.int .i64 k, .slice A zs.length c, .slice D xs.length d, .slice E us.length e0, .pointer (some ⟨w.heap.size, 0, none⟩), undef, undef, undef, .bool false, .pointer (some ⟨g9, 0, none⟩), undef, .pointer (some ⟨g11, 0, none⟩), undef, .int .i64 k, .slice A zs.length c, .slice A ys.length c, acV a, .int .i64 k, .slice D xs.length d, undef, undef, .int .i64 k, .slice E us.length e0, undef, undef, undef, undef, undef, undef, undef, undef, undef, undef, undef, undef, undef, undef, undef, undef, undef, undef, undef, undef, undef, undef, undef, undef, undef, undef, undef, undef, undef, undef, undef, undef, undef, undef, undef, undef, undef, undef, undef, undef, undef, undef, undef, undef, undef, undef, undef, undef], defers := [] } _ _
      refine Steps.cons (o := { dst := some 19, op := Op.call { callee := Callee.value (Operand.func 9), args := #[Operand.tmp 18], argTypes := #[22] }, type := 22, pos := "law.go:41", after := #[{ on := 5, ground := Ground.data }, { on := 3, ground := Ground.chain }], guard := none }) rfl (fun K hK => ?_) (Steps.cons (o := { dst := some 10, op := Op.alloc 25, type := 0, pos := "law.go:41", after := #[], guard := none }) rfl (fun K hK => ?_) Steps.nil)
      · go_simp
        go_at_call 9
        refine (HS2.out _ hM.s).mono ?_
        rintro e w5 ⟨rfl, hb5⟩
        exact hK.out _ _ ⟨3, true, false, true, g9, g10, g11, by decide, by simp only [Bool.toNat_true, Bool.toNat_false] at hn ⊢; omega, by kernel_rfl, rfl, hM.below hb5⟩
      · go_simp
        exact hK.out _ _ ⟨2, true, true, true, g9, _, g11, by decide, by simp only [Bool.toNat_true, Bool.toNat_false] at hn ⊢; omega, by kernel_rfl, rfl, hM.new10⟩
    · refine ⟨[6, 14], by kernel_rfl, by simp, ?_⟩
      change Steps _ _ _ _ _ { tmps := #[.int .i64 k, .slice A zs.length c, .slice D xs.length d, .slice E us.length e0, .pointer (some ⟨w.heap.size, 0, none⟩), undef, undef, undef, .bool false, .pointer (some ⟨g9, 0, none⟩), .pointer (some ⟨g10, 0, none⟩), undef, undef, .int .i64 k, .slice A zs.length c, .slice A ys.length c, acV a, .int .i64 k, .slice D xs.length d, undef, undef, .int .i64 k, .slice E us.length e0, undef, undef, undef, undef, undef, undef, undef, undef, undef, undef, undef, undef, undef, undef, undef, undef, undef, undef, undef, undef, undef, undef, undef, undef, undef, undef, undef, undef, undef, undef, undef, undef, undef, undef, undef, undef, undef, undef, undef, undef, undef, undef, undef, undef, undef, undef, undef, undef], defers := [] } _ _
      refine Steps.cons (o := { dst := some 19, op := Op.call { callee := Callee.value (Operand.func 9), args := #[Operand.tmp 18], argTypes := #[22] }, type := 22, pos := "law.go:41", after := #[{ on := 5, ground := Ground.data }, { on := 3, ground := Ground.chain }], guard := none }) rfl (fun K hK => ?_) (Steps.cons (o := { dst := some 11, op := Op.alloc 25, type := 0, pos := "law.go:41", after := #[], guard := none }) rfl (fun K hK => ?_) Steps.nil)
      · go_simp
        go_at_call 9
        refine (HS2.out _ hM.s).mono ?_
        rintro e w5 ⟨rfl, hb5⟩
        exact hK.out _ _ ⟨3, true, true, false, g9, g10, g11, by decide, by simp only [Bool.toNat_true, Bool.toNat_false] at hn ⊢; omega, by kernel_rfl, rfl, hM.below hb5⟩
      · go_simp
        exact hK.out _ _ ⟨2, true, true, true, g9, g10, _, by decide, by simp only [Bool.toNat_true, Bool.toNat_false] at hn ⊢; omega, by kernel_rfl, rfl, hM.new11⟩
    · refine ⟨[6], by kernel_rfl, by simp, ?_⟩
      change Steps _ _ _ _ _ { tmps := #[.int .i64 k, .slice A zs.length c, .slice D xs.length d, .slice E us.length e0, .pointer (some ⟨w.heap.size, 0, none⟩), undef, undef, undef, .bool false, .pointer (some ⟨g9, 0, none⟩), .pointer (some ⟨g10, 0, none⟩), .pointer (some ⟨g11, 0, none⟩), undef, .int .i64 k, .slice A zs.length c, .slice A ys.length c, acV a, .int .i64 k, .slice D xs.length d, undef, undef, .int .i64 k, .slice E us.length e0, undef, undef, undef, undef, undef, undef, undef, undef, undef, undef, undef, undef, undef, undef, undef, undef, undef, undef, undef, undef, undef, undef, undef, undef, undef, undef, undef, undef, undef, undef, undef, undef, undef, undef, undef, undef, undef, undef, undef, undef, undef, undef, undef, undef, undef, undef, undef, undef], defers := [] } _ _
      refine Steps.cons (o := { dst := some 19, op := Op.call { callee := Callee.value (Operand.func 9), args := #[Operand.tmp 18], argTypes := #[22] }, type := 22, pos := "law.go:41", after := #[{ on := 5, ground := Ground.data }, { on := 3, ground := Ground.chain }], guard := none }) rfl (fun K hK => ?_) Steps.nil
      · go_simp
        go_at_call 9
        refine (HS2.out _ hM.s).mono ?_
        rintro e w5 ⟨rfl, hb5⟩
        exact hK.out _ _ ⟨3, true, true, true, g9, g10, g11, by decide, by simp only [Bool.toNat_true, Bool.toNat_false] at hn ⊢; omega, by kernel_rfl, rfl, hM.below hb5⟩
    · refine ⟨[7, 12, 13, 14], by kernel_rfl, by simp, ?_⟩
      change Steps _ _ _ _ _ { tmps := #[.int .i64 k, .slice A zs.length c, .slice D xs.length d, .slice E us.length e0, .pointer (some ⟨w.heap.size, 0, none⟩), undef, undef, undef, .bool false, undef, undef, undef, undef, .int .i64 k, .slice A zs.length c, .slice A ys.length c, acV a, .int .i64 k, .slice D xs.length d, .slice D ms.length d, undef, .int .i64 k, .slice E us.length e0, undef, undef, undef, undef, undef, undef, undef, undef, undef, undef, undef, undef, undef, undef, undef, undef, undef, undef, undef, undef, undef, undef, undef, undef, undef, undef, undef, undef, undef, undef, undef, undef, undef, undef, undef, undef, undef, undef, undef, undef, undef, undef, undef, undef, undef, undef, undef, undef], defers := [] } _ _
      refine Steps.cons (o := { dst := some 20, op := Op.call { callee := Callee.value (Operand.func 10), args := #[Operand.tmp 17, Operand.tmp 19], argTypes := #[3, 22] }, type := 25, pos := "law.go:41", after := #[{ on := 4, ground := Ground.data }, { on := 6, ground := Ground.data }, { on := 6, ground := Ground.chain }], guard := none }) rfl (fun K hK => ?_) (Steps.cons (o := { dst := some 9, op := Op.alloc 25, type := 0, pos := "law.go:41", after := #[], guard := none }) rfl (fun K hK => ?_) (Steps.cons (o := { dst := some 10, op := Op.alloc 25, type := 0, pos := "law.go:41", after := #[], guard := none }) rfl (fun K hK => ?_) (Steps.cons (o := { dst := some 11, op := Op.alloc 25, type := 0, pos := "law.go:41", after := #[], guard := none }) rfl (fun K hK => ?_) Steps.nil)))
      · go_simp
        go_at_call 10
        refine (HA2.out _ hM.s).mono ?_
        rintro e w5 ⟨rfl, hb5⟩
        exact hK.out _ _ ⟨4, false, false, false, g9, g10, g11, by decide, by simp only [Bool.toNat_true, Bool.toNat_false] at hn ⊢; omega, by kernel_rfl, rfl, hM.below hb5⟩
      · go_simp
        exact hK.out _ _ ⟨3, true, false, false, _, g10, g11, by decide, by simp only [Bool.toNat_true, Bool.toNat_false] at hn ⊢; omega, by kernel_rfl, rfl, hM.new9⟩
      · go_simp
        exact hK.out _ _ ⟨3, false, true, false, g9, _, g11, by decide, by simp only [Bool.toNat_true, Bool.toNat_false] at hn ⊢; omega, by kernel_rfl, rfl, hM.new10⟩
      · go_simp
        exact hK.out _ _ ⟨3, false, false, true, g9, g10, _, by decide, by simp only [Bool.toNat_true, Bool.toNat_false] at hn ⊢; omega, by kernel_rfl, rfl, hM.new11⟩
    · refine ⟨[7, 12, 13], by kernel_rfl, by simp, ?_⟩
      change Steps _ _ _ _ _ { tmps := #[.int .i64 k, .slice A zs.length c, .slice D xs.length d, .slice E us.length e0, .pointer (some ⟨w.heap.size, 0, none⟩), undef, undef, undef, .bool false, undef, undef, .pointer (some ⟨g11, 0, none⟩), undef, .int .i64 k, .slice A zs.length c, .slice A ys.length c, acV a, .int .i64 k, .slice D xs.length d, .slice D ms.length d, undef, .int .i64 k, .slice E us.length e0, undef, undef, undef, undef, undef, undef, undef, undef, undef, undef, undef, undef, undef, undef, undef, undef, undef, undef, undef, undef, undef, undef, undef, undef, undef, undef, undef, undef, undef, undef, undef, undef, undef, undef, undef, undef, undef, undef, undef, undef, undef, undef, undef, undef, undef, undef, undef, undef], defers := [] } _ _
      refine Steps.cons (o := { dst := some 20, op := Op.call { callee := Callee.value (Operand.func 10), args := #[Operand.tmp 17, Operand.tmp 19], argTypes := #[3, 22] }, type := 25, pos := "law.go:41", after := #[{ on := 4, ground := Ground.data }, { on := 6, ground := Ground.data }, { on := 6, ground := Ground.chain }], guard := none }) rfl (fun K hK => ?_) (Steps.cons (o := { dst := some 9, op := Op.alloc 25, type := 0, pos := "law.go:41", after := #[], guard := none }) rfl (fun K hK => ?_) (Steps.cons (o := { dst := some 10, op := Op.alloc 25, type := 0, pos := "law.go:41", after := #[], guard := none }) rfl (fun K hK => ?_) Steps.nil))
      · go_simp
        go_at_call 10
        refine (HA2.out _ hM.s).mono ?_
        rintro e w5 ⟨rfl, hb5⟩
        exact hK.out _ _ ⟨4, false, false, true, g9, g10, g11, by decide, by simp only [Bool.toNat_true, Bool.toNat_false] at hn ⊢; omega, by kernel_rfl, rfl, hM.below hb5⟩
      · go_simp
        exact hK.out _ _ ⟨3, true, false, true, _, g10, g11, by decide, by simp only [Bool.toNat_true, Bool.toNat_false] at hn ⊢; omega, by kernel_rfl, rfl, hM.new9⟩
      · go_simp
        exact hK.out _ _ ⟨3, false, true, true, g9, _, g11, by decide, by simp only [Bool.toNat_true, Bool.toNat_false] at hn ⊢; omega, by kernel_rfl, rfl, hM.new10⟩
    · refine ⟨[7, 12, 14], by kernel_rfl, by simp, ?_⟩
      change Steps _ _ _ _ _ { tmps := #[.int .i64 k, .slice A zs.length c, .slice D xs.length d, .slice E us.length e0, .pointer (some ⟨w.heap.size, 0, none⟩), undef, undef, undef, .bool false, undef, .pointer (some ⟨g10, 0, none⟩), undef, undef, .int .i64 k, .slice A zs.length c, .slice A ys.length c, acV a, .int .i64 k, .slice D xs.length d, .slice D ms.length d, undef, .int .i64 k, .slice E us.length e0, undef, undef, undef, undef, undef, undef, undef, undef, undef, undef, undef, undef, undef, undef, undef, undef, undef, undef, undef, undef, undef, undef, undef, undef, undef, undef, undef, undef, undef, undef, undef, undef, undef, undef, undef, undef, undef, undef, undef, undef, undef, undef, undef, undef, undef, undef, undef, undef], defers := [] } _ _
      refine Steps.cons (o := { dst := some 20, op := Op.call { callee := Callee.value (Operand.func 10), args := #[Operand.tmp 17, Operand.tmp 19], argTypes := #[3, 22] }, type := 25, pos := "law.go:41", after := #[{ on := 4, ground := Ground.data }, { on := 6, ground := Ground.data }, { on := 6, ground := Ground.chain }], guard := none }) rfl (fun K hK => ?_) (Steps.cons (o := { dst := some 9, op := Op.alloc 25, type := 0, pos := "law.go:41", after := #[], guard := none }) rfl (fun K hK => ?_) (Steps.cons (o := { dst := some 11, op := Op.alloc 25, type := 0, pos := "law.go:41", after := #[], guard := none }) rfl (fun K hK => ?_) Steps.nil))
      · go_simp
        go_at_call 10
        refine (HA2.out _ hM.s).mono ?_
        rintro e w5 ⟨rfl, hb5⟩
        exact hK.out _ _ ⟨4, false, true, false, g9, g10, g11, by decide, by simp only [Bool.toNat_true, Bool.toNat_false] at hn ⊢; omega, by kernel_rfl, rfl, hM.below hb5⟩
      · go_simp
        exact hK.out _ _ ⟨3, true, true, false, _, g10, g11, by decide, by simp only [Bool.toNat_true, Bool.toNat_false] at hn ⊢; omega, by kernel_rfl, rfl, hM.new9⟩
      · go_simp
        exact hK.out _ _ ⟨3, false, true, true, g9, g10, _, by decide, by simp only [Bool.toNat_true, Bool.toNat_false] at hn ⊢; omega, by kernel_rfl, rfl, hM.new11⟩
    · refine ⟨[7, 12], by kernel_rfl, by simp, ?_⟩
      change Steps _ _ _ _ _ { tmps := #[.int .i64 k, .slice A zs.length c, .slice D xs.length d, .slice E us.length e0, .pointer (some ⟨w.heap.size, 0, none⟩), undef, undef, undef, .bool false, undef, .pointer (some ⟨g10, 0, none⟩), .pointer (some ⟨g11, 0, none⟩), undef, .int .i64 k, .slice A zs.length c, .slice A ys.length c, acV a, .int .i64 k, .slice D xs.length d, .slice D ms.length d, undef, .int .i64 k, .slice E us.length e0, undef, undef, undef, undef, undef, undef, undef, undef, undef, undef, undef, undef, undef, undef, undef, undef, undef, undef, undef, undef, undef, undef, undef, undef, undef, undef, undef, undef, undef, undef, undef, undef, undef, undef, undef, undef, undef, undef, undef, undef, undef, undef, undef, undef, undef, undef, undef, undef], defers := [] } _ _
      refine Steps.cons (o := { dst := some 20, op := Op.call { callee := Callee.value (Operand.func 10), args := #[Operand.tmp 17, Operand.tmp 19], argTypes := #[3, 22] }, type := 25, pos := "law.go:41", after := #[{ on := 4, ground := Ground.data }, { on := 6, ground := Ground.data }, { on := 6, ground := Ground.chain }], guard := none }) rfl (fun K hK => ?_) (Steps.cons (o := { dst := some 9, op := Op.alloc 25, type := 0, pos := "law.go:41", after := #[], guard := none }) rfl (fun K hK => ?_) Steps.nil)
      · go_simp
        go_at_call 10
        refine (HA2.out _ hM.s).mono ?_
        rintro e w5 ⟨rfl, hb5⟩
        exact hK.out _ _ ⟨4, false, true, true, g9, g10, g11, by decide, by simp only [Bool.toNat_true, Bool.toNat_false] at hn ⊢; omega, by kernel_rfl, rfl, hM.below hb5⟩
      · go_simp
        exact hK.out _ _ ⟨3, true, true, true, _, g10, g11, by decide, by simp only [Bool.toNat_true, Bool.toNat_false] at hn ⊢; omega, by kernel_rfl, rfl, hM.new9⟩
    · refine ⟨[7, 13, 14], by kernel_rfl, by simp, ?_⟩
      change Steps _ _ _ _ _ { tmps := #[.int .i64 k, .slice A zs.length c, .slice D xs.length d, .slice E us.length e0, .pointer (some ⟨w.heap.size, 0, none⟩), undef, undef, undef, .bool false, .pointer (some ⟨g9, 0, none⟩), undef, undef, undef, .int .i64 k, .slice A zs.length c, .slice A ys.length c, acV a, .int .i64 k, .slice D xs.length d, .slice D ms.length d, undef, .int .i64 k, .slice E us.length e0, undef, undef, undef, undef, undef, undef, undef, undef, undef, undef, undef, undef, undef, undef, undef, undef, undef, undef, undef, undef, undef, undef, undef, undef, undef, undef, undef, undef, undef, undef, undef, undef, undef, undef, undef, undef, undef, undef, undef, undef, undef, undef, undef, undef, undef, undef, undef, undef], defers := [] } _ _
      refine Steps.cons (o := { dst := some 20, op := Op.call { callee := Callee.value (Operand.func 10), args := #[Operand.tmp 17, Operand.tmp 19], argTypes := #[3, 22] }, type := 25, pos := "law.go:41", after := #[{ on := 4, ground := Ground.data }, { on := 6, ground := Ground.data }, { on := 6, ground := Ground.chain }], guard := none }) rfl (fun K hK => ?_) (Steps.cons (o := { dst := some 10, op := Op.alloc 25, type := 0, pos := "law.go:41", after := #[], guard := none }) rfl (fun K hK => ?_) (Steps.cons (o := { dst := some 11, op := Op.alloc 25, type := 0, pos := "law.go:41", after := #[], guard := none }) rfl (fun K hK => ?_) Steps.nil))
      · go_simp
        go_at_call 10
        refine (HA2.out _ hM.s).mono ?_
        rintro e w5 ⟨rfl, hb5⟩
        exact hK.out _ _ ⟨4, true, false, false, g9, g10, g11, by decide, by simp only [Bool.toNat_true, Bool.toNat_false] at hn ⊢; omega, by kernel_rfl, rfl, hM.below hb5⟩
      · go_simp
        exact hK.out _ _ ⟨3, true, true, false, g9, _, g11, by decide, by simp only [Bool.toNat_true, Bool.toNat_false] at hn ⊢; omega, by kernel_rfl, rfl, hM.new10⟩
      · go_simp
        exact hK.out _ _ ⟨3, true, false, true, g9, g10, _, by decide, by simp only [Bool.toNat_true, Bool.toNat_false] at hn ⊢; omega, by kernel_rfl, rfl, hM.new11⟩
    · refine ⟨[7, 13], by kernel_rfl, by simp, ?_⟩
      change Steps _ _ _ _ _ { tmps := #[.int .i64 k, .slice A zs.length c, .slice D xs.length d, .slice E us.length e0, .pointer (some ⟨w.heap.size, 0, none⟩), undef, undef, undef, .bool false, .pointer (some ⟨g9, 0, none⟩), undef, .pointer (some ⟨g11, 0, none⟩), undef, .int .i64 k, .slice A zs.length c, .slice A ys.length c, acV a, .int .i64 k, .slice D xs.length d, .slice D ms.length d, undef, .int .i64 k, .slice E us.length e0, undef, undef, undef, undef, undef, undef, undef, undef, undef, undef, undef, undef, undef, undef, undef, undef, undef, undef, undef, undef, undef, undef, undef, undef, undef, undef, undef, undef, undef, undef, undef, undef, undef, undef, undef, undef, undef, undef, undef, undef, undef, undef, undef, undef, undef, undef, undef, undef], defers := [] } _ _
      refine Steps.cons (o := { dst := some 20, op := Op.call { callee := Callee.value (Operand.func 10), args := #[Operand.tmp 17, Operand.tmp 19], argTypes := #[3, 22] }, type := 25, pos := "law.go:41", after := #[{ on := 4, ground := Ground.data }, { on := 6, ground := Ground.data }, { on := 6, ground := Ground.chain }], guard := none }) rfl (fun K hK => ?_) (Steps.cons (o := { dst := some 10, op := Op.alloc 25, type := 0, pos := "law.go:41", after := #[], guard := none }) rfl (fun K hK => ?_) Steps.nil)
      · go_simp
        go_at_call 10
        refine (HA2.out _ hM.s).mono ?_
        rintro e w5 ⟨rfl, hb5⟩
        exact hK.out _ _ ⟨4, true, false, true, g9, g10, g11, by decide, by simp only [Bool.toNat_true, Bool.toNat_false] at hn ⊢; omega, by kernel_rfl, rfl, hM.below hb5⟩
      · go_simp
        exact hK.out _ _ ⟨3, true, true, true, g9, _, g11, by decide, by simp only [Bool.toNat_true, Bool.toNat_false] at hn ⊢; omega, by kernel_rfl, rfl, hM.new10⟩
    · refine ⟨[7, 14], by kernel_rfl, by simp, ?_⟩
      change Steps _ _ _ _ _ { tmps := #[.int .i64 k, .slice A zs.length c, .slice D xs.length d, .slice E us.length e0, .pointer (some ⟨w.heap.size, 0, none⟩), undef, undef, undef, .bool false, .pointer (some ⟨g9, 0, none⟩), .pointer (some ⟨g10, 0, none⟩), undef, undef, .int .i64 k, .slice A zs.length c, .slice A ys.length c, acV a, .int .i64 k, .slice D xs.length d, .slice D ms.length d, undef, .int .i64 k, .slice E us.length e0, undef, undef, undef, undef, undef, undef, undef, undef, undef, undef, undef, undef, undef, undef, undef, undef, undef, undef, undef, undef, undef, undef, undef, undef, undef, undef, undef, undef, undef, undef, undef, undef, undef, undef, undef, undef, undef, undef, undef, undef, undef, undef, undef, undef, undef, undef, undef, undef], defers := [] } _ _
      refine Steps.cons (o := { dst := some 20, op := Op.call { callee := Callee.value (Operand.func 10), args := #[Operand.tmp 17, Operand.tmp 19], argTypes := #[3, 22] }, type := 25, pos := "law.go:41", after := #[{ on := 4, ground := Ground.data }, { on := 6, ground := Ground.data }, { on := 6, ground := Ground.chain }], guard := none }) rfl (fun K hK => ?_) (Steps.cons (o := { dst := some 11, op := Op.alloc 25, type := 0, pos := "law.go:41", after := #[], guard := none }) rfl (fun K hK => ?_) Steps.nil)
      · go_simp
        go_at_call 10
        refine (HA2.out _ hM.s).mono ?_
        rintro e w5 ⟨rfl, hb5⟩
        exact hK.out _ _ ⟨4, true, true, false, g9, g10, g11, by decide, by simp only [Bool.toNat_true, Bool.toNat_false] at hn ⊢; omega, by kernel_rfl, rfl, hM.below hb5⟩
      · go_simp
        exact hK.out _ _ ⟨3, true, true, true, g9, g10, _, by decide, by simp only [Bool.toNat_true, Bool.toNat_false] at hn ⊢; omega, by kernel_rfl, rfl, hM.new11⟩
    · refine ⟨[7], by kernel_rfl, by simp, ?_⟩
      change Steps _ _ _ _ _ { tmps := #[.int .i64 k, .slice A zs.length c, .slice D xs.length d, .slice E us.length e0, .pointer (some ⟨w.heap.size, 0, none⟩), undef, undef, undef, .bool false, .pointer (some ⟨g9, 0, none⟩), .pointer (some ⟨g10, 0, none⟩), .pointer (some ⟨g11, 0, none⟩), undef, .int .i64 k, .slice A zs.length c, .slice A ys.length c, acV a, .int .i64 k, .slice D xs.length d, .slice D ms.length d, undef, .int .i64 k, .slice E us.length e0, undef, undef, undef, undef, undef, undef, undef, undef, undef, undef, undef, undef, undef, undef, undef, undef, undef, undef, undef, undef, undef, undef, undef, undef, undef, undef, undef, undef, undef, undef, undef, undef, undef, undef, undef, undef, undef, undef, undef, undef, undef, undef, undef, undef, undef, undef, undef, undef], defers := [] } _ _
      refine Steps.cons (o := { dst := some 20, op := Op.call { callee := Callee.value (Operand.func 10), args := #[Operand.tmp 17, Operand.tmp 19], argTypes := #[3, 22] }, type := 25, pos := "law.go:41", after := #[{ on := 4, ground := Ground.data }, { on := 6, ground := Ground.data }, { on := 6, ground := Ground.chain }], guard := none }) rfl (fun K hK => ?_) Steps.nil
      · go_simp
        go_at_call 10
        refine (HA2.out _ hM.s).mono ?_
        rintro e w5 ⟨rfl, hb5⟩
        exact hK.out _ _ ⟨4, true, true, true, g9, g10, g11, by decide, by simp only [Bool.toNat_true, Bool.toNat_false] at hn ⊢; omega, by kernel_rfl, rfl, hM.below hb5⟩
    · refine ⟨[10, 12, 13, 14], by kernel_rfl, by simp, ?_⟩
      change Steps _ _ _ _ _ { tmps := #[.int .i64 k, .slice A zs.length c, .slice D xs.length d, .slice E us.length e0, .pointer (some ⟨w.heap.size, 0, none⟩), undef, undef, undef, .bool false, undef, undef, undef, undef, .int .i64 k, .slice A zs.length c, .slice A ys.length c, acV a, .int .i64 k, .slice D xs.length d, .slice D ms.length d, acV b, .int .i64 k, .slice E us.length e0, undef, undef, undef, undef, undef, undef, undef, undef, undef, undef, undef, undef, undef, undef, undef, undef, undef, undef, undef, undef, undef, undef, undef, undef, undef, undef, undef, undef, undef, undef, undef, undef, undef, undef, undef, undef, undef, undef, undef, undef, undef, undef, undef, undef, undef, undef, undef, undef], defers := [] } _ _
      refine Steps.cons (o := { dst := some 23, op := Op.call { callee := Callee.value (Operand.func 9), args := #[Operand.tmp 22], argTypes := #[22] }, type := 22, pos := "law.go:41", after := #[{ on := 9, ground := Ground.data }, { on := 7, ground := Ground.chain }], guard := none }) rfl (fun K hK => ?_) (Steps.cons (o := { dst := some 9, op := Op.alloc 25, type := 0, pos := "law.go:41", after := #[], guard := none }) rfl (fun K hK => ?_) (Steps.cons (o := { dst := some 10, op := Op.alloc 25, type := 0, pos := "law.go:41", after := #[], guard := none }) rfl (fun K hK => ?_) (Steps.cons (o := { dst := some 11, op := Op.alloc 25, type := 0, pos := "law.go:41", after := #[], guard := none }) rfl (fun K hK => ?_) Steps.nil)))
      · go_simp
        go_at_call 9
        refine (HS3.out _ hM.s).mono ?_
        rintro e w5 ⟨rfl, hb5⟩
        exact hK.out _ _ ⟨5, false, false, false, g9, g10, g11, by decide, by simp only [Bool.toNat_true, Bool.toNat_false] at hn ⊢; omega, by kernel_rfl, rfl, hM.below hb5⟩
      · go_simp
        exact hK.out _ _ ⟨4, true, false, false, _, g10, g11, by decide, by simp only [Bool.toNat_true, Bool.toNat_false] at hn ⊢; omega, by kernel_rfl, rfl, hM.new9⟩
      · go_simp
        exact hK.out _ _ ⟨4, false, true, false, g9, _, g11, by decide, by simp only [Bool.toNat_true, Bool.toNat_false] at hn ⊢; omega, by kernel_rfl, rfl, hM.new10⟩
      · go_simp
        exact hK.out _ _ ⟨4, false, false, true, g9, g10, _, by decide, by simp only [Bool.toNat_true, Bool.toNat_false] at hn ⊢; omega, by kernel_rfl, rfl, hM.new11⟩
    · refine ⟨[10, 12, 13], by kernel_rfl, by simp, ?_⟩
      change Steps _ _ _ _ _ { tmps := #[.int .i64 k, .slice A zs.length c, .slice D xs.length d, .slice E us.length e0, .pointer (some ⟨w.heap.size, 0, none⟩), undef, undef, undef, .bool false, undef, undef, .pointer (some ⟨g11, 0, none⟩), undef, .int .i64 k, .slice A zs.length c, .slice A ys.length c, acV a, .int .i64 k, .slice D xs.length d, .slice D ms.length d, acV b, .int .i64 k, .slice E us.length e0, undef, undef, undef, undef, undef, undef, undef, undef, undef, undef, undef, undef, undef, undef, undef, undef, undef, undef, undef, undef, undef, undef, undef, undef, undef, undef, undef, undef, undef, undef, undef, undef, undef, undef, undef, undef, undef, undef, undef, undef, undef, undef, undef, undef, undef, undef, undef, undef], defers := [] } _ _
      refine Steps.cons (o := { dst := some 23, op := Op.call { callee := Callee.value (Operand.func 9), args := #[Operand.tmp 22], argTypes := #[22] }, type := 22, pos := "law.go:41", after := #[{ on := 9, ground := Ground.data }, { on := 7, ground := Ground.chain }], guard := none }) rfl (fun K hK => ?_) (Steps.cons (o := { dst := some 9, op := Op.alloc 25, type := 0, pos := "law.go:41", after := #[], guard := none }) rfl (fun K hK => ?_) (Steps.cons (o := { dst := some 10, op := Op.alloc 25, type := 0, pos := "law.go:41", after := #[], guard := none }) rfl (fun K hK => ?_) Steps.nil))
      · go_simp
        go_at_call 9
        refine (HS3.out _ hM.s).mono ?_
        rintro e w5 ⟨rfl, hb5⟩
        exact hK.out _ _ ⟨5, false, false, true, g9, g10, g11, by decide, by simp only [Bool.toNat_true, Bool.toNat_false] at hn ⊢; omega, by kernel_rfl, rfl, hM.below hb5⟩
      · go_simp
        exact hK.out _ _ ⟨4, true, false, true, _, g10, g11, by decide, by simp only [Bool.toNat_true, Bool.toNat_false] at hn ⊢; omega, by kernel_rfl, rfl, hM.new9⟩
      · go_simp
        exact hK.out _ _ ⟨4, false, true, true, g9, _, g11, by decide, by simp only [Bool.toNat_true, Bool.toNat_false] at hn ⊢; omega, by kernel_rfl, rfl, hM.new10⟩
    · refine ⟨[10, 12, 14], by kernel_rfl, by simp, ?_⟩
      change Steps _ _ _ _ _ { tmps := #[.int .i64 k, .slice A zs.length c, .slice D xs.length d, .slice E us.length e0, .pointer (some ⟨w.heap.size, 0, none⟩), undef, undef, undef, .bool false, undef, .pointer (some ⟨g10, 0, none⟩), undef, undef, .int .i64 k, .slice A zs.length c, .slice A ys.length c, acV a, .int .i64 k, .slice D xs.length d, .slice D ms.length d, acV b, .int .i64 k, .slice E us.length e0, undef, undef, undef, undef, undef, undef, undef, undef, undef, undef, undef, undef, undef, undef, undef, undef, undef, undef, undef, undef, undef, undef, undef, undef, undef, undef, undef, undef, undef, undef, undef, undef, undef, undef, undef, undef, undef, undef, undef, undef, undef, undef, undef, undef, undef, undef, undef, undef], defers := [] } _ _
      refine Steps.cons (o := { dst := some 23, op := Op.call { callee := Callee.value (Operand.func 9), args := #[Operand.tmp 22], argTypes := #[22] }, type := 22, pos := "law.go:41", after := #[{ on := 9, ground := Ground.data }, { on := 7, ground := Ground.chain }], guard := none }) rfl (fun K hK => ?_) (Steps.cons (o := { dst := some 9, op := Op.alloc 25, type := 0, pos := "law.go:41", after := #[], guard := none }) rfl (fun K hK => ?_) (Steps.cons (o := { dst := some 11, op := Op.alloc 25, type := 0, pos := "law.go:41", after := #[], guard := none }) rfl (fun K hK => ?_) Steps.nil))
      · go_simp
        go_at_call 9
        refine (HS3.out _ hM.s).mono ?_
        rintro e w5 ⟨rfl, hb5⟩
        exact hK.out _ _ ⟨5, false, true, false, g9, g10, g11, by decide, by simp only [Bool.toNat_true, Bool.toNat_false] at hn ⊢; omega, by kernel_rfl, rfl, hM.below hb5⟩
      · go_simp
        exact hK.out _ _ ⟨4, true, true, false, _, g10, g11, by decide, by simp only [Bool.toNat_true, Bool.toNat_false] at hn ⊢; omega, by kernel_rfl, rfl, hM.new9⟩
      · go_simp
        exact hK.out _ _ ⟨4, false, true, true, g9, g10, _, by decide, by simp only [Bool.toNat_true, Bool.toNat_false] at hn ⊢; omega, by kernel_rfl, rfl, hM.new11⟩
    · refine ⟨[10, 12], by kernel_rfl, by simp, ?_⟩
      change Steps _ _ _ _ _ { tmps := #[.int .i64 k, .slice A zs.length c, .slice D xs.length d, .slice E us.length e0, .pointer (some ⟨w.heap.size, 0, none⟩), undef, undef, undef, .bool false, undef, .pointer (some ⟨g10, 0, none⟩), .pointer (some ⟨g11, 0, none⟩), undef, .int .i64 k, .slice A zs.length c, .slice A ys.length c, acV a, .int .i64 k, .slice D xs.length d, .slice D ms.length d, acV b, .int .i64 k, .slice E us.length e0, undef, undef, undef, undef, undef, undef, undef, undef, undef, undef, undef, undef, undef, undef, undef, undef, undef, undef, undef, undef, undef, undef, undef, undef, undef, undef, undef, undef, undef, undef, undef, undef, undef, undef, undef, undef, undef, undef, undef, undef, undef, undef, undef, undef, undef, undef, undef, undef], defers := [] } _ _
      refine Steps.cons (o := { dst := some 23, op := Op.call { callee := Callee.value (Operand.func 9), args := #[Operand.tmp 22], argTypes := #[22] }, type := 22, pos := "law.go:41", after := #[{ on := 9, ground := Ground.data }, { on := 7, ground := Ground.chain }], guard := none }) rfl (fun K hK => ?_) (Steps.cons (o := { dst := some 9, op := Op.alloc 25, type := 0, pos := "law.go:41", after := #[], guard := none }) rfl (fun K hK => ?_) Steps.nil)
      · go_simp
        go_at_call 9
        refine (HS3.out _ hM.s).mono ?_
        rintro e w5 ⟨rfl, hb5⟩
        exact hK.out _ _ ⟨5, false, true, true, g9, g10, g11, by decide, by simp only [Bool.toNat_true, Bool.toNat_false] at hn ⊢; omega, by kernel_rfl, rfl, hM.below hb5⟩
      · go_simp
        exact hK.out _ _ ⟨4, true, true, true, _, g10, g11, by decide, by simp only [Bool.toNat_true, Bool.toNat_false] at hn ⊢; omega, by kernel_rfl, rfl, hM.new9⟩
    · refine ⟨[10, 13, 14], by kernel_rfl, by simp, ?_⟩
      change Steps _ _ _ _ _ { tmps := #[.int .i64 k, .slice A zs.length c, .slice D xs.length d, .slice E us.length e0, .pointer (some ⟨w.heap.size, 0, none⟩), undef, undef, undef, .bool false, .pointer (some ⟨g9, 0, none⟩), undef, undef, undef, .int .i64 k, .slice A zs.length c, .slice A ys.length c, acV a, .int .i64 k, .slice D xs.length d, .slice D ms.length d, acV b, .int .i64 k, .slice E us.length e0, undef, undef, undef, undef, undef, undef, undef, undef, undef, undef, undef, undef, undef, undef, undef, undef, undef, undef, undef, undef, undef, undef, undef, undef, undef, undef, undef, undef, undef, undef, undef, undef, undef, undef, undef, undef, undef, undef, undef, undef, undef, undef, undef, undef, undef, undef, undef, undef], defers := [] } _ _
      refine Steps.cons (o := { dst := some 23, op := Op.call { callee := Callee.value (Operand.func 9), args := #[Operand.tmp 22], argTypes := #[22] }, type := 22, pos := "law.go:41", after := #[{ on := 9, ground := Ground.data }, { on := 7, ground := Ground.chain }], guard := none }) rfl (fun K hK => ?_) (Steps.cons (o := { dst := some 10, op := Op.alloc 25, type := 0, pos := "law.go:41", after := #[], guard := none }) rfl (fun K hK => ?_) (Steps.cons (o := { dst := some 11, op := Op.alloc 25, type := 0, pos := "law.go:41", after := #[], guard := none }) rfl (fun K hK => ?_) Steps.nil))
      · go_simp
        go_at_call 9
        refine (HS3.out _ hM.s).mono ?_
        rintro e w5 ⟨rfl, hb5⟩
        exact hK.out _ _ ⟨5, true, false, false, g9, g10, g11, by decide, by simp only [Bool.toNat_true, Bool.toNat_false] at hn ⊢; omega, by kernel_rfl, rfl, hM.below hb5⟩
      · go_simp
        exact hK.out _ _ ⟨4, true, true, false, g9, _, g11, by decide, by simp only [Bool.toNat_true, Bool.toNat_false] at hn ⊢; omega, by kernel_rfl, rfl, hM.new10⟩
      · go_simp
        exact hK.out _ _ ⟨4, true, false, true, g9, g10, _, by decide, by simp only [Bool.toNat_true, Bool.toNat_false] at hn ⊢; omega, by kernel_rfl, rfl, hM.new11⟩
    · refine ⟨[10, 13], by kernel_rfl, by simp, ?_⟩
      change Steps _ _ _ _ _ { tmps := #[.int .i64 k, .slice A zs.length c, .slice D xs.length d, .slice E us.length e0, .pointer (some ⟨w.heap.size, 0, none⟩), undef, undef, undef, .bool false, .pointer (some ⟨g9, 0, none⟩), undef, .pointer (some ⟨g11, 0, none⟩), undef, .int .i64 k, .slice A zs.length c, .slice A ys.length c, acV a, .int .i64 k, .slice D xs.length d, .slice D ms.length d, acV b, .int .i64 k, .slice E us.length e0, undef, undef, undef, undef, undef, undef, undef, undef, undef, undef, undef, undef, undef, undef, undef, undef, undef, undef, undef, undef, undef, undef, undef, undef, undef, undef, undef, undef, undef, undef, undef, undef, undef, undef, undef, undef, undef, undef, undef, undef, undef, undef, undef, undef, undef, undef, undef, undef], defers := [] } _ _
      refine Steps.cons (o := { dst := some 23, op := Op.call { callee := Callee.value (Operand.func 9), args := #[Operand.tmp 22], argTypes := #[22] }, type := 22, pos := "law.go:41", after := #[{ on := 9, ground := Ground.data }, { on := 7, ground := Ground.chain }], guard := none }) rfl (fun K hK => ?_) (Steps.cons (o := { dst := some 10, op := Op.alloc 25, type := 0, pos := "law.go:41", after := #[], guard := none }) rfl (fun K hK => ?_) Steps.nil)
      · go_simp
        go_at_call 9
        refine (HS3.out _ hM.s).mono ?_
        rintro e w5 ⟨rfl, hb5⟩
        exact hK.out _ _ ⟨5, true, false, true, g9, g10, g11, by decide, by simp only [Bool.toNat_true, Bool.toNat_false] at hn ⊢; omega, by kernel_rfl, rfl, hM.below hb5⟩
      · go_simp
        exact hK.out _ _ ⟨4, true, true, true, g9, _, g11, by decide, by simp only [Bool.toNat_true, Bool.toNat_false] at hn ⊢; omega, by kernel_rfl, rfl, hM.new10⟩
    · refine ⟨[10, 14], by kernel_rfl, by simp, ?_⟩
      change Steps _ _ _ _ _ { tmps := #[.int .i64 k, .slice A zs.length c, .slice D xs.length d, .slice E us.length e0, .pointer (some ⟨w.heap.size, 0, none⟩), undef, undef, undef, .bool false, .pointer (some ⟨g9, 0, none⟩), .pointer (some ⟨g10, 0, none⟩), undef, undef, .int .i64 k, .slice A zs.length c, .slice A ys.length c, acV a, .int .i64 k, .slice D xs.length d, .slice D ms.length d, acV b, .int .i64 k, .slice E us.length e0, undef, undef, undef, undef, undef, undef, undef, undef, undef, undef, undef, undef, undef, undef, undef, undef, undef, undef, undef, undef, undef, undef, undef, undef, undef, undef, undef, undef, undef, undef, undef, undef, undef, undef, undef, undef, undef, undef, undef, undef, undef, undef, undef, undef, undef, undef, undef, undef], defers := [] } _ _
      refine Steps.cons (o := { dst := some 23, op := Op.call { callee := Callee.value (Operand.func 9), args := #[Operand.tmp 22], argTypes := #[22] }, type := 22, pos := "law.go:41", after := #[{ on := 9, ground := Ground.data }, { on := 7, ground := Ground.chain }], guard := none }) rfl (fun K hK => ?_) (Steps.cons (o := { dst := some 11, op := Op.alloc 25, type := 0, pos := "law.go:41", after := #[], guard := none }) rfl (fun K hK => ?_) Steps.nil)
      · go_simp
        go_at_call 9
        refine (HS3.out _ hM.s).mono ?_
        rintro e w5 ⟨rfl, hb5⟩
        exact hK.out _ _ ⟨5, true, true, false, g9, g10, g11, by decide, by simp only [Bool.toNat_true, Bool.toNat_false] at hn ⊢; omega, by kernel_rfl, rfl, hM.below hb5⟩
      · go_simp
        exact hK.out _ _ ⟨4, true, true, true, g9, g10, _, by decide, by simp only [Bool.toNat_true, Bool.toNat_false] at hn ⊢; omega, by kernel_rfl, rfl, hM.new11⟩
    · refine ⟨[10], by kernel_rfl, by simp, ?_⟩
      change Steps _ _ _ _ _ { tmps := #[.int .i64 k, .slice A zs.length c, .slice D xs.length d, .slice E us.length e0, .pointer (some ⟨w.heap.size, 0, none⟩), undef, undef, undef, .bool false, .pointer (some ⟨g9, 0, none⟩), .pointer (some ⟨g10, 0, none⟩), .pointer (some ⟨g11, 0, none⟩), undef, .int .i64 k, .slice A zs.length c, .slice A ys.length c, acV a, .int .i64 k, .slice D xs.length d, .slice D ms.length d, acV b, .int .i64 k, .slice E us.length e0, undef, undef, undef, undef, undef, undef, undef, undef, undef, undef, undef, undef, undef, undef, undef, undef, undef, undef, undef, undef, undef, undef, undef, undef, undef, undef, undef, undef, undef, undef, undef, undef, undef, undef, undef, undef, undef, undef, undef, undef, undef, undef, undef, undef, undef, undef, undef, undef], defers := [] } _ _
      refine Steps.cons (o := { dst := some 23, op := Op.call { callee := Callee.value (Operand.func 9), args := #[Operand.tmp 22], argTypes := #[22] }, type := 22, pos := "law.go:41", after := #[{ on := 9, ground := Ground.data }, { on := 7, ground := Ground.chain }], guard := none }) rfl (fun K hK => ?_) Steps.nil
      · go_simp
        go_at_call 9
        refine (HS3.out _ hM.s).mono ?_
        rintro e w5 ⟨rfl, hb5⟩
        exact hK.out _ _ ⟨5, true, true, true, g9, g10, g11, by decide, by simp only [Bool.toNat_true, Bool.toNat_false] at hn ⊢; omega, by kernel_rfl, rfl, hM.below hb5⟩
    · refine ⟨[11, 12, 13, 14], by kernel_rfl, by simp, ?_⟩
      change Steps _ _ _ _ _ { tmps := #[.int .i64 k, .slice A zs.length c, .slice D xs.length d, .slice E us.length e0, .pointer (some ⟨w.heap.size, 0, none⟩), undef, undef, undef, .bool false, undef, undef, undef, undef, .int .i64 k, .slice A zs.length c, .slice A ys.length c, acV a, .int .i64 k, .slice D xs.length d, .slice D ms.length d, acV b, .int .i64 k, .slice E us.length e0, .slice E ns.length e0, undef, undef, undef, undef, undef, undef, undef, undef, undef, undef, undef, undef, undef, undef, undef, undef, undef, undef, undef, undef, undef, undef, undef, undef, undef, undef, undef, undef, undef, undef, undef, undef, undef, undef, undef, undef, undef, undef, undef, undef, undef, undef, undef, undef, undef, undef, undef], defers := [] } _ _
      refine Steps.cons (o := { dst := some 24, op := Op.call { callee := Callee.value (Operand.func 10), args := #[Operand.tmp 21, Operand.tmp 23], argTypes := #[3, 22] }, type := 25, pos := "law.go:41", after := #[{ on := 8, ground := Ground.data }, { on := 10, ground := Ground.data }, { on := 10, ground := Ground.chain }], guard := none }) rfl (fun K hK => ?_) (Steps.cons (o := { dst := some 9, op := Op.alloc 25, type := 0, pos := "law.go:41", after := #[], guard := none }) rfl (fun K hK => ?_) (Steps.cons (o := { dst := some 10, op := Op.alloc 25, type := 0, pos := "law.go:41", after := #[], guard := none }) rfl (fun K hK => ?_) (Steps.cons (o := { dst := some 11, op := Op.alloc 25, type := 0, pos := "law.go:41", after := #[], guard := none }) rfl (fun K hK => ?_) Steps.nil)))
      · go_simp
        go_at_call 10
        refine (HA3.out _ hM.s).mono ?_
        rintro e w5 ⟨rfl, hb5⟩
        exact hK.out _ _ ⟨6, false, false, false, g9, g10, g11, by decide, by simp only [Bool.toNat_true, Bool.toNat_false] at hn ⊢; omega, by kernel_rfl, rfl, hM.below hb5⟩
      · go_simp
        exact hK.out _ _ ⟨5, true, false, false, _, g10, g11, by decide, by simp only [Bool.toNat_true, Bool.toNat_false] at hn ⊢; omega, by kernel_rfl, rfl, hM.new9⟩
      · go_simp
        exact hK.out _ _ ⟨5, false, true, false, g9, _, g11, by decide, by simp only [Bool.toNat_true, Bool.toNat_false] at hn ⊢; omega, by kernel_rfl, rfl, hM.new10⟩
      · go_simp
        exact hK.out _ _ ⟨5, false, false, true, g9, g10, _, by decide, by simp only [Bool.toNat_true, Bool.toNat_false] at hn ⊢; omega, by kernel_rfl, rfl, hM.new11⟩
    · refine ⟨[11, 12, 13], by kernel_rfl, by simp, ?_⟩
      change Steps _ _ _ _ _ { tmps := #[.int .i64 k, .slice A zs.length c, .slice D xs.length d, .slice E us.length e0, .pointer (some ⟨w.heap.size, 0, none⟩), undef, undef, undef, .bool false, undef, undef, .pointer (some ⟨g11, 0, none⟩), undef, .int .i64 k, .slice A zs.length c, .slice A ys.length c, acV a, .int .i64 k, .slice D xs.length d, .slice D ms.length d, acV b, .int .i64 k, .slice E us.length e0, .slice E ns.length e0, undef, undef, undef, undef, undef, undef, undef, undef, undef, undef, undef, undef, undef, undef, undef, undef, undef, undef, undef, undef, undef, undef, undef, undef, undef, undef, undef, undef, undef, undef, undef, undef, undef, undef, undef, undef, undef, undef, undef, undef, undef, undef, undef, undef, undef, undef, undef], defers := [] } _ _
      refine Steps.cons (o := { dst := some 24, op := Op.call { callee := Callee.value (Operand.func 10), args := #[Operand.tmp 21, Operand.tmp 23], argTypes := #[3, 22] }, type := 25, pos := "law.go:41", after := #[{ on := 8, ground := Ground.data }, { on := 10, ground := Ground.data }, { on := 10, ground := Ground.chain }], guard := none }) rfl (fun K hK => ?_) (Steps.cons (o := { dst := some 9, op := Op.alloc 25, type := 0, pos := "law.go:41", after := #[], guard := none }) rfl (fun K hK => ?_) (Steps.cons (o := { dst := some 10, op := Op.alloc 25, type := 0, pos := "law.go:41", after := #[], guard := none }) rfl (fun K hK => ?_) Steps.nil))
      · go_simp
        go_at_call 10
        refine (HA3.out _ hM.s).mono ?_
        rintro e w5 ⟨rfl, hb5⟩
        exact hK.out _ _ ⟨6, false, false, true, g9, g10, g11, by decide, by simp only [Bool.toNat_true, Bool.toNat_false] at hn ⊢; omega, by kernel_rfl, rfl, hM.below hb5⟩
      · go_simp
        exact hK.out _ _ ⟨5, true, false, true, _, g10, g11, by decide, by simp only [Bool.toNat_true, Bool.toNat_false] at hn ⊢; omega, by kernel_rfl, rfl, hM.new9⟩
      · go_simp
        exact hK.out _ _ ⟨5, false, true, true, g9, _, g11, by decide, by simp only [Bool.toNat_true, Bool.toNat_false] at hn ⊢; omega, by kernel_rfl, rfl, hM.new10⟩
    · refine ⟨[11, 12, 14], by kernel_rfl, by simp, ?_⟩
      change Steps _ _ _ _ _ { tmps := #[.int .i64 k, .slice A zs.length c, .slice D xs.length d, .slice E us.length e0, .pointer (some ⟨w.heap.size, 0, none⟩), undef, undef, undef, .bool false, undef, .pointer (some ⟨g10, 0, none⟩), undef, undef, .int .i64 k, .slice A zs.length c, .slice A ys.length c, acV a, .int .i64 k, .slice D xs.length d, .slice D ms.length d, acV b, .int .i64 k, .slice E us.length e0, .slice E ns.length e0, undef, undef, undef, undef, undef, undef, undef, undef, undef, undef, undef, undef, undef, undef, undef, undef, undef, undef, undef, undef, undef, undef, undef, undef, undef, undef, undef, undef, undef, undef, undef, undef, undef, undef, undef, undef, undef, undef, undef, undef, undef, undef, undef, undef, undef, undef, undef], defers := [] } _ _
      refine Steps.cons (o := { dst := some 24, op := Op.call { callee := Callee.value (Operand.func 10), args := #[Operand.tmp 21, Operand.tmp 23], argTypes := #[3, 22] }, type := 25, pos := "law.go:41", after := #[{ on := 8, ground := Ground.data }, { on := 10, ground := Ground.data }, { on := 10, ground := Ground.chain }], guard := none }) rfl (fun K hK => ?_) (Steps.cons (o := { dst := some 9, op := Op.alloc 25, type := 0, pos := "law.go:41", after := #[], guard := none }) rfl (fun K hK => ?_) (Steps.cons (o := { dst := some 11, op := Op.alloc 25, type := 0, pos := "law.go:41", after := #[], guard := none }) rfl (fun K hK => ?_) Steps.nil))
      · go_simp
        go_at_call 10
        refine (HA3.out _ hM.s).mono ?_
        rintro e w5 ⟨rfl, hb5⟩
        exact hK.out _ _ ⟨6, false, true, false, g9, g10, g11, by decide, by simp only [Bool.toNat_true, Bool.toNat_false] at hn ⊢; omega, by kernel_rfl, rfl, hM.below hb5⟩
      · go_simp
        exact hK.out _ _ ⟨5, true, true, false, _, g10, g11, by decide, by simp only [Bool.toNat_true, Bool.toNat_false] at hn ⊢; omega, by kernel_rfl, rfl, hM.new9⟩
      · go_simp
        exact hK.out _ _ ⟨5, false, true, true, g9, g10, _, by decide, by simp only [Bool.toNat_true, Bool.toNat_false] at hn ⊢; omega, by kernel_rfl, rfl, hM.new11⟩
    · refine ⟨[11, 12], by kernel_rfl, by simp, ?_⟩
      change Steps _ _ _ _ _ { tmps := #[.int .i64 k, .slice A zs.length c, .slice D xs.length d, .slice E us.length e0, .pointer (some ⟨w.heap.size, 0, none⟩), undef, undef, undef, .bool false, undef, .pointer (some ⟨g10, 0, none⟩), .pointer (some ⟨g11, 0, none⟩), undef, .int .i64 k, .slice A zs.length c, .slice A ys.length c, acV a, .int .i64 k, .slice D xs.length d, .slice D ms.length d, acV b, .int .i64 k, .slice E us.length e0, .slice E ns.length e0, undef, undef, undef, undef, undef, undef, undef, undef, undef, undef, undef, undef, undef, undef, undef, undef, undef, undef, undef, undef, undef, undef, undef, undef, undef, undef, undef, undef, undef, undef, undef, undef, undef, undef, undef, undef, undef, undef, undef, undef, undef, undef, undef, undef, undef, undef, undef], defers := [] } _ _
      refine Steps.cons (o := { dst := some 24, op := Op.call { callee := Callee.value (Operand.func 10), args := #[Operand.tmp 21, Operand.tmp 23], argTypes := #[3, 22] }, type := 25, pos := "law.go:41", after := #[{ on := 8, ground := Ground.data }, { on := 10, ground := Ground.data }, { on := 10, ground := Ground.chain }], guard := none }) rfl (fun K hK => ?_) (Steps.cons (o := { dst := some 9, op := Op.alloc 25, type := 0, pos := "law.go:41", after := #[], guard := none }) rfl (fun K hK => ?_) Steps.nil)
      · go_simp
        go_at_call 10
        refine (HA3.out _ hM.s).mono ?_
        rintro e w5 ⟨rfl, hb5⟩
        exact hK.out _ _ ⟨6, false, true, true, g9, g10, g11, by decide, by simp only [Bool.toNat_true, Bool.toNat_false] at hn ⊢; omega, by kernel_rfl, rfl, hM.below hb5⟩
      · go_simp
        exact hK.out _ _ ⟨5, true, true, true, _, g10, g11, by decide, by simp only [Bool.toNat_true, Bool.toNat_false] at hn ⊢; omega, by kernel_rfl, rfl, hM.new9⟩
    · refine ⟨[11, 13, 14], by kernel_rfl, by simp, ?_⟩
      change Steps _ _ _ _ _ { tmps := #[.int .i64 k, .slice A zs.length c, .slice D xs.length d, .slice E us.length e0, .pointer (some ⟨w.heap.size, 0, none⟩), undef, undef, undef, .bool false, .pointer (some ⟨g9, 0, none⟩), undef, undef, undef, .int .i64 k, .slice A zs.length c, .slice A ys.length c, acV a, .int .i64 k, .slice D xs.length d, .slice D ms.length d, acV b, .int .i64 k, .slice E us.length e0, .slice E ns.length e0, undef, undef, undef, undef, undef, undef, undef, undef, undef, undef, undef, undef, undef, undef, undef, undef, undef, undef, undef, undef, undef, undef, undef, undef, undef, undef, undef, undef, undef, undef, undef, undef, undef, undef, undef, undef, undef, undef, undef, undef, undef, undef, undef, undef, undef, undef, undef], defers := [] } _ _
      refine Steps.cons (o := { dst := some 24, op := Op.call { callee := Callee.value (Operand.func 10), args := #[Operand.tmp 21, Operand.tmp 23], argTypes := #[3, 22] }, type := 25, pos := "law.go:41", after := #[{ on := 8, ground := Ground.data }, { on := 10, ground := Ground.data }, { on := 10, ground := Ground.chain }], guard := none }) rfl (fun K hK => ?_) (Steps.cons (o := { dst := some 10, op := Op.alloc 25, type := 0, pos := "law.go:41", after := #[], guard := none }) rfl (fun K hK => ?_) (Steps.cons (o := { dst := some 11, op := Op.alloc 25, type := 0, pos := "law.go:41", after := #[], guard := none }) rfl (fun K hK => ?_) Steps.nil))
      · go_simp
        go_at_call 10
        refine (HA3.out _ hM.s).mono ?_
        rintro e w5 ⟨rfl, hb5⟩
        exact hK.out _ _ ⟨6, true, false, false, g9, g10, g11, by decide, by simp only [Bool.toNat_true, Bool.toNat_false] at hn ⊢; omega, by kernel_rfl, rfl, hM.below hb5⟩
      · go_simp
        exact hK.out _ _ ⟨5, true, true, false, g9, _, g11, by decide, by simp only [Bool.toNat_true, Bool.toNat_false] at hn ⊢; omega, by kernel_rfl, rfl, hM.new10⟩
      · go_simp
        exact hK.out _ _ ⟨5, true, false, true, g9, g10, _, by decide, by simp only [Bool.toNat_true, Bool.toNat_false] at hn ⊢; omega, by kernel_rfl, rfl, hM.new11⟩
    · refine ⟨[11, 13], by kernel_rfl, by simp, ?_⟩
      change Steps _ _ _ _ _ { tmps := #[.int .i64 k, .slice A zs.length c, .slice D xs.length d, .slice E us.length e0, .pointer (some ⟨w.heap.size, 0, none⟩), undef, undef, undef, .bool false, .pointer (some ⟨g9, 0, none⟩), undef, .pointer (some ⟨g11, 0, none⟩), undef, .int .i64 k, .slice A zs.length c, .slice A ys.length c, acV a, .int .i64 k, .slice D xs.length d, .slice D ms.length d, acV b, .int .i64 k, .slice E us.length e0, .slice E ns.length e0, undef, undef, undef, undef, undef, undef, undef, undef, undef, undef, undef, undef, undef, undef, undef, undef, undef, undef, undef, undef, undef, undef, undef, undef, undef, undef, undef, undef, undef, undef, undef, undef, undef, undef, undef, undef, undef, undef, undef, undef, undef, undef, undef, undef, undef, undef, undef], defers := [] } _ _
      refine Steps.cons (o := { dst := some 24, op := Op.call { callee := Callee.value (Operand.func 10), args := #[Operand.tmp 21, Operand.tmp 23], argTypes := #[3, 22] }, type := 25, pos := "law.go:41", after := #[{ on := 8, ground := Ground.data }, { on := 10, ground := Ground.data }, { on := 10, ground := Ground.chain }], guard := none }) rfl (fun K hK => ?_) (Steps.cons (o := { dst := some 10, op := Op.alloc 25, type := 0, pos := "law.go:41", after := #[], guard := none }) rfl (fun K hK => ?_) Steps.nil)
      · go_simp
        go_at_call 10
        refine (HA3.out _ hM.s).mono ?_
        rintro e w5 ⟨rfl, hb5⟩
        exact hK.out _ _ ⟨6, true, false, true, g9, g10, g11, by decide, by simp only [Bool.toNat_true, Bool.toNat_false] at hn ⊢; omega, by kernel_rfl, rfl, hM.below hb5⟩
      · go_simp
        exact hK.out _ _ ⟨5, true, true, true, g9, _, g11, by decide, by simp only [Bool.toNat_true, Bool.toNat_false] at hn ⊢; omega, by kernel_rfl, rfl, hM.new10⟩
    · refine ⟨[11, 14], by kernel_rfl, by simp, ?_⟩
      change Steps _ _ _ _ _ { tmps := #[.int .i64 k, .slice A zs.length c, .slice D xs.length d, .slice E us.length e0, .pointer (some ⟨w.heap.size, 0, none⟩), undef, undef, undef, .bool false, .pointer (some ⟨g9, 0, none⟩), .pointer (some ⟨g10, 0, none⟩), undef, undef, .int .i64 k, .slice A zs.length c, .slice A ys.length c, acV a, .int .i64 k, .slice D xs.length d, .slice D ms.length d, acV b, .int .i64 k, .slice E us.length e0, .slice E ns.length e0, undef, undef, undef, undef, undef, undef, undef, undef, undef, undef, undef, undef, undef, undef, undef, undef, undef, undef, undef, undef, undef, undef, undef, undef, undef, undef, undef, undef, undef, undef, undef, undef, undef, undef, undef, undef, undef, undef, undef, undef, undef, undef, undef, undef, undef, undef, undef], defers := [] } _ _
      refine Steps.cons (o := { dst := some 24, op := Op.call { callee := Callee.value (Operand.func 10), args := #[Operand.tmp 21, Operand.tmp 23], argTypes := #[3, 22] }, type := 25, pos := "law.go:41", after := #[{ on := 8, ground := Ground.data }, { on := 10, ground := Ground.data }, { on := 10, ground := Ground.chain }], guard := none }) rfl (fun K hK => ?_) (Steps.cons (o := { dst := some 11, op := Op.alloc 25, type := 0, pos := "law.go:41", after := #[], guard := none }) rfl (fun K hK => ?_) Steps.nil)
      · go_simp
        go_at_call 10
        refine (HA3.out _ hM.s).mono ?_
        rintro e w5 ⟨rfl, hb5⟩
        exact hK.out _ _ ⟨6, true, true, false, g9, g10, g11, by decide, by simp only [Bool.toNat_true, Bool.toNat_false] at hn ⊢; omega, by kernel_rfl, rfl, hM.below hb5⟩
      · go_simp
        exact hK.out _ _ ⟨5, true, true, true, g9, g10, _, by decide, by simp only [Bool.toNat_true, Bool.toNat_false] at hn ⊢; omega, by kernel_rfl, rfl, hM.new11⟩
    · refine ⟨[11], by kernel_rfl, by simp, ?_⟩
      change Steps _ _ _ _ _ { tmps := #[.int .i64 k, .slice A zs.length c, .slice D xs.length d, .slice E us.length e0, .pointer (some ⟨w.heap.size, 0, none⟩), undef, undef, undef, .bool false, .pointer (some ⟨g9, 0, none⟩), .pointer (some ⟨g10, 0, none⟩), .pointer (some ⟨g11, 0, none⟩), undef, .int .i64 k, .slice A zs.length c, .slice A ys.length c, acV a, .int .i64 k, .slice D xs.length d, .slice D ms.length d, acV b, .int .i64 k, .slice E us.length e0, .slice E ns.length e0, undef, undef, undef, undef, undef, undef, undef, undef, undef, undef, undef, undef, undef, undef, undef, undef, undef, undef, undef, undef, undef, undef, undef, undef, undef, undef, undef, undef, undef, undef, undef, undef, undef, undef, undef, undef, undef, undef, undef, undef, undef, undef, undef, undef, undef, undef, undef], defers := [] } _ _
      refine Steps.cons (o := { dst := some 24, op := Op.call { callee := Callee.value (Operand.func 10), args := #[Operand.tmp 21, Operand.tmp 23], argTypes := #[3, 22] }, type := 25, pos := "law.go:41", after := #[{ on := 8, ground := Ground.data }, { on := 10, ground := Ground.data }, { on := 10, ground := Ground.chain }], guard := none }) rfl (fun K hK => ?_) Steps.nil
      · go_simp
        go_at_call 10
        refine (HA3.out _ hM.s).mono ?_
        rintro e w5 ⟨rfl, hb5⟩
        exact hK.out _ _ ⟨6, true, true, true, g9, g10, g11, by decide, by simp only [Bool.toNat_true, Bool.toNat_false] at hn ⊢; omega, by kernel_rfl, rfl, hM.below hb5⟩
    · refine ⟨[12, 13, 14], by kernel_rfl, by simp, ?_⟩
      change Steps _ _ _ _ _ { tmps := #[.int .i64 k, .slice A zs.length c, .slice D xs.length d, .slice E us.length e0, .pointer (some ⟨w.heap.size, 0, none⟩), undef, undef, undef, .bool false, undef, undef, undef, undef, .int .i64 k, .slice A zs.length c, .slice A ys.length c, acV a, .int .i64 k, .slice D xs.length d, .slice D ms.length d, acV b, .int .i64 k, .slice E us.length e0, .slice E ns.length e0, acV f, undef, undef, undef, undef, undef, undef, undef, undef, undef, undef, undef, undef, undef, undef, undef, undef, undef, undef, undef, undef, undef, undef, undef, undef, undef, undef, undef, undef, undef, undef, undef, undef, undef, undef, undef, undef, undef, undef, undef, undef, undef, undef, undef, undef, undef, undef], defers := [] } _ _
      refine Steps.cons (o := { dst := some 9, op := Op.alloc 25, type := 0, pos := "law.go:41", after := #[], guard := none }) rfl (fun K hK => ?_) (Steps.cons (o := { dst := some 10, op := Op.alloc 25, type := 0, pos := "law.go:41", after := #[], guard := none }) rfl (fun K hK => ?_) (Steps.cons (o := { dst := some 11, op := Op.alloc 25, type := 0, pos := "law.go:41", after := #[], guard := none }) rfl (fun K hK => ?_) Steps.nil))
      · go_simp
        exact hK.out _ _ ⟨6, true, false, false, _, g10, g11, by decide, by simp only [Bool.toNat_true, Bool.toNat_false] at hn ⊢; omega, by kernel_rfl, rfl, hM.new9⟩
      · go_simp
        exact hK.out _ _ ⟨6, false, true, false, g9, _, g11, by decide, by simp only [Bool.toNat_true, Bool.toNat_false] at hn ⊢; omega, by kernel_rfl, rfl, hM.new10⟩
      · go_simp
        exact hK.out _ _ ⟨6, false, false, true, g9, g10, _, by decide, by simp only [Bool.toNat_true, Bool.toNat_false] at hn ⊢; omega, by kernel_rfl, rfl, hM.new11⟩
    · refine ⟨[12, 13], by kernel_rfl, by simp, ?_⟩
      change Steps _ _ _ _ _ { tmps := #[.int .i64 k, .slice A zs.length c, .slice D xs.length d, .slice E us.length e0, .pointer (some ⟨w.heap.size, 0, none⟩), undef, undef, undef, .bool false, undef, undef, .pointer (some ⟨g11, 0, none⟩), undef, .int .i64 k, .slice A zs.length c, .slice A ys.length c, acV a, .int .i64 k, .slice D xs.length d, .slice D ms.length d, acV b, .int .i64 k, .slice E us.length e0, .slice E ns.length e0, acV f, undef, undef, undef, undef, undef, undef, undef, undef, undef, undef, undef, undef, undef, undef, undef, undef, undef, undef, undef, undef, undef, undef, undef, undef, undef, undef, undef, undef, undef, undef, undef, undef, undef, undef, undef, undef, undef, undef, undef, undef, undef, undef, undef, undef, undef, undef], defers := [] } _ _
      refine Steps.cons (o := { dst := some 9, op := Op.alloc 25, type := 0, pos := "law.go:41", after := #[], guard := none }) rfl (fun K hK => ?_) (Steps.cons (o := { dst := some 10, op := Op.alloc 25, type := 0, pos := "law.go:41", after := #[], guard := none }) rfl (fun K hK => ?_) Steps.nil)
      · go_simp
        exact hK.out _ _ ⟨6, true, false, true, _, g10, g11, by decide, by simp only [Bool.toNat_true, Bool.toNat_false] at hn ⊢; omega, by kernel_rfl, rfl, hM.new9⟩
      · go_simp
        exact hK.out _ _ ⟨6, false, true, true, g9, _, g11, by decide, by simp only [Bool.toNat_true, Bool.toNat_false] at hn ⊢; omega, by kernel_rfl, rfl, hM.new10⟩
    · refine ⟨[12, 14], by kernel_rfl, by simp, ?_⟩
      change Steps _ _ _ _ _ { tmps := #[.int .i64 k, .slice A zs.length c, .slice D xs.length d, .slice E us.length e0, .pointer (some ⟨w.heap.size, 0, none⟩), undef, undef, undef, .bool false, undef, .pointer (some ⟨g10, 0, none⟩), undef, undef, .int .i64 k, .slice A zs.length c, .slice A ys.length c, acV a, .int .i64 k, .slice D xs.length d, .slice D ms.length d, acV b, .int .i64 k, .slice E us.length e0, .slice E ns.length e0, acV f, undef, undef, undef, undef, undef, undef, undef, undef, undef, undef, undef, undef, undef, undef, undef, undef, undef, undef, undef, undef, undef, undef, undef, undef, undef, undef, undef, undef, undef, undef, undef, undef, undef, undef, undef, undef, undef, undef, undef, undef, undef, undef, undef, undef, undef, undef], defers := [] } _ _
      refine Steps.cons (o := { dst := some 9, op := Op.alloc 25, type := 0, pos := "law.go:41", after := #[], guard := none }) rfl (fun K hK => ?_) (Steps.cons (o := { dst := some 11, op := Op.alloc 25, type := 0, pos := "law.go:41", after := #[], guard := none }) rfl (fun K hK => ?_) Steps.nil)
      · go_simp
        exact hK.out _ _ ⟨6, true, true, false, _, g10, g11, by decide, by simp only [Bool.toNat_true, Bool.toNat_false] at hn ⊢; omega, by kernel_rfl, rfl, hM.new9⟩
      · go_simp
        exact hK.out _ _ ⟨6, false, true, true, g9, g10, _, by decide, by simp only [Bool.toNat_true, Bool.toNat_false] at hn ⊢; omega, by kernel_rfl, rfl, hM.new11⟩
    · refine ⟨[12], by kernel_rfl, by simp, ?_⟩
      change Steps _ _ _ _ _ { tmps := #[.int .i64 k, .slice A zs.length c, .slice D xs.length d, .slice E us.length e0, .pointer (some ⟨w.heap.size, 0, none⟩), undef, undef, undef, .bool false, undef, .pointer (some ⟨g10, 0, none⟩), .pointer (some ⟨g11, 0, none⟩), undef, .int .i64 k, .slice A zs.length c, .slice A ys.length c, acV a, .int .i64 k, .slice D xs.length d, .slice D ms.length d, acV b, .int .i64 k, .slice E us.length e0, .slice E ns.length e0, acV f, undef, undef, undef, undef, undef, undef, undef, undef, undef, undef, undef, undef, undef, undef, undef, undef, undef, undef, undef, undef, undef, undef, undef, undef, undef, undef, undef, undef, undef, undef, undef, undef, undef, undef, undef, undef, undef, undef, undef, undef, undef, undef, undef, undef, undef, undef], defers := [] } _ _
      refine Steps.cons (o := { dst := some 9, op := Op.alloc 25, type := 0, pos := "law.go:41", after := #[], guard := none }) rfl (fun K hK => ?_) Steps.nil
      · go_simp
        exact hK.out _ _ ⟨6, true, true, true, _, g10, g11, by decide, by simp only [Bool.toNat_true, Bool.toNat_false] at hn ⊢; omega, by kernel_rfl, rfl, hM.new9⟩
    · refine ⟨[13, 14], by kernel_rfl, by simp, ?_⟩
      change Steps _ _ _ _ _ { tmps := #[.int .i64 k, .slice A zs.length c, .slice D xs.length d, .slice E us.length e0, .pointer (some ⟨w.heap.size, 0, none⟩), undef, undef, undef, .bool false, .pointer (some ⟨g9, 0, none⟩), undef, undef, undef, .int .i64 k, .slice A zs.length c, .slice A ys.length c, acV a, .int .i64 k, .slice D xs.length d, .slice D ms.length d, acV b, .int .i64 k, .slice E us.length e0, .slice E ns.length e0, acV f, undef, undef, undef, undef, undef, undef, undef, undef, undef, undef, undef, undef, undef, undef, undef, undef, undef, undef, undef, undef, undef, undef, undef, undef, undef, undef, undef, undef, undef, undef, undef, undef, undef, undef, undef, undef, undef, undef, undef, undef, undef, undef, undef, undef, undef, undef], defers := [] } _ _
      refine Steps.cons (o := { dst := some 10, op := Op.alloc 25, type := 0, pos := "law.go:41", after := #[], guard := none }) rfl (fun K hK => ?_) (Steps.cons (o := { dst := some 11, op := Op.alloc 25, type := 0, pos := "law.go:41", after := #[], guard := none }) rfl (fun K hK => ?_) Steps.nil)
      · go_simp
        exact hK.out _ _ ⟨6, true, true, false, g9, _, g11, by decide, by simp only [Bool.toNat_true, Bool.toNat_false] at hn ⊢; omega, by kernel_rfl, rfl, hM.new10⟩
      · go_simp
        exact hK.out _ _ ⟨6, true, false, true, g9, g10, _, by decide, by simp only [Bool.toNat_true, Bool.toNat_false] at hn ⊢; omega, by kernel_rfl, rfl, hM.new11⟩
    · refine ⟨[13], by kernel_rfl, by simp, ?_⟩
      change Steps _ _ _ _ _ { tmps := #[.int .i64 k, .slice A zs.length c, .slice D xs.length d, .slice E us.length e0, .pointer (some ⟨w.heap.size, 0, none⟩), undef, undef, undef, .bool false, .pointer (some ⟨g9, 0, none⟩), undef, .pointer (some ⟨g11, 0, none⟩), undef, .int .i64 k, .slice A zs.length c, .slice A ys.length c, acV a, .int .i64 k, .slice D xs.length d, .slice D ms.length d, acV b, .int .i64 k, .slice E us.length e0, .slice E ns.length e0, acV f, undef, undef, undef, undef, undef, undef, undef, undef, undef, undef, undef, undef, undef, undef, undef, undef, undef, undef, undef, undef, undef, undef, undef, undef, undef, undef, undef, undef, undef, undef, undef, undef, undef, undef, undef, undef, undef, undef, undef, undef, undef, undef, undef, undef, undef, undef], defers := [] } _ _
      refine Steps.cons (o := { dst := some 10, op := Op.alloc 25, type := 0, pos := "law.go:41", after := #[], guard := none }) rfl (fun K hK => ?_) Steps.nil
      · go_simp
        exact hK.out _ _ ⟨6, true, true, true, g9, _, g11, by decide, by simp only [Bool.toNat_true, Bool.toNat_false] at hn ⊢; omega, by kernel_rfl, rfl, hM.new10⟩
    · refine ⟨[14], by kernel_rfl, by simp, ?_⟩
      change Steps _ _ _ _ _ { tmps := #[.int .i64 k, .slice A zs.length c, .slice D xs.length d, .slice E us.length e0, .pointer (some ⟨w.heap.size, 0, none⟩), undef, undef, undef, .bool false, .pointer (some ⟨g9, 0, none⟩), .pointer (some ⟨g10, 0, none⟩), undef, undef, .int .i64 k, .slice A zs.length c, .slice A ys.length c, acV a, .int .i64 k, .slice D xs.length d, .slice D ms.length d, acV b, .int .i64 k, .slice E us.length e0, .slice E ns.length e0, acV f, undef, undef, undef, undef, undef, undef, undef, undef, undef, undef, undef, undef, undef, undef, undef, undef, undef, undef, undef, undef, undef, undef, undef, undef, undef, undef, undef, undef, undef, undef, undef, undef, undef, undef, undef, undef, undef, undef, undef, undef, undef, undef, undef, undef, undef, undef], defers := [] } _ _
      refine Steps.cons (o := { dst := some 11, op := Op.alloc 25, type := 0, pos := "law.go:41", after := #[], guard := none }) rfl (fun K hK => ?_) Steps.nil
      · go_simp
        exact hK.out _ _ ⟨6, true, true, true, g9, g10, _, by decide, by simp only [Bool.toNat_true, Bool.toNat_false] at hn ⊢; omega, by kernel_rfl, rfl, hM.new11⟩
    · simp only [Bool.toNat_true] at hn; omega

  case hend =>
    clear hHeld S0
    rintro listed act w' ⟨p, x, y, z, g9, g10, g11, hp, hn, rfl, rfl, hM⟩
    have hx : p = 6 ∧ x = true ∧ y = true ∧ z = true := by
      cases x <;> cases y <;> cases z <;> simp only [Bool.toNat_true, Bool.toNat_false] at hn <;> first | (exfalso; omega) | exact ⟨by omega, rfl, rfl, rfl⟩
    obtain ⟨rfl, rfl, rfl, rfl⟩ := hx
    clear hp hn
    obtain ⟨s9, L9⟩ := hM.h9 rfl
    obtain ⟨s10, L10⟩ := hM.h10 rfl
    obtain ⟨s11, L11⟩ := hM.h11 rfl
    have n1 : g9 ≠ g10 := hM.a1 rfl rfl
    have n2 : g9 ≠ g11 := hM.a2 rfl rfl
    have n3 : g10 ≠ g11 := hM.a3 rfl rfl
    have SA := hM.s
    clear hM
    change wpAnyH _ _ _ _ _ 3 _ { tmps := #[.int .i64 k, .slice A zs.length c, .slice D xs.length d, .slice E us.length e0, .pointer (some ⟨w.heap.size, 0, none⟩), undef, undef, undef, .bool false, .pointer (some ⟨g9, 0, none⟩), .pointer (some ⟨g10, 0, none⟩), .pointer (some ⟨g11, 0, none⟩), undef, .int .i64 k, .slice A zs.length c, .slice A ys.length c, acV a, .int .i64 k, .slice D xs.length d, .slice D ms.length d, acV b, .int .i64 k, .slice E us.length e0, .slice E ns.length e0, acV f, undef, undef, undef, undef, undef, undef, undef, undef, undef, undef, undef, undef, undef, undef, undef, undef, undef, undef, undef, undef, undef, undef, undef, undef, undef, undef, undef, undef, undef, undef, undef, undef, undef, undef, undef, undef, undef, undef, undef, undef, undef, undef, undef, undef, undef, undef], defers := [] } _
    have HL9 := Lib.hid L9; have HL10 := Lib.hid L10; have HL11 := Lib.hid L11; have HSA := Lib.hid SA
    have c0 := L9.cell (j := 0) rfl; have c1 := L9.cell (j := 1) rfl; have c2 := L9.cell (j := 2) rfl
    have f0 := L9.free 0; have f1 := L9.free 1; have f2 := L9.free 2
    clear L9 L10 L11 SA
    refine wpAnyH_ready (rs := [15]) (by kernel_rfl) (by simp) (AllReadyH.cons (o := { dst := none, op := Op.store 25 (Operand.tmp 9) (Operand.tmp 16), type := 0, pos := "law.go:41", after := #[{ on := 12, ground := Ground.data }, { on := 3, ground := Ground.data }, { on := 11, ground := Ground.chain }, { on := 0, ground := Ground.phase }, { on := 1, ground := Ground.phase }, { on := 2, ground := Ground.phase }, { on := 3, ground := Ground.phase }, { on := 4, ground := Ground.textOnly Departure.lateStores }, { on := 5, ground := Ground.textOnly Departure.lateStores }, { on := 6, ground := Ground.textOnly Departure.lateStoresUnsure }, { on := 7, ground := Ground.textOnly Departure.lateStoresUnsure }, { on := 8, ground := Ground.textOnly Departure.lateStores }, { on := 9, ground := Ground.textOnly Departure.lateStores }, { on := 10, ground := Ground.textOnly Departure.lateStoresUnsure }, { on := 11, ground := Ground.textOnly Departure.lateStoresUnsure }, { on := 12, ground := Ground.phase }, { on := 13, ground := Ground.phase }, { on := 14, ground := Ground.phase }], guard := none }) rfl (fun K hK => ?_) AllReadyH.nil)
    go_simp
    clear c0 c1 c2 f0 f1 f2
    have L9 := HL9.out.set3 (.int .i64 a.n) (.int .i64 a.a) (.int .i64 a.b)
    have L10 := ((HL10.out.other n1.symm 0 (.int .i64 a.n)).other n1.symm 1 (.int .i64 a.a)).other n1.symm 2 (.int .i64 a.b)
    have L11 := ((HL11.out.other n2.symm 0 (.int .i64 a.n)).other n2.symm 1 (.int .i64 a.a)).other n2.symm 2 (.int .i64 a.b)
    have SA := keepS (keepS (keepS HSA.out (show w.heap.size ≠ g9 by omega) (by omega) 0 (.int .i64 a.n)) (show w.heap.size ≠ g9 by omega) (by omega) 1 (.int .i64 a.a)) (show w.heap.size ≠ g9 by omega) (by omega) 2 (.int .i64 a.b)
    generalize ((w'.setCell ⟨g9, 0, none⟩ (.int .i64 a.n)).setCell ⟨g9, 1, none⟩ (.int .i64 a.a)).setCell ⟨g9, 2, none⟩ (.int .i64 a.b) = w9 at L9 L10 L11 SA ⊢
    clear HL9 HL10 HL11 HSA
    refine hK.out _ _ SA (fun _ => ?_)
    clear hK K
    have HL9 := Lib.hid L9; have HL10 := Lib.hid L10; have HL11 := Lib.hid L11; have HSA := Lib.hid SA
    have c0 := L10.cell (j := 0) rfl; have c1 := L10.cell (j := 1) rfl; have c2 := L10.cell (j := 2) rfl
    have f0 := L10.free 0; have f1 := L10.free 1; have f2 := L10.free 2
    clear L9 L10 L11 SA
    refine wpAnyH_ready (rs := [16]) (by kernel_rfl) (by simp) (AllReadyH.cons (o := { dst := none, op := Op.store 25 (Operand.tmp 10) (Operand.tmp 20), type := 0, pos := "law.go:41", after := #[{ on := 13, ground := Ground.data }, { on := 7, ground := Ground.data }, { on := 15, ground := Ground.chain }, { on := 0, ground := Ground.phase }, { on := 1, ground := Ground.phase }, { on := 2, ground := Ground.phase }, { on := 3, ground := Ground.phase }, { on := 4, ground := Ground.phase }, { on := 5, ground := Ground.phase }, { on := 6, ground := Ground.phase }, { on := 7, ground := Ground.phase }, { on := 8, ground := Ground.textOnly Departure.lateStores }, { on := 9, ground := Ground.textOnly Departure.lateStores }, { on := 10, ground := Ground.textOnly Departure.lateStoresUnsure }, { on := 11, ground := Ground.textOnly Departure.lateStoresUnsure }, { on := 12, ground := Ground.phase }, { on := 13, ground := Ground.phase }, { on := 14, ground := Ground.phase }, { on := 15, ground := Ground.phase }], guard := none }) rfl (fun K hK => ?_) AllReadyH.nil)
    go_simp
    clear c0 c1 c2 f0 f1 f2
    have L9 := ((HL9.out.other n1 0 (.int .i64 b.n)).other n1 1 (.int .i64 b.a)).other n1 2 (.int .i64 b.b)
    have L10 := HL10.out.set3 (.int .i64 b.n) (.int .i64 b.a) (.int .i64 b.b)
    have L11 := ((HL11.out.other n3.symm 0 (.int .i64 b.n)).other n3.symm 1 (.int .i64 b.a)).other n3.symm 2 (.int .i64 b.b)
    have SA := keepS (keepS (keepS HSA.out (show w.heap.size ≠ g10 by omega) (by omega) 0 (.int .i64 b.n)) (show w.heap.size ≠ g10 by omega) (by omega) 1 (.int .i64 b.a)) (show w.heap.size ≠ g10 by omega) (by omega) 2 (.int .i64 b.b)
    generalize ((w9.setCell ⟨g10, 0, none⟩ (.int .i64 b.n)).setCell ⟨g10, 1, none⟩ (.int .i64 b.a)).setCell ⟨g10, 2, none⟩ (.int .i64 b.b) = w10 at L9 L10 L11 SA ⊢
    clear HL9 HL10 HL11 HSA
    refine hK.out _ _ SA (fun _ => ?_)
    clear hK K
    have HL9 := Lib.hid L9; have HL10 := Lib.hid L10; have HL11 := Lib.hid L11; have HSA := Lib.hid SA
    have c0 := L11.cell (j := 0) rfl; have c1 := L11.cell (j := 1) rfl; have c2 := L11.cell (j := 2) rfl
    have f0 := L11.free 0; have f1 := L11.free 1; have f2 := L11.free 2
    clear L9 L10 L11 SA
    refine wpAnyH_ready (rs := [17]) (by kernel_rfl) (by simp) (AllReadyH.cons (o := { dst := none, op := Op.store 25 (Operand.tmp 11) (Operand.tmp 24), type := 0, pos := "law.go:41", after := #[{ on := 14, ground := Ground.data }, { on := 11, ground := Ground.data }, { on := 16, ground := Ground.chain }, { on := 0, ground := Ground.phase }, { on := 1, ground := Ground.phase }, { on := 2, ground := Ground.phase }, { on := 3, ground := Ground.phase }, { on := 4, ground := Ground.phase }, { on := 5, ground := Ground.phase }, { on := 6, ground := Ground.phase }, { on := 7, ground := Ground.phase }, { on := 8, ground := Ground.phase }, { on := 9, ground := Ground.phase }, { on := 10, ground := Ground.phase }, { on := 11, ground := Ground.phase }, { on := 12, ground := Ground.phase }, { on := 13, ground := Ground.phase }, { on := 14, ground := Ground.phase }, { on := 15, ground := Ground.phase }, { on := 16, ground := Ground.phase }], guard := none }) rfl (fun K hK => ?_) AllReadyH.nil)
    go_simp
    clear c0 c1 c2 f0 f1 f2
    have L9 := ((HL9.out.other n2 0 (.int .i64 f.n)).other n2 1 (.int .i64 f.a)).other n2 2 (.int .i64 f.b)
    have L10 := ((HL10.out.other n3 0 (.int .i64 f.n)).other n3 1 (.int .i64 f.a)).other n3 2 (.int .i64 f.b)
    have L11 := HL11.out.set3 (.int .i64 f.n) (.int .i64 f.a) (.int .i64 f.b)
    have SA := keepS (keepS (keepS HSA.out (show w.heap.size ≠ g11 by omega) (by omega) 0 (.int .i64 f.n)) (show w.heap.size ≠ g11 by omega) (by omega) 1 (.int .i64 f.a)) (show w.heap.size ≠ g11 by omega) (by omega) 2 (.int .i64 f.b)
    generalize ((w10.setCell ⟨g11, 0, none⟩ (.int .i64 f.n)).setCell ⟨g11, 1, none⟩ (.int .i64 f.a)).setCell ⟨g11, 2, none⟩ (.int .i64 f.b) = w11 at L9 L10 L11 SA ⊢
    clear HL9 HL10 HL11 HSA
    refine hK.out _ _ SA (fun _ => ?_)
    clear hK K
    refine wpAnyH_done (by kernel_rfl) ?_ _
    refine NoPanic.normal ?_
    have S0 : w11.drew.cell? ⟨w.heap.size, 0, none⟩ = some (.int .i64 k) ∧ w11.drew.cell? ⟨g9, 0, none⟩ = some (.int .i64 a.n) ∧ w11.drew.cell? ⟨g9, 1, none⟩ = some (.int .i64 a.a) ∧ w11.drew.cell? ⟨g9, 2, none⟩ = some (.int .i64 a.b) ∧ w11.drew.cell? ⟨g10, 0, none⟩ = some (.int .i64 b.n) ∧ w11.drew.cell? ⟨g10, 1, none⟩ = some (.int .i64 b.a) ∧ w11.drew.cell? ⟨g10, 2, none⟩ = some (.int .i64 b.b) ∧ w11.drew.cell? ⟨g11, 0, none⟩ = some (.int .i64 f.n) ∧ w11.drew.cell? ⟨g11, 1, none⟩ = some (.int .i64 f.a) ∧ w11.drew.cell? ⟨g11, 2, none⟩ = some (.int .i64 f.b) ∧ Below w.heap.size w w11.drew := ⟨SA.1, L9.cell (j := 0) rfl, L9.cell (j := 1) rfl, L9.cell (j := 2) rfl, L10.cell (j := 0) rfl, L10.cell (j := 1) rfl, L10.cell (j := 2) rfl, L11.cell (j := 0) rfl, L11.cell (j := 1) rfl, L11.cell (j := 2) rfl, below_drewOf SA.2⟩
    have HS0 := Lib.hid S0
    clear S0 L9 L10 L11 SA
    go_wp2_with fail
    have S0 := HS0.out
    clear HS0
    first | (go_region_held3 (fun w' => w'.cell? ⟨w.heap.size, 0, none⟩ = some (.int .i64 k) ∧ w'.cell? ⟨g9, 0, none⟩ = some (.int .i64 a.n) ∧ w'.cell? ⟨g9, 1, none⟩ = some (.int .i64 a.a) ∧ w'.cell? ⟨g9, 2, none⟩ = some (.int .i64 a.b) ∧ w'.cell? ⟨g10, 0, none⟩ = some (.int .i64 b.n) ∧ w'.cell? ⟨g10, 1, none⟩ = some (.int .i64 b.a) ∧ w'.cell? ⟨g10, 2, none⟩ = some (.int .i64 b.b) ∧ w'.cell? ⟨g11, 0, none⟩ = some (.int .i64 f.n) ∧ w'.cell? ⟨g11, 1, none⟩ = some (.int .i64 f.a) ∧ w'.cell? ⟨g11, 2, none⟩ = some (.int .i64 f.b) ∧ Below w.heap.size w w')
      (first | assumption | exact keepB10 hb5 (by assumption) | fail)
      ((first | (go_at_call 12; refine (HR.out _).mono ?_; rintro e w5 ⟨rfl, hb5⟩) | (go_at_call 18; (with_reducible refine (HJ1.out _ (And.left (by assumption))).mono ?_); rintro e w5 ⟨rfl, hb5⟩) | (go_at_call 18; (with_reducible refine (HJ2.out _ (And.left (by assumption))).mono ?_); rintro e w5 ⟨rfl, hb5⟩) | (go_at_call 18; (with_reducible refine (HJ3.out _ (And.left (by assumption))).mono ?_); rintro e w5 ⟨rfl, hb5⟩) | (go_at_call 18; (with_reducible refine (HJ4.out _ (And.left (by assumption))).mono ?_); rintro e w5 ⟨rfl, hb5⟩) | (go_at_call 18; (with_reducible refine (HJ5.out _ (And.left (by assumption))).mono ?_); rintro e w5 ⟨rfl, hb5⟩) | (go_at_call 18; (with_reducible refine (HJ6.out _ (And.left (by assumption))).mono ?_); rintro e w5 ⟨rfl, hb5⟩) | (go_at_call 18; (with_reducible refine (HJ7.out _ (And.left (by assumption))).mono ?_); rintro e w5 ⟨rfl, hb5⟩) | fail))) | fail
    rename_i hs
    have hb6 := hs.2.2.2.2.2.2.2.2.2.2
    clear hs
    go_wp2_with fail
    go_ret
    exact ⟨by simp, hb6⟩
theorem lawFoldRules : Lift.Owes 6 [3, 22, 22, 22] := by
  intro H enc W base args ds ps hval hA _ _
  obtain ⟨v0, v1, v2, v3, d0, d1, d2, d3, p0, p1, p2, p3, rfl, rfl, rfl, h0, h1, h2, h3⟩ := trodAll_four hA
  obtain ⟨k, rfl, rfl, rfl, w0⟩ := open_int Try.underlying3 (hval 0 _ v0 rfl rfl) h0
  obtain ⟨A, c, zs, rfl, hl, hm, hr, hz, _⟩ := openInts Try.underlying22 Try.underlying2 cells_i64f (hval 1 _ v1 rfl rfl) h1
  obtain ⟨D, d, xs, rfl, hl', hm', hr', hz', _⟩ := openInts Try.underlying22 Try.underlying2 cells_i64f (hval 2 _ v2 rfl rfl) h2
  obtain ⟨E, e0, us, rfl, hl2, hm2, hr2, hz2, _⟩ := openInts Try.underlying22 Try.underlying2 cells_i64f (hval 3 _ v3 rfl rfl) h3
  exact walkFoldRules k A c zs D d xs E e0 us W hl (by simp only [maxLen] at hm; omega) hr hl' (by simp only [maxLen] at hm'; omega) hr' hl2 (by simp only [maxLen] at hm2; omega) hr2
end Go.Proofs.Ytgmmgmhogacocaa
