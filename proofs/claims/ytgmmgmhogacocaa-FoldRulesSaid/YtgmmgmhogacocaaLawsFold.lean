/- The walks of FoldAll and FoldJoins. -/
import Derived.Test.YtgmmgmhogacocaaFoldJoinR
import Derived.Test.YtgmmgmhogacocaaFoldAllR
import Derived.Test.YtgmmgmhogacocaaLift
import Derived.Laws.StructEq
import Derived.Deep.RegionHeld3
namespace Go.Proofs.Ytgmmgmhogacocaa
open Go.ChangeShapes Go.WideShapes Go.ChangeAt Go.RowKit
open Acm
set_option linter.unusedVariables false
/-- It tells true, and what was stays. -/
def Yes (w : World) (e : Ending) (w' : World) : Prop := e = .returned (.bool true) ∧ Below w.heap.size w w'
theorem fields_acc : Try.prog.underlying 25 = some (.struct (Try.prog.fieldsOf 25)) := by kernel_rfl
theorem stood_acc : Try.prog.stoodInHeld 25 = false := by kernel_rfl
def eqAc (x y : Ac) : Bool := (x.n == y.n) && (x.a == y.a) && (x.b == y.b)
theorem eqAc_refl (x : Ac) : eqAc x x = true := by simp [eqAc]
theorem run_eqAc (x y : Ac) (w : World) : (binOp .eql 25 (acV x) (acV y)).run Try.prog w = .ok (.bool (eqAc x y)) w := by
  have h2 := Try.underlying2
  rw [run_eql_struct, show (10000 : Nat) = 9998 + 2 from rfl, run_equalIn_agg w _ _ _ _ fields_acc stood_acc]
  simp [Program.fieldsOf, Try.underlying25, Op.eqFields, part, isAgg, run_underlying h2, run_equalIn_int w _ _ .i64 .i64 _ _ h2]
  unfold eqAc
  by_cases g1 : x.n = y.n <;> by_cases g2 : x.a = y.a <;> by_cases g3 : x.b = y.b <;> simp [g1, g2, g3]
theorem run_same (x : Ac) (w : World) : (binOp .eql 25 (acV x) (acV x)).run Try.prog w = .ok (.bool true) w := by
  rw [run_eqAc, eqAc_refl]
section
variable {H : Type} {enc : TypeId × Value → H} {w : World} {base : Nat} {spare : Nat → Bool} {held : Bool}
theorem cells_i64f : Try.prog.cellsOf 2 = 1 := by kernel_rfl
theorem cells_acc : Try.prog.cellsOf 25 = 3 := by kernel_rfl
theorem one_i64 {fuel : Nat} {c : Value} {x : DataW H × List MemPlace} (h : DataW.trod enc Try.prog w base spare held fuel 2 [c] = some x) : ∃ z : Int, c = .int .i64 z := by
  obtain ⟨z, h1, _, h3⟩ := DataW.trod_int Try.underlying2 h
  exact ⟨z, by simpa using h1⟩
theorem openAcc {r : Reach} {b0 : Nat} {v : Value} {d : DataW H} {p : List MemPlace} (hv : Value.okWide Try.prog w r b0 25 v) (h : DataW.Trod enc Try.prog w base spare held 25 v d p) :
    ∃ x : Ac, v = acV x := by
  obtain ⟨cs, rfl, hsz⟩ := okWide_struct Try.underlying25 hv
  obtain ⟨l⟩ := cs
  match l, hsz.trans cells_acc with
  | [c0, c1, c2], _ =>
    obtain ⟨fuel, hf⟩ := h
    obtain ⟨xs, n, _, _, _, hlen, hg⟩ := DataW.trod_struct Try.underlying25 hf
    have hl : xs.length = 3 := hlen
    match xs, hl with
    | [y0, y1, y2], _ =>
      obtain ⟨a, rfl⟩ := one_i64 (x := y0) (by simpa [Value.cells, cells_i64f] using hg 0 _ rfl)
      obtain ⟨b, rfl⟩ := one_i64 (x := y1) (by simpa [Value.cells, cells_i64f] using hg 1 _ rfl)
      obtain ⟨c, rfl⟩ := one_i64 (x := y2) (by simpa [Value.cells, cells_i64f] using hg 2 _ rfl)
      exact ⟨⟨a, b, c⟩, rfl⟩
end
/-- The first values of a row. -/
theorem Row.first {w : World} {A : Option Addr} {cs : List Value} (h : Row w A cs) (n : Nat) : Row w A (cs.take n) := by
  rcases h with h | ⟨b, off, hA, h⟩
  · subst h; exact .inl (by simp)
  · exact .inr ⟨b, off, hA, fun j u hu => by
      rw [List.getElem?_take] at hu
      split at hu
      · exact h j u hu
      · cases hu⟩
theorem lwShort (A : Option Addr) (c : Nat) (zs : List Int) (w : World) (hl : zs.length ≤ c) (hc : c ≤ 9223372036854775807) (hr : Row w A (zs.map (Value.int .i64))) :
    Calls Try.prog 9 #[.slice A zs.length c] w fun e w' => e = .returned (.slice A (zs.take 2000).length c) ∧ w = w' := by
  by_cases h : 2000 < zs.length
  · have hlen : Hid ((zs.take 2000).length = 2000) := Lib.hid (by rw [List.length_take]; omega)
    obtain ⟨x, b, off, rfl, _, _⟩ := hr.ints (j := 0) (by omega)
    clear hr
    go_enter Try.func9, Try.ntmps9
    go_wp2
    go_ret
    exact ⟨by rw [hlen.out]; rfl, rfl⟩
  · have hlen : Hid ((zs.take 2000).length = zs.length) := Lib.hid (by rw [List.length_take]; omega)
    have hd : decide (2000 < zs.length) = false := decide_eq_false h
    go_enter Try.func9, Try.ntmps9
    go_wp2
    go_ret
    exact ⟨by rw [hlen.out]; rfl, rfl⟩
/-- Hands back v; what was stays. -/
structure Gives (v : Value) (w : World) (e : Ending) (w' : World) : Prop where
  ret : e = .returned v
  below : Below w.heap.size w w'
theorem gives_of {f : FuncId} {args : Array Value} {v : Value} {w : World} (h : Calls Try.prog f args w fun e w' => e = .returned v ∧ w = w') : Calls Try.prog f args w (Gives v w) :=
  h.mono fun _ _ ⟨a, b⟩ => ⟨a, b ▸ Below.refl _ _⟩
theorem gives_al {f : FuncId} {args : Array Value} {v : Value} {o : Obj} {w : World} (h : Calls Try.prog f args w fun e w' => e = .returned v ∧ w' = w.alloc o) : Calls Try.prog f args w (Gives v w) :=
  h.mono fun _ _ ⟨a, b⟩ => ⟨a, b ▸ below_al (Below.refl _ _)⟩
theorem gives_ac {f : FuncId} {args : Array Value} {x : Ac} {w : World} (h : Calls Try.prog f args w (GivesAc x w)) : Calls Try.prog f args w (Gives (acV x) w) :=
  h.mono fun _ _ ⟨a, b⟩ => ⟨a, b⟩
theorem cell_on {a b : World} {p : Addr} {u : Value} (hb : Below a.heap.size a b) (h : a.cell? p = some u) : b.cell? p = some u := (hb.cell (lt_of_cell h)).trans h
theorem keepB6 {W a b : World} {p0 p1 p2 p3 p4 p5 : Addr} {u0 u1 u2 u3 u4 u5 : Value} (hb : Below a.heap.size a b) (h : a.cell? p0 = some u0 ∧ a.cell? p1 = some u1 ∧ a.cell? p2 = some u2 ∧ a.cell? p3 = some u3 ∧ a.cell? p4 = some u4 ∧ a.cell? p5 = some u5 ∧ Below W.heap.size W a) : b.cell? p0 = some u0 ∧ b.cell? p1 = some u1 ∧ b.cell? p2 = some u2 ∧ b.cell? p3 = some u3 ∧ b.cell? p4 = some u4 ∧ b.cell? p5 = some u5 ∧ Below W.heap.size W b :=
  ⟨cell_on hb h.1, cell_on hb h.2.1, cell_on hb h.2.2.1, cell_on hb h.2.2.2.1, cell_on hb h.2.2.2.2.1, cell_on hb h.2.2.2.2.2.1, below_next h.2.2.2.2.2.2 hb⟩
theorem two_acc (x y : Ac) (w : World) (T : TypeId) : ∀ w1, w1 = ((w.alloc (.cells (acC x) T)).alloc (.cells (acC y) T)) → (w1.drew.cell? ⟨w.heap.size, 0, none⟩ = some (.int .i64 x.n) ∧ w1.drew.cell? ⟨w.heap.size, 1, none⟩ = some (.int .i64 x.a) ∧ w1.drew.cell? ⟨w.heap.size, 2, none⟩ = some (.int .i64 x.b) ∧ w1.drew.cell? ⟨w.heap.size + 1, 0, none⟩ = some (.int .i64 y.n) ∧ w1.drew.cell? ⟨w.heap.size + 1, 1, none⟩ = some (.int .i64 y.a) ∧ w1.drew.cell? ⟨w.heap.size + 1, 2, none⟩ = some (.int .i64 y.b) ∧ Below w.heap.size w w1.drew) := by
  rintro w1 rfl
  have h1 : Lies w.heap.size (acC x) T ((w.alloc (.cells (acC x) T)).alloc (.cells (acC y) T)).drew := (Lies.new _ _ _).al.drew
  have h2 : Lies (w.heap.size + 1) (acC y) T ((w.alloc (.cells (acC x) T)).alloc (.cells (acC y) T)).drew := by
    simpa only [World.size_alloc] using (Lies.new (w.alloc (.cells (acC x) T)) (acC y) T).drew
  exact ⟨h1.cell (j := 0) rfl, h1.cell (j := 1) rfl, h1.cell (j := 2) rfl, h2.cell (j := 0) rfl, h2.cell (j := 1) rfl, h2.cell (j := 2) rfl, below_drewOf (below_al (below_al (Below.refl _ _)))⟩
theorem walkFoldJoins (k : Int) (x y : Ac) (w : World) : Calls Try.prog 4 #[.int .i64 k, acV x, acV y] w (Yes w) := by
  obtain ⟨r, hr⟩ : ∃ r, r = join k x y := ⟨_, rfl⟩
  obtain ⟨n, hn⟩ : ∃ n, n = val k x := ⟨_, rfl⟩
  have HR := Lib.hid (fun w => gives_of (foldRight 1 w))
  have HJ := Lib.hid (fun w => gives_ac (hr ▸ foldJoin k x y w))
  have HK := Lib.hid (fun w => gives_ac (hr ▸ rfJoin k x y w))
  have HV := Lib.hid (fun w => gives_al (hn ▸ foldVal k x w))
  have HW := Lib.hid (fun w => gives_al (hn ▸ refVal k x w))
  have hS := Lib.hid (two_acc x y w 25)
  have hE := run_same r
  have h1 : isK 1 = true := rfl
  clear hr hn
  go_enter Try.func4, Try.ntmps4
  go_wp2_with fail
  generalize hw1 : (w.alloc (.cells (acC x) 25)).alloc (.cells (acC y) 25) = w1
  have S0 := hS.out w1 hw1.symm
  clear hw1
  go_region_held3 (fun w' => w'.cell? ⟨w.heap.size, 0, none⟩ = some (.int .i64 x.n) ∧ w'.cell? ⟨w.heap.size, 1, none⟩ = some (.int .i64 x.a) ∧ w'.cell? ⟨w.heap.size, 2, none⟩ = some (.int .i64 x.b) ∧ w'.cell? ⟨w.heap.size + 1, 0, none⟩ = some (.int .i64 y.n) ∧ w'.cell? ⟨w.heap.size + 1, 1, none⟩ = some (.int .i64 y.a) ∧ w'.cell? ⟨w.heap.size + 1, 2, none⟩ = some (.int .i64 y.b) ∧ Below w.heap.size w w')
    (first | assumption | exact keepB6 hb5 (by assumption))
    ((first | (go_at_call 12; refine (HR.out _).mono ?_; rintro e w5 ⟨rfl, hb5⟩) | (go_at_call 16; refine (HJ.out _).mono ?_; rintro e w5 ⟨rfl, hb5⟩) | (go_at_call 17; refine (HK.out _).mono ?_; rintro e w5 ⟨rfl, hb5⟩) | (go_at_call 14; refine (HV.out _).mono ?_; rintro e w5 ⟨rfl, hb5⟩) | (go_at_call 15; refine (HW.out _).mono ?_; rintro e w5 ⟨rfl, hb5⟩)))
  rename_i hs
  have hb6 := hs.2.2.2.2.2.2
  clear hs
  go_wp2_with fail
  go_ret
  exact ⟨by simp, hb6⟩
theorem lawFoldJoins : Lift.Owes 4 [3, 25, 25] := by
  intro H enc W base args ds ps hval hA _ _
  obtain ⟨v0, v1, v2, d0, d1, d2, p0, p1, p2, rfl, rfl, rfl, h0, h1, h2⟩ := trodAll_three hA
  obtain ⟨k, rfl, rfl, rfl, w0⟩ := open_int Try.underlying3 (hval 0 _ v0 rfl rfl) h0
  obtain ⟨x, rfl⟩ := openAcc (hval 1 _ v1 rfl rfl) h1
  obtain ⟨y, rfl⟩ := openAcc (hval 2 _ v2 rfl rfl) h2
  exact walkFoldJoins k x y W
end Go.Proofs.Ytgmmgmhogacocaa
