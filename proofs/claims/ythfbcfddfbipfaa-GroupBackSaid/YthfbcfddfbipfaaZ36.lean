/- GroupRd, put together. -/
import Derived.Test.YthfbcfddfbipfaaZ13
import Derived.Test.YthfbcfddfbipfaaZ10
import Derived.Deep.RegionWith
import Derived.Deep.RegionHeld3
/- What a group's fields are read by: closures over an input. -/
namespace Go.Proofs.Ythfbcfddfbipfaa
open Go.RowKit
open Itm Vlq
set_option linter.unusedVariables false
set_option maxRecDepth 8000
namespace Grp
/-- A closure that reads: its two captured blocks. -/
structure RCapt (g b1 b2 : Nat) (G : FuncId) (T : TypeId) (w : World) : Prop where
  inp : Lies b1 #[.pointer (some ⟨g, 0, none⟩)] 128 w
  get : Lies b2 #[.func (.func G) #[] #[]] T w
  n1 : b1 ≠ g
  n2 : b2 ≠ g
theorem keepC {x1 x2 x3 : Addr} {v1 v2 v3 : Value} {a b : World} (hb : Below a.heap.size a b) (h : a.cell? x1 = some v1 ∧ a.cell? x2 = some v2 ∧ a.cell? x3 = some v3) : b.cell? x1 = some v1 ∧ b.cell? x2 = some v2 ∧ b.cell? x3 = some v3 :=
  ⟨cell_below h.1 hb, cell_below h.2.1 hb, cell_below h.2.2 hb⟩
theorem keepP {x1 x2 x3 p : Addr} {v1 v2 v3 : Value} {a : World} (v : Value) (h1 : x1 ≠ p) (h2 : x2 ≠ p) (h3 : x3 ≠ p) (h : a.cell? x1 = some v1 ∧ a.cell? x2 = some v2 ∧ a.cell? x3 = some v3) :
    (a.setCell p v).cell? x1 = some v1 ∧ (a.setCell p v).cell? x2 = some v2 ∧ (a.setCell p v).cell? x3 = some v3 :=
  ⟨(World.cell?_setCell_other a p _ v (Ne.symm h1)).trans h.1, (World.cell?_setCell_other a p _ v (Ne.symm h2)).trans h.2.1, (World.cell?_setCell_other a p _ v (Ne.symm h3)).trans h.2.2⟩
theorem adr_block {b c o o' : Nat} (h : b ≠ c) : (⟨b, o, none⟩ : Addr) ≠ ⟨c, o', none⟩ := by intro e; injection e with e1; exact h e1
theorem adr_off {b o o' : Nat} (h : o ≠ o') : (⟨b, o, none⟩ : Addr) ≠ ⟨b, o', none⟩ := by intro e; injection e with _ e2; exact h e2
abbrev ptrV (f : Nat × Nat) : Value := .pointer (some ⟨f.1, f.2, none⟩)
theorem vlqGetB (s : ByteArray) (hs : s.size ≤ 9223372036854775807) (i : Nat) (hi : i ≤ s.size) (w : World) : Calls Try.prog 87 #[.string s, .int .i64 i] w fun e w' => e = .returned (.tuple #[numV (numS s (i, 0)), .int .i64 (numS s (i, 0)).2.1, .int .i64 (numS s (i, 0)).2.2]) ∧ Below w.heap.size w w' :=
  (vlqGet_ok s i w hs hi).mono fun e w' h => ⟨h.1, h.2 ▸ Below.refl _ _⟩
theorem vlqGetSignedB (s : ByteArray) (hs : s.size ≤ 9223372036854775807) (i : Nat) (hi : i ≤ s.size) (w : World) : Calls Try.prog 88 #[.string s, .int .i64 i] w fun e w' => e = .returned (.tuple #[sgnV (sgnS s (i, 0)), .int .i64 (sgnS s (i, 0)).2.1, .int .i64 (sgnS s (i, 0)).2.2]) ∧ Below w.heap.size w w' :=
  (vlqGetSigned_ok s i w hs hi).mono fun e w' h => ⟨h.1, h.2 ▸ Below.refl _ _⟩
theorem vlqGetTextB (s : ByteArray) (hs : s.size ≤ 9223372036854775807) (i : Nat) (hi : i ≤ s.size) (w : World) : Calls Try.prog 90 #[.string s, .int .i64 i] w fun e w' => e = .returned (.tuple #[txtV (txtS s (i, 0)), .int .i64 (txtS s (i, 0)).2.1, .int .i64 (txtS s (i, 0)).2.2]) ∧ Below w.heap.size w w' :=
  vlqGetText_ok s i w hs hi
/-- Where the places stand behind some fields. -/
def chN (s : ByteArray) (st : Nat × Nat) : Nat → Nat × Nat
  | 0 => st
  | k + 1 => (numS s (chN s st k)).2
/-- What a round of the closure keeps. -/
structure RdN (g b1 b2 a : Nat) (s : ByteArray) (fs : List (Nat × Nat)) (st : Nat × Nat) (I : Nat → World → Prop) : Prop where
  row : ∀ k w, I k w → Lies a (fs.map ptrV).toArray 135 w
  capt : ∀ k w, I k w → RCapt g b1 b2 87 131 w
  rd : ∀ k w, I k w → RdAt 91 g s ((chN s st k).1 : Nat) ((chN s st k).2 : Nat) w
  to : ∀ k w, I k w → (chN s st k).1 ≤ s.size
  cell : ∀ k f w, fs[k]? = some f → I k w → (∃ u, w.cell? ⟨f.1, f.2, none⟩ = some u) ∧ w.frozen? ⟨f.1, f.2, none⟩ = false ∧ f.1 ≠ g ∧ f.1 ≠ b1 ∧ f.1 ≠ b2
  next : ∀ k w w', I k w → Below w.heap.size w w' → I k w'
  put : ∀ k f w, fs[k]? = some f → I k w → (chN s st k).2 = 0 → I (k + 1) (((w.setCell ⟨f.1, f.2, none⟩ (numV (numS s (chN s st k)))).setCell ⟨g, 1, none⟩ (.int .i64 (numS s (chN s st k)).2.1)).setCell ⟨g, 2, none⟩ (.int .i64 (numS s (chN s st k)).2.2))
  stay : ∀ k f w, fs[k]? = some f → I k w → (chN s st k).2 ≠ 0 → I (k + 1) w
set_option maxRecDepth 100000 in
set_option maxHeartbeats 4000000 in
theorem gpReadN (g b1 b2 a : Nat) (s : ByteArray) (hs : s.size ≤ 9223372036854775807) (fs : List (Nat × Nat)) (hn : fs.length ≤ 1000) (c : Nat) (st : Nat × Nat) (I : Nat → World → Prop) (hR : RdN g b1 b2 a s fs st I) (w : World) (h0 : I 0 w) :
    Calls Try.prog 114 #[.slice (some ⟨a, 0, none⟩) fs.length c, .pointer (some ⟨b1, 0, none⟩), .pointer (some ⟨b2, 0, none⟩)] w fun e w' => e = .returned (.tuple #[]) ∧ I fs.length w' := by
  have HR := Lib.hid hR; have H0 := Lib.hid h0
  clear hR h0
  go_enter Try.func114, Try.ntmps114
  go_wp2_with fail
  go_loopw [8] (fun i wr => ∃ k : Nat, i = .int .i64 k ∧ k ≤ fs.length ∧ I k wr) (fun i _ => fs.length - (intOf i).toNat)
  case atStart => exact ⟨0, rfl, Nat.zero_le _, H0.out⟩
  case round =>
    obtain ⟨k, rfl, hk, hI⟩ := hrel
    have HI := Lib.hid hI
    clear hI
    by_cases hlt : k < fs.length
    · obtain ⟨f, hf⟩ : ∃ f, fs[k]? = some f := ⟨_, List.getElem?_eq_getElem hlt⟩
      have HF := Lib.hid hf
      have q0 : wr.cell? ⟨a, k, none⟩ = some (.pointer (some ⟨f.1, f.2, none⟩)) := by
        have h := Lies.cell (HR.out.row k wr HI.out) (j := k) (v := ptrV f) (by rw [List.getElem?_toArray, List.getElem?_map, hf]; rfl)
        exact h
      have x1 := (HR.out.capt k wr HI.out).inp.cell (j := 0) rfl
      have x2 := (HR.out.capt k wr HI.out).get.cell (j := 0) rfl
      have HRD := Lib.hid (HR.out.rd k wr HI.out)
      have y0 := HRD.out.c0; have y1 := HRD.out.c1; have y2 := HRD.out.c2
      have HTO := Lib.hid (HR.out.to k wr HI.out)
      obtain ⟨p, hp⟩ : ∃ p, p = chN s st k := ⟨_, rfl⟩
      rw [← hp] at HRD y1 y2 HTO
      have HP := Lib.hid hp
      clear hf hp
      by_cases h0 : p.2 = 0
      · obtain ⟨at_, cz⟩ := p
        simp only at h0
        subst h0
        have HG := Lib.hid (fun w => vlqGetB s hs at_ HTO.out w)
        obtain ⟨R, hR2⟩ : ∃ R, R = numS s (at_, 0) := ⟨_, rfl⟩
        have HPUT := Lib.hid (fun w' (hb : Below wr.heap.size wr w') => HR.out.put k f w' HF.out (HR.out.next k wr w' HI.out hb) (by rw [← HP.out]))
        rw [← HP.out, ← hR2] at HPUT
        rw [← hR2] at HG
        have y2 : wr.cell? ⟨g, 2, none⟩ = some (.int .i64 0) := y2
        have HCE := Lib.hid (fun w' (hb : Below wr.heap.size wr w') => HR.out.cell k f w' HF.out (HR.out.next k wr w' HI.out hb))
        have HRR := Lib.hid (fun w' (hb : Below wr.heap.size wr w') => HR.out.rd k w' (HR.out.next k wr w' HI.out hb))
        obtain ⟨_, _, e1, e2, e3⟩ := HR.out.cell k f wr HF.out HI.out
        have HQ := HR.out.capt k wr HI.out
        have a1 : (⟨b1, 0, none⟩ : Addr) ≠ ⟨f.1, f.2, none⟩ := adr_block (Ne.symm e2)
        have a2 : (⟨b2, 0, none⟩ : Addr) ≠ ⟨f.1, f.2, none⟩ := adr_block (Ne.symm e3)
        have a3 : (⟨g, 0, none⟩ : Addr) ≠ ⟨f.1, f.2, none⟩ := adr_block (Ne.symm e1)
        have a4 : (⟨b1, 0, none⟩ : Addr) ≠ ⟨g, 1, none⟩ := adr_block HQ.n1
        have a5 : (⟨b2, 0, none⟩ : Addr) ≠ ⟨g, 1, none⟩ := adr_block HQ.n2
        have a6 : (⟨g, 0, none⟩ : Addr) ≠ ⟨g, 1, none⟩ := adr_off (by omega)
        have a7 : (⟨b1, 0, none⟩ : Addr) ≠ ⟨g, 2, none⟩ := adr_block HQ.n1
        have a8 : (⟨b2, 0, none⟩ : Addr) ≠ ⟨g, 2, none⟩ := adr_block HQ.n2
        have a9 : (⟨g, 0, none⟩ : Addr) ≠ ⟨g, 2, none⟩ := adr_off (by omega)
        have e4 : g ≠ f.1 := Ne.symm e1
        have HA1 := Lib.hid a1; have HA2 := Lib.hid a2; have HA3 := Lib.hid a3; have HA4 := Lib.hid a4; have HA5 := Lib.hid a5; have HA6 := Lib.hid a6; have HA7 := Lib.hid a7; have HA8 := Lib.hid a8; have HA9 := Lib.hid a9
        clear hR2 HQ e2 e3 a1 a2 a3 a4 a5 a6 a7 a8 a9
        go_wp2_with fail
        have S0 : wr.drew.cell? ⟨b1, 0, none⟩ = some (.pointer (some ⟨g, 0, none⟩)) ∧ wr.drew.cell? ⟨b2, 0, none⟩ = some (.func (.func 87) #[] #[]) ∧ wr.drew.cell? ⟨g, 0, none⟩ = some (.string s) := ⟨x1, x2, y0⟩
        refine wp_region_held_drew (S := fun w' => w'.cell? ⟨b1, 0, none⟩ = some (.pointer (some ⟨g, 0, none⟩)) ∧ w'.cell? ⟨b2, 0, none⟩ = some (.func (.func 87) #[] #[]) ∧ w'.cell? ⟨g, 0, none⟩ = some (.string s)) (by kernel_rfl) S0 (fun hHeld => ?_)
        refine wpAnyH_take (i := 0) (oi := { dst := some 18, op := Op.move (Operand.tmp 5), type := 135, pos := "group.go:112", after := #[], guard := none }) (v := ?v0) rfl (by kernel_rfl) (by kernel_rfl) (by kernel_rfl) (fun _ _ _ h => h) (Or.inl ⟨by rfl, ?hy0⟩) (by assumption) ?rest0
        case hy0 => (intro w hSw; (try dsimp only at hSw); go_simp; first | done | with_reducible rfl)
        (try simp only [Act.put, List.setIfInBounds_toArray, List.set_cons_zero, List.set_cons_succ])
        refine wpAnyH_take (i := 1) (oi := { dst := some 19, op := Op.load 128 (Operand.tmp 1), type := 128, pos := "group.go:112", after := #[], guard := none }) (v := ?v1) rfl (by kernel_rfl) (by kernel_rfl) (by kernel_rfl) (fun _ _ _ h => h) (Or.inl ⟨by rfl, ?hy1⟩) (by assumption) ?rest1
        case hy1 => (intro w hSw; (try dsimp only at hSw); go_simp; first | done | with_reducible rfl)
        (try simp only [Act.put, List.setIfInBounds_toArray, List.set_cons_zero, List.set_cons_succ])
        refine wpAnyH_take (i := 2) (oi := { dst := some 20, op := Op.load 128 (Operand.tmp 1), type := 128, pos := "group.go:112", after := #[], guard := none }) (v := ?v2) rfl (by kernel_rfl) (by kernel_rfl) (by kernel_rfl) (fun _ _ _ h => h) (Or.inl ⟨by rfl, ?hy2⟩) (by assumption) ?rest2
        case hy2 => (intro w hSw; (try dsimp only at hSw); go_simp; first | done | with_reducible rfl)
        (try simp only [Act.put, List.setIfInBounds_toArray, List.set_cons_zero, List.set_cons_succ])
        refine wpAnyH_take (i := 3) (oi := { dst := some 21, op := Op.load 131 (Operand.tmp 2), type := 131, pos := "group.go:112", after := #[], guard := none }) (v := ?v3) rfl (by kernel_rfl) (by kernel_rfl) (by kernel_rfl) (fun _ _ _ h => h) (Or.inl ⟨by rfl, ?hy3⟩) (by assumption) ?rest3
        case hy3 => (intro w hSw; (try dsimp only at hSw); go_simp; first | done | with_reducible rfl)
        (try simp only [Act.put, List.setIfInBounds_toArray, List.set_cons_zero, List.set_cons_succ])
        refine wpAnyH_take (i := 4) (oi := { dst := some 22, op := Op.load 128 (Operand.tmp 1), type := 128, pos := "group.go:112", after := #[], guard := none }) (v := ?v4) rfl (by kernel_rfl) (by kernel_rfl) (by kernel_rfl) (fun _ _ _ h => h) (Or.inl ⟨by rfl, ?hy4⟩) (by assumption) ?rest4
        case hy4 => (intro w hSw; (try dsimp only at hSw); go_simp; first | done | with_reducible rfl)
        (try simp only [Act.put, List.setIfInBounds_toArray, List.set_cons_zero, List.set_cons_succ])
        refine wpAnyH_take (i := 5) (oi := { dst := some 23, op := Op.nilCheck (Operand.tmp 22), type := 0, pos := "group.go:112", after := #[{ on := 4, ground := Ground.data }], guard := none }) (v := ?v5) rfl (by kernel_rfl) (by kernel_rfl) (by kernel_rfl) (fun _ _ _ h => h) (Or.inl ⟨by rfl, ?hy5⟩) (by assumption) ?rest5
        case hy5 => (intro w hSw; (try dsimp only at hSw); go_simp; first | done | with_reducible rfl)
        (try simp only [Act.put, List.setIfInBounds_toArray, List.set_cons_zero, List.set_cons_succ])
        refine wpAnyH_take (i := 6) (oi := { dst := some 24, op := Op.fieldAddr 91 (Operand.tmp 23) 0, type := 0, pos := "group.go:112", after := #[{ on := 5, ground := Ground.data }], guard := none }) (v := ?v6) rfl (by kernel_rfl) (by kernel_rfl) (by kernel_rfl) (fun _ _ _ h => h) (Or.inl ⟨by rfl, ?hy6⟩) (by assumption) ?rest6
        case hy6 => (intro w hSw; (try dsimp only at hSw); go_simp; first | done | with_reducible rfl)
        (try simp only [Act.put, List.setIfInBounds_toArray, List.set_cons_zero, List.set_cons_succ])
        refine wpAnyH_take (i := 7) (oi := { dst := some 25, op := Op.load 9 (Operand.tmp 24), type := 9, pos := "group.go:112", after := #[{ on := 6, ground := Ground.data }], guard := none }) (v := ?v7) rfl (by kernel_rfl) (by kernel_rfl) (by kernel_rfl) (fun _ _ _ h => h) (Or.inl ⟨by rfl, ?hy7⟩) (by assumption) ?rest7
        case hy7 => (intro w hSw; (try dsimp only at hSw); go_simp; first | done | with_reducible rfl)
        (try simp only [Act.put, List.setIfInBounds_toArray, List.set_cons_zero, List.set_cons_succ])
        refine wpAnyH_take (i := 8) (oi := { dst := some 26, op := Op.load 128 (Operand.tmp 1), type := 128, pos := "group.go:112", after := #[], guard := none }) (v := ?v8) rfl (by kernel_rfl) (by kernel_rfl) (by kernel_rfl) (fun _ _ _ h => h) (Or.inl ⟨by rfl, ?hy8⟩) (by assumption) ?rest8
        case hy8 => (intro w hSw; (try dsimp only at hSw); go_simp; first | done | with_reducible rfl)
        (try simp only [Act.put, List.setIfInBounds_toArray, List.set_cons_zero, List.set_cons_succ])
        refine wpAnyH_take (i := 9) (oi := { dst := some 27, op := Op.nilCheck (Operand.tmp 26), type := 0, pos := "group.go:112", after := #[{ on := 8, ground := Ground.data }], guard := none }) (v := ?v9) rfl (by kernel_rfl) (by kernel_rfl) (by kernel_rfl) (fun _ _ _ h => h) (Or.inl ⟨by rfl, ?hy9⟩) (by assumption) ?rest9
        case hy9 => (intro w hSw; (try dsimp only at hSw); go_simp; first | done | with_reducible rfl)
        (try simp only [Act.put, List.setIfInBounds_toArray, List.set_cons_zero, List.set_cons_succ])
        refine wpAnyH_take (i := 10) (oi := { dst := some 28, op := Op.fieldAddr 91 (Operand.tmp 27) 1, type := 0, pos := "group.go:112", after := #[{ on := 9, ground := Ground.data }], guard := none }) (v := ?v10) rfl (by kernel_rfl) (by kernel_rfl) (by kernel_rfl) (fun _ _ _ h => h) (Or.inl ⟨by rfl, ?hy10⟩) (by assumption) ?rest10
        case hy10 => (intro w hSw; (try dsimp only at hSw); go_simp; first | done | with_reducible rfl)
        (try simp only [Act.put, List.setIfInBounds_toArray, List.set_cons_zero, List.set_cons_succ])
        refine wpAnyH_ready (rs := [11]) (by kernel_rfl) (by simp) ?_
        refine AllReadyH.cons (o := { dst := some 29, op := Op.load 3 (Operand.tmp 28), type := 3, pos := "group.go:112", after := #[{ on := 10, ground := Ground.data }], guard := none }) rfl (fun K hK => ?_) AllReadyH.nil
        go_simp
        refine hK.out _ _ ?_ (fun hHeld => ?_)
        · exact hHeld
        clear hK K
        (try simp only [Act.put, List.setIfInBounds_toArray, List.set_cons_zero, List.set_cons_succ])
        refine wpAnyH_ready (rs := [12]) (by kernel_rfl) (by simp) ?_
        refine AllReadyH.cons (o := { dst := some 30, op := Op.call { callee := Callee.value (Operand.tmp 21), args := #[Operand.tmp 25, Operand.tmp 29], argTypes := #[9, 3] }, type := 137, pos := "group.go:112", after := #[{ on := 3, ground := Ground.data }, { on := 7, ground := Ground.data }, { on := 11, ground := Ground.data }], guard := none }) rfl (fun K hK => ?_) AllReadyH.nil
        (go_simp; go_at_call 87; refine (HG.out _).mono ?_; rintro e w5 ⟨rfl, hb5⟩; have B5 : Below wr.heap.size wr w5 := ⟨hb5.os, hb5.tape, hb5.output, hb5.size, hb5.block⟩; obtain ⟨⟨u, ku⟩, kf, _⟩ := HCE.out w5 B5; have d1 := (HRR.out w5 B5).c1; have d2 := (HRR.out w5 B5).c2; have f1 := (HRR.out w5 B5).free 1; have f2 := (HRR.out w5 B5).free 2; dsimp only)
        refine hK.out _ _ ?_ (fun hHeld => ?_)
        · exact keepC hb5 hHeld
        clear hK K
        (try simp only [Act.put, List.setIfInBounds_toArray, List.set_cons_zero, List.set_cons_succ])
        refine wpAnyH_take (i := 13) (oi := { dst := some 17, op := Op.move (Operand.tmp 30), type := 137, pos := "group.go:112", after := #[{ on := 12, ground := Ground.data }], guard := none }) (v := ?v13) rfl (by kernel_rfl) (by kernel_rfl) (by kernel_rfl) (fun _ _ _ h => h) (Or.inl ⟨by rfl, ?hy13⟩) (by assumption) ?rest13
        case hy13 => (intro w hSw; (try dsimp only at hSw); go_simp; first | done | with_reducible rfl)
        (try simp only [Act.put, List.setIfInBounds_toArray, List.set_cons_zero, List.set_cons_succ])
        refine wpAnyH_take (i := 14) (oi := { dst := some 31, op := Op.extract (Operand.tmp 17) 0, type := 2, pos := "group.go:112", after := #[{ on := 13, ground := Ground.data }], guard := none }) (v := ?v14) rfl (by kernel_rfl) (by kernel_rfl) (by kernel_rfl) (fun _ _ _ h => h) (Or.inl ⟨by rfl, ?hy14⟩) (by assumption) ?rest14
        case hy14 => (intro w hSw; (try dsimp only at hSw); go_simp; first | done | with_reducible rfl)
        (try simp only [Act.put, List.setIfInBounds_toArray, List.set_cons_zero, List.set_cons_succ])
        refine wpAnyH_take (i := 15) (oi := { dst := some 32, op := Op.extract (Operand.tmp 17) 1, type := 3, pos := "group.go:112", after := #[{ on := 13, ground := Ground.data }, { on := 18, ground := Ground.gcOnly Departure.lateStores }], guard := none }) (v := ?v15) rfl (by kernel_rfl) (by kernel_rfl) (by kernel_rfl) (fun _ _ _ h => h) (Or.inl ⟨by rfl, ?hy15⟩) (by assumption) ?rest15
        case hy15 => (intro w hSw; (try dsimp only at hSw); go_simp; first | done | with_reducible rfl)
        (try simp only [Act.put, List.setIfInBounds_toArray, List.set_cons_zero, List.set_cons_succ])
        refine wpAnyH_take (i := 16) (oi := { dst := some 33, op := Op.extract (Operand.tmp 17) 2, type := 30, pos := "group.go:112", after := #[{ on := 13, ground := Ground.data }, { on := 21, ground := Ground.gcOnly Departure.lateStores }], guard := none }) (v := ?v16) rfl (by kernel_rfl) (by kernel_rfl) (by kernel_rfl) (fun _ _ _ h => h) (Or.inl ⟨by rfl, ?hy16⟩) (by assumption) ?rest16
        case hy16 => (intro w hSw; (try dsimp only at hSw); go_simp; first | done | with_reducible rfl)
        (try simp only [Act.put, List.setIfInBounds_toArray, List.set_cons_zero, List.set_cons_succ])
        refine wpAnyH_take (i := 17) (oi := { dst := some 34, op := Op.nilCheck (Operand.tmp 18), type := 0, pos := "group.go:112", after := #[{ on := 0, ground := Ground.data }, { on := 0, ground := Ground.phase }, { on := 1, ground := Ground.textOnly Departure.inlinedCapture }, { on := 2, ground := Ground.textOnly Departure.inlinedCapture }, { on := 3, ground := Ground.phase }, { on := 4, ground := Ground.phase }, { on := 5, ground := Ground.phase }, { on := 6, ground := Ground.phase }, { on := 7, ground := Ground.phase }, { on := 8, ground := Ground.phase }, { on := 9, ground := Ground.phase }, { on := 10, ground := Ground.phase }, { on := 11, ground := Ground.phase }, { on := 12, ground := Ground.phase }, { on := 13, ground := Ground.phase }, { on := 14, ground := Ground.phase }, { on := 15, ground := Ground.textOnly Departure.lateStores }, { on := 16, ground := Ground.textOnly Departure.lateStores }], guard := none }) (v := ?v17) rfl (by kernel_rfl) (by kernel_rfl) (by kernel_rfl) (fun _ _ _ h => h) (Or.inl ⟨by rfl, ?hy17⟩) (by assumption) ?rest17
        case hy17 => (intro w hSw; (try dsimp only at hSw); go_simp; first | done | with_reducible rfl)
        (try simp only [Act.put, List.setIfInBounds_toArray, List.set_cons_zero, List.set_cons_succ])
        refine wpAnyH_ready (rs := [18]) (by kernel_rfl) (by simp) ?_
        refine AllReadyH.cons (o := { dst := none, op := Op.store 2 (Operand.tmp 34) (Operand.tmp 31), type := 0, pos := "group.go:112", after := #[{ on := 17, ground := Ground.data }, { on := 14, ground := Ground.data }, { on := 12, ground := Ground.chain }, { on := 0, ground := Ground.phase }, { on := 1, ground := Ground.textOnly Departure.inlinedCapture }, { on := 2, ground := Ground.textOnly Departure.inlinedCapture }, { on := 3, ground := Ground.phase }, { on := 4, ground := Ground.phase }, { on := 5, ground := Ground.phase }, { on := 6, ground := Ground.phase }, { on := 7, ground := Ground.phase }, { on := 8, ground := Ground.phase }, { on := 9, ground := Ground.phase }, { on := 10, ground := Ground.phase }, { on := 11, ground := Ground.phase }, { on := 12, ground := Ground.phase }, { on := 13, ground := Ground.phase }, { on := 14, ground := Ground.phase }, { on := 15, ground := Ground.textOnly Departure.lateStores }, { on := 16, ground := Ground.textOnly Departure.lateStores }], guard := none }) rfl (fun K hK => ?_) AllReadyH.nil
        go_simp
        refine hK.out _ _ ?_ (fun hHeld => ?_)
        · exact keepP _ HA1.out HA2.out HA3.out hHeld
        clear hK K
        (try simp only [Act.put, List.setIfInBounds_toArray, List.set_cons_zero, List.set_cons_succ])
        refine wpAnyH_take (i := 19) (oi := { dst := some 35, op := Op.nilCheck (Operand.tmp 19), type := 0, pos := "group.go:112", after := #[{ on := 1, ground := Ground.data }, { on := 0, ground := Ground.phase }, { on := 1, ground := Ground.phase }, { on := 2, ground := Ground.textOnly Departure.inlinedCapture }, { on := 3, ground := Ground.phase }, { on := 4, ground := Ground.phase }, { on := 5, ground := Ground.phase }, { on := 6, ground := Ground.phase }, { on := 7, ground := Ground.phase }, { on := 8, ground := Ground.phase }, { on := 9, ground := Ground.phase }, { on := 10, ground := Ground.phase }, { on := 11, ground := Ground.phase }, { on := 12, ground := Ground.phase }, { on := 13, ground := Ground.phase }, { on := 14, ground := Ground.phase }, { on := 15, ground := Ground.phase }, { on := 16, ground := Ground.textOnly Departure.lateStores }, { on := 17, ground := Ground.phase }, { on := 18, ground := Ground.phase }], guard := none }) (v := ?v19) rfl (by kernel_rfl) (by kernel_rfl) (by kernel_rfl) (fun _ _ _ h => h) (Or.inl ⟨by rfl, ?hy19⟩) (by assumption) ?rest19
        case hy19 => (intro w hSw; (try dsimp only at hSw); go_simp; first | done | with_reducible rfl)
        (try simp only [Act.put, List.setIfInBounds_toArray, List.set_cons_zero, List.set_cons_succ])
        refine wpAnyH_take (i := 20) (oi := { dst := some 36, op := Op.fieldAddr 91 (Operand.tmp 35) 1, type := 0, pos := "group.go:112", after := #[{ on := 19, ground := Ground.data }, { on := 0, ground := Ground.phase }, { on := 1, ground := Ground.phase }, { on := 2, ground := Ground.textOnly Departure.inlinedCapture }, { on := 3, ground := Ground.phase }, { on := 4, ground := Ground.phase }, { on := 5, ground := Ground.phase }, { on := 6, ground := Ground.phase }, { on := 7, ground := Ground.phase }, { on := 8, ground := Ground.phase }, { on := 9, ground := Ground.phase }, { on := 10, ground := Ground.phase }, { on := 11, ground := Ground.phase }, { on := 12, ground := Ground.phase }, { on := 13, ground := Ground.phase }, { on := 14, ground := Ground.phase }, { on := 15, ground := Ground.phase }, { on := 16, ground := Ground.textOnly Departure.lateStores }, { on := 17, ground := Ground.phase }, { on := 18, ground := Ground.phase }], guard := none }) (v := ?v20) rfl (by kernel_rfl) (by kernel_rfl) (by kernel_rfl) (fun _ _ _ h => h) (Or.inl ⟨by rfl, ?hy20⟩) (by assumption) ?rest20
        case hy20 => (intro w hSw; (try dsimp only at hSw); go_simp; first | done | with_reducible rfl)
        (try simp only [Act.put, List.setIfInBounds_toArray, List.set_cons_zero, List.set_cons_succ])
        refine wpAnyH_ready (rs := [21]) (by kernel_rfl) (by simp) ?_
        refine AllReadyH.cons (o := { dst := none, op := Op.store 3 (Operand.tmp 36) (Operand.tmp 32), type := 0, pos := "group.go:112", after := #[{ on := 20, ground := Ground.data }, { on := 15, ground := Ground.data }, { on := 18, ground := Ground.chain }, { on := 0, ground := Ground.phase }, { on := 1, ground := Ground.phase }, { on := 2, ground := Ground.textOnly Departure.inlinedCapture }, { on := 3, ground := Ground.phase }, { on := 4, ground := Ground.phase }, { on := 5, ground := Ground.phase }, { on := 6, ground := Ground.phase }, { on := 7, ground := Ground.phase }, { on := 8, ground := Ground.phase }, { on := 9, ground := Ground.phase }, { on := 10, ground := Ground.phase }, { on := 11, ground := Ground.phase }, { on := 12, ground := Ground.phase }, { on := 13, ground := Ground.phase }, { on := 14, ground := Ground.phase }, { on := 15, ground := Ground.phase }, { on := 16, ground := Ground.textOnly Departure.lateStores }, { on := 17, ground := Ground.phase }, { on := 18, ground := Ground.phase }], guard := none }) rfl (fun K hK => ?_) AllReadyH.nil
        go_simp
        refine hK.out _ _ ?_ (fun hHeld => ?_)
        · exact keepP _ HA4.out HA5.out HA6.out hHeld
        clear hK K
        (try simp only [Act.put, List.setIfInBounds_toArray, List.set_cons_zero, List.set_cons_succ])
        refine wpAnyH_take (i := 22) (oi := { dst := some 37, op := Op.nilCheck (Operand.tmp 20), type := 0, pos := "group.go:112", after := #[{ on := 2, ground := Ground.data }, { on := 0, ground := Ground.phase }, { on := 1, ground := Ground.phase }, { on := 2, ground := Ground.phase }, { on := 3, ground := Ground.phase }, { on := 4, ground := Ground.phase }, { on := 5, ground := Ground.phase }, { on := 6, ground := Ground.phase }, { on := 7, ground := Ground.phase }, { on := 8, ground := Ground.phase }, { on := 9, ground := Ground.phase }, { on := 10, ground := Ground.phase }, { on := 11, ground := Ground.phase }, { on := 12, ground := Ground.phase }, { on := 13, ground := Ground.phase }, { on := 14, ground := Ground.phase }, { on := 15, ground := Ground.phase }, { on := 16, ground := Ground.phase }, { on := 17, ground := Ground.phase }, { on := 18, ground := Ground.phase }, { on := 19, ground := Ground.phase }, { on := 20, ground := Ground.phase }, { on := 21, ground := Ground.phase }], guard := none }) (v := ?v22) rfl (by kernel_rfl) (by kernel_rfl) (by kernel_rfl) (fun _ _ _ h => h) (Or.inl ⟨by rfl, ?hy22⟩) (by assumption) ?rest22
        case hy22 => (intro w hSw; (try dsimp only at hSw); go_simp; first | done | with_reducible rfl)
        (try simp only [Act.put, List.setIfInBounds_toArray, List.set_cons_zero, List.set_cons_succ])
        refine wpAnyH_take (i := 23) (oi := { dst := some 38, op := Op.fieldAddr 91 (Operand.tmp 37) 2, type := 0, pos := "group.go:112", after := #[{ on := 22, ground := Ground.data }, { on := 0, ground := Ground.phase }, { on := 1, ground := Ground.phase }, { on := 2, ground := Ground.phase }, { on := 3, ground := Ground.phase }, { on := 4, ground := Ground.phase }, { on := 5, ground := Ground.phase }, { on := 6, ground := Ground.phase }, { on := 7, ground := Ground.phase }, { on := 8, ground := Ground.phase }, { on := 9, ground := Ground.phase }, { on := 10, ground := Ground.phase }, { on := 11, ground := Ground.phase }, { on := 12, ground := Ground.phase }, { on := 13, ground := Ground.phase }, { on := 14, ground := Ground.phase }, { on := 15, ground := Ground.phase }, { on := 16, ground := Ground.phase }, { on := 17, ground := Ground.phase }, { on := 18, ground := Ground.phase }, { on := 19, ground := Ground.phase }, { on := 20, ground := Ground.phase }, { on := 21, ground := Ground.phase }], guard := none }) (v := ?v23) rfl (by kernel_rfl) (by kernel_rfl) (by kernel_rfl) (fun _ _ _ h => h) (Or.inl ⟨by rfl, ?hy23⟩) (by assumption) ?rest23
        case hy23 => (intro w hSw; (try dsimp only at hSw); go_simp; first | done | with_reducible rfl)
        (try simp only [Act.put, List.setIfInBounds_toArray, List.set_cons_zero, List.set_cons_succ])
        refine wpAnyH_ready (rs := [24]) (by kernel_rfl) (by simp) ?_
        refine AllReadyH.cons (o := { dst := none, op := Op.store 30 (Operand.tmp 38) (Operand.tmp 33), type := 0, pos := "group.go:112", after := #[{ on := 23, ground := Ground.data }, { on := 16, ground := Ground.data }, { on := 21, ground := Ground.chain }, { on := 0, ground := Ground.phase }, { on := 1, ground := Ground.phase }, { on := 2, ground := Ground.phase }, { on := 3, ground := Ground.phase }, { on := 4, ground := Ground.phase }, { on := 5, ground := Ground.phase }, { on := 6, ground := Ground.phase }, { on := 7, ground := Ground.phase }, { on := 8, ground := Ground.phase }, { on := 9, ground := Ground.phase }, { on := 10, ground := Ground.phase }, { on := 11, ground := Ground.phase }, { on := 12, ground := Ground.phase }, { on := 13, ground := Ground.phase }, { on := 14, ground := Ground.phase }, { on := 15, ground := Ground.phase }, { on := 16, ground := Ground.phase }, { on := 17, ground := Ground.phase }, { on := 18, ground := Ground.phase }, { on := 19, ground := Ground.phase }, { on := 20, ground := Ground.phase }, { on := 21, ground := Ground.phase }], guard := none }) rfl (fun K hK => ?_) AllReadyH.nil
        go_simp
        refine hK.out _ _ ?_ (fun hHeld => ?_)
        · exact keepP _ HA7.out HA8.out HA9.out hHeld
        clear hK K
        (try simp only [Act.put, List.setIfInBounds_toArray, List.set_cons_zero, List.set_cons_succ])
        refine wpAnyH_done (by kernel_rfl) ?_ _
        have HP6 := Lib.hid (HPUT.out w5 B5)
        clear d1 d2 f1 f2 ku kf hb5 B5 S0
        go_wp2_with fail
        go_roundw
        case rel => exact ⟨k + 1, rfl, by omega, HP6.out⟩
        case measure => simp [intOf]; omega
      · have e0 := ne_b (show ((p.2 : Nat) : Int) ≠ 0 by omega)
        have HST := Lib.hid (HR.out.stay k f wr HF.out HI.out (by rw [← HP.out]; exact h0))
        clear h0
        go_wp2_with fail
        go_roundw
        case rel => exact ⟨k + 1, rfl, by omega, HST.out⟩
        case measure => simp [intOf]; omega
    · have hk2 : k = fs.length := by omega
      have HE := Lib.hid (hk2 ▸ HI.out)
      clear hk2
      go_wp2_with fail
      go_end0
      exact ⟨rfl, HE.out⟩
/-- Where the places stand behind some fields. -/
def chS (s : ByteArray) (st : Nat × Nat) : Nat → Nat × Nat
  | 0 => st
  | k + 1 => (sgnS s (chS s st k)).2
/-- What a round of the closure keeps. -/
structure RdS (g b1 b2 a : Nat) (s : ByteArray) (fs : List (Nat × Nat)) (st : Nat × Nat) (I : Nat → World → Prop) : Prop where
  row : ∀ k w, I k w → Lies a (fs.map ptrV).toArray 135 w
  capt : ∀ k w, I k w → RCapt g b1 b2 88 131 w
  rd : ∀ k w, I k w → RdAt 91 g s ((chS s st k).1 : Nat) ((chS s st k).2 : Nat) w
  to : ∀ k w, I k w → (chS s st k).1 ≤ s.size
  cell : ∀ k f w, fs[k]? = some f → I k w → (∃ u, w.cell? ⟨f.1, f.2, none⟩ = some u) ∧ w.frozen? ⟨f.1, f.2, none⟩ = false ∧ f.1 ≠ g ∧ f.1 ≠ b1 ∧ f.1 ≠ b2
  next : ∀ k w w', I k w → Below w.heap.size w w' → I k w'
  put : ∀ k f w, fs[k]? = some f → I k w → (chS s st k).2 = 0 → I (k + 1) (((w.setCell ⟨f.1, f.2, none⟩ (sgnV (sgnS s (chS s st k)))).setCell ⟨g, 1, none⟩ (.int .i64 (sgnS s (chS s st k)).2.1)).setCell ⟨g, 2, none⟩ (.int .i64 (sgnS s (chS s st k)).2.2))
  stay : ∀ k f w, fs[k]? = some f → I k w → (chS s st k).2 ≠ 0 → I (k + 1) w
set_option maxRecDepth 100000 in
set_option maxHeartbeats 4000000 in
theorem gpReadS (g b1 b2 a : Nat) (s : ByteArray) (hs : s.size ≤ 9223372036854775807) (fs : List (Nat × Nat)) (hn : fs.length ≤ 1000) (c : Nat) (st : Nat × Nat) (I : Nat → World → Prop) (hR : RdS g b1 b2 a s fs st I) (w : World) (h0 : I 0 w) :
    Calls Try.prog 114 #[.slice (some ⟨a, 0, none⟩) fs.length c, .pointer (some ⟨b1, 0, none⟩), .pointer (some ⟨b2, 0, none⟩)] w fun e w' => e = .returned (.tuple #[]) ∧ I fs.length w' := by
  have HR := Lib.hid hR; have H0 := Lib.hid h0
  clear hR h0
  go_enter Try.func114, Try.ntmps114
  go_wp2_with fail
  go_loopw [8] (fun i wr => ∃ k : Nat, i = .int .i64 k ∧ k ≤ fs.length ∧ I k wr) (fun i _ => fs.length - (intOf i).toNat)
  case atStart => exact ⟨0, rfl, Nat.zero_le _, H0.out⟩
  case round =>
    obtain ⟨k, rfl, hk, hI⟩ := hrel
    have HI := Lib.hid hI
    clear hI
    by_cases hlt : k < fs.length
    · obtain ⟨f, hf⟩ : ∃ f, fs[k]? = some f := ⟨_, List.getElem?_eq_getElem hlt⟩
      have HF := Lib.hid hf
      have q0 : wr.cell? ⟨a, k, none⟩ = some (.pointer (some ⟨f.1, f.2, none⟩)) := by
        have h := Lies.cell (HR.out.row k wr HI.out) (j := k) (v := ptrV f) (by rw [List.getElem?_toArray, List.getElem?_map, hf]; rfl)
        exact h
      have x1 := (HR.out.capt k wr HI.out).inp.cell (j := 0) rfl
      have x2 := (HR.out.capt k wr HI.out).get.cell (j := 0) rfl
      have HRD := Lib.hid (HR.out.rd k wr HI.out)
      have y0 := HRD.out.c0; have y1 := HRD.out.c1; have y2 := HRD.out.c2
      have HTO := Lib.hid (HR.out.to k wr HI.out)
      obtain ⟨p, hp⟩ : ∃ p, p = chS s st k := ⟨_, rfl⟩
      rw [← hp] at HRD y1 y2 HTO
      have HP := Lib.hid hp
      clear hf hp
      by_cases h0 : p.2 = 0
      · obtain ⟨at_, cz⟩ := p
        simp only at h0
        subst h0
        have HG := Lib.hid (fun w => vlqGetSignedB s hs at_ HTO.out w)
        obtain ⟨R, hR2⟩ : ∃ R, R = sgnS s (at_, 0) := ⟨_, rfl⟩
        have HPUT := Lib.hid (fun w' (hb : Below wr.heap.size wr w') => HR.out.put k f w' HF.out (HR.out.next k wr w' HI.out hb) (by rw [← HP.out]))
        rw [← HP.out, ← hR2] at HPUT
        rw [← hR2] at HG
        have y2 : wr.cell? ⟨g, 2, none⟩ = some (.int .i64 0) := y2
        have HCE := Lib.hid (fun w' (hb : Below wr.heap.size wr w') => HR.out.cell k f w' HF.out (HR.out.next k wr w' HI.out hb))
        have HRR := Lib.hid (fun w' (hb : Below wr.heap.size wr w') => HR.out.rd k w' (HR.out.next k wr w' HI.out hb))
        obtain ⟨_, _, e1, e2, e3⟩ := HR.out.cell k f wr HF.out HI.out
        have HQ := HR.out.capt k wr HI.out
        have a1 : (⟨b1, 0, none⟩ : Addr) ≠ ⟨f.1, f.2, none⟩ := adr_block (Ne.symm e2)
        have a2 : (⟨b2, 0, none⟩ : Addr) ≠ ⟨f.1, f.2, none⟩ := adr_block (Ne.symm e3)
        have a3 : (⟨g, 0, none⟩ : Addr) ≠ ⟨f.1, f.2, none⟩ := adr_block (Ne.symm e1)
        have a4 : (⟨b1, 0, none⟩ : Addr) ≠ ⟨g, 1, none⟩ := adr_block HQ.n1
        have a5 : (⟨b2, 0, none⟩ : Addr) ≠ ⟨g, 1, none⟩ := adr_block HQ.n2
        have a6 : (⟨g, 0, none⟩ : Addr) ≠ ⟨g, 1, none⟩ := adr_off (by omega)
        have a7 : (⟨b1, 0, none⟩ : Addr) ≠ ⟨g, 2, none⟩ := adr_block HQ.n1
        have a8 : (⟨b2, 0, none⟩ : Addr) ≠ ⟨g, 2, none⟩ := adr_block HQ.n2
        have a9 : (⟨g, 0, none⟩ : Addr) ≠ ⟨g, 2, none⟩ := adr_off (by omega)
        have e4 : g ≠ f.1 := Ne.symm e1
        have HA1 := Lib.hid a1; have HA2 := Lib.hid a2; have HA3 := Lib.hid a3; have HA4 := Lib.hid a4; have HA5 := Lib.hid a5; have HA6 := Lib.hid a6; have HA7 := Lib.hid a7; have HA8 := Lib.hid a8; have HA9 := Lib.hid a9
        clear hR2 HQ e2 e3 a1 a2 a3 a4 a5 a6 a7 a8 a9
        go_wp2_with fail
        have S0 : wr.drew.cell? ⟨b1, 0, none⟩ = some (.pointer (some ⟨g, 0, none⟩)) ∧ wr.drew.cell? ⟨b2, 0, none⟩ = some (.func (.func 88) #[] #[]) ∧ wr.drew.cell? ⟨g, 0, none⟩ = some (.string s) := ⟨x1, x2, y0⟩
        refine wp_region_held_drew (S := fun w' => w'.cell? ⟨b1, 0, none⟩ = some (.pointer (some ⟨g, 0, none⟩)) ∧ w'.cell? ⟨b2, 0, none⟩ = some (.func (.func 88) #[] #[]) ∧ w'.cell? ⟨g, 0, none⟩ = some (.string s)) (by kernel_rfl) S0 (fun hHeld => ?_)
        refine wpAnyH_take (i := 0) (oi := { dst := some 18, op := Op.move (Operand.tmp 5), type := 135, pos := "group.go:112", after := #[], guard := none }) (v := ?v0) rfl (by kernel_rfl) (by kernel_rfl) (by kernel_rfl) (fun _ _ _ h => h) (Or.inl ⟨by rfl, ?hy0⟩) (by assumption) ?rest0
        case hy0 => (intro w hSw; (try dsimp only at hSw); go_simp; first | done | with_reducible rfl)
        (try simp only [Act.put, List.setIfInBounds_toArray, List.set_cons_zero, List.set_cons_succ])
        refine wpAnyH_take (i := 1) (oi := { dst := some 19, op := Op.load 128 (Operand.tmp 1), type := 128, pos := "group.go:112", after := #[], guard := none }) (v := ?v1) rfl (by kernel_rfl) (by kernel_rfl) (by kernel_rfl) (fun _ _ _ h => h) (Or.inl ⟨by rfl, ?hy1⟩) (by assumption) ?rest1
        case hy1 => (intro w hSw; (try dsimp only at hSw); go_simp; first | done | with_reducible rfl)
        (try simp only [Act.put, List.setIfInBounds_toArray, List.set_cons_zero, List.set_cons_succ])
        refine wpAnyH_take (i := 2) (oi := { dst := some 20, op := Op.load 128 (Operand.tmp 1), type := 128, pos := "group.go:112", after := #[], guard := none }) (v := ?v2) rfl (by kernel_rfl) (by kernel_rfl) (by kernel_rfl) (fun _ _ _ h => h) (Or.inl ⟨by rfl, ?hy2⟩) (by assumption) ?rest2
        case hy2 => (intro w hSw; (try dsimp only at hSw); go_simp; first | done | with_reducible rfl)
        (try simp only [Act.put, List.setIfInBounds_toArray, List.set_cons_zero, List.set_cons_succ])
        refine wpAnyH_take (i := 3) (oi := { dst := some 21, op := Op.load 131 (Operand.tmp 2), type := 131, pos := "group.go:112", after := #[], guard := none }) (v := ?v3) rfl (by kernel_rfl) (by kernel_rfl) (by kernel_rfl) (fun _ _ _ h => h) (Or.inl ⟨by rfl, ?hy3⟩) (by assumption) ?rest3
        case hy3 => (intro w hSw; (try dsimp only at hSw); go_simp; first | done | with_reducible rfl)
        (try simp only [Act.put, List.setIfInBounds_toArray, List.set_cons_zero, List.set_cons_succ])
        refine wpAnyH_take (i := 4) (oi := { dst := some 22, op := Op.load 128 (Operand.tmp 1), type := 128, pos := "group.go:112", after := #[], guard := none }) (v := ?v4) rfl (by kernel_rfl) (by kernel_rfl) (by kernel_rfl) (fun _ _ _ h => h) (Or.inl ⟨by rfl, ?hy4⟩) (by assumption) ?rest4
        case hy4 => (intro w hSw; (try dsimp only at hSw); go_simp; first | done | with_reducible rfl)
        (try simp only [Act.put, List.setIfInBounds_toArray, List.set_cons_zero, List.set_cons_succ])
        refine wpAnyH_take (i := 5) (oi := { dst := some 23, op := Op.nilCheck (Operand.tmp 22), type := 0, pos := "group.go:112", after := #[{ on := 4, ground := Ground.data }], guard := none }) (v := ?v5) rfl (by kernel_rfl) (by kernel_rfl) (by kernel_rfl) (fun _ _ _ h => h) (Or.inl ⟨by rfl, ?hy5⟩) (by assumption) ?rest5
        case hy5 => (intro w hSw; (try dsimp only at hSw); go_simp; first | done | with_reducible rfl)
        (try simp only [Act.put, List.setIfInBounds_toArray, List.set_cons_zero, List.set_cons_succ])
        refine wpAnyH_take (i := 6) (oi := { dst := some 24, op := Op.fieldAddr 91 (Operand.tmp 23) 0, type := 0, pos := "group.go:112", after := #[{ on := 5, ground := Ground.data }], guard := none }) (v := ?v6) rfl (by kernel_rfl) (by kernel_rfl) (by kernel_rfl) (fun _ _ _ h => h) (Or.inl ⟨by rfl, ?hy6⟩) (by assumption) ?rest6
        case hy6 => (intro w hSw; (try dsimp only at hSw); go_simp; first | done | with_reducible rfl)
        (try simp only [Act.put, List.setIfInBounds_toArray, List.set_cons_zero, List.set_cons_succ])
        refine wpAnyH_take (i := 7) (oi := { dst := some 25, op := Op.load 9 (Operand.tmp 24), type := 9, pos := "group.go:112", after := #[{ on := 6, ground := Ground.data }], guard := none }) (v := ?v7) rfl (by kernel_rfl) (by kernel_rfl) (by kernel_rfl) (fun _ _ _ h => h) (Or.inl ⟨by rfl, ?hy7⟩) (by assumption) ?rest7
        case hy7 => (intro w hSw; (try dsimp only at hSw); go_simp; first | done | with_reducible rfl)
        (try simp only [Act.put, List.setIfInBounds_toArray, List.set_cons_zero, List.set_cons_succ])
        refine wpAnyH_take (i := 8) (oi := { dst := some 26, op := Op.load 128 (Operand.tmp 1), type := 128, pos := "group.go:112", after := #[], guard := none }) (v := ?v8) rfl (by kernel_rfl) (by kernel_rfl) (by kernel_rfl) (fun _ _ _ h => h) (Or.inl ⟨by rfl, ?hy8⟩) (by assumption) ?rest8
        case hy8 => (intro w hSw; (try dsimp only at hSw); go_simp; first | done | with_reducible rfl)
        (try simp only [Act.put, List.setIfInBounds_toArray, List.set_cons_zero, List.set_cons_succ])
        refine wpAnyH_take (i := 9) (oi := { dst := some 27, op := Op.nilCheck (Operand.tmp 26), type := 0, pos := "group.go:112", after := #[{ on := 8, ground := Ground.data }], guard := none }) (v := ?v9) rfl (by kernel_rfl) (by kernel_rfl) (by kernel_rfl) (fun _ _ _ h => h) (Or.inl ⟨by rfl, ?hy9⟩) (by assumption) ?rest9
        case hy9 => (intro w hSw; (try dsimp only at hSw); go_simp; first | done | with_reducible rfl)
        (try simp only [Act.put, List.setIfInBounds_toArray, List.set_cons_zero, List.set_cons_succ])
        refine wpAnyH_take (i := 10) (oi := { dst := some 28, op := Op.fieldAddr 91 (Operand.tmp 27) 1, type := 0, pos := "group.go:112", after := #[{ on := 9, ground := Ground.data }], guard := none }) (v := ?v10) rfl (by kernel_rfl) (by kernel_rfl) (by kernel_rfl) (fun _ _ _ h => h) (Or.inl ⟨by rfl, ?hy10⟩) (by assumption) ?rest10
        case hy10 => (intro w hSw; (try dsimp only at hSw); go_simp; first | done | with_reducible rfl)
        (try simp only [Act.put, List.setIfInBounds_toArray, List.set_cons_zero, List.set_cons_succ])
        refine wpAnyH_ready (rs := [11]) (by kernel_rfl) (by simp) ?_
        refine AllReadyH.cons (o := { dst := some 29, op := Op.load 3 (Operand.tmp 28), type := 3, pos := "group.go:112", after := #[{ on := 10, ground := Ground.data }], guard := none }) rfl (fun K hK => ?_) AllReadyH.nil
        go_simp
        refine hK.out _ _ ?_ (fun hHeld => ?_)
        · exact hHeld
        clear hK K
        (try simp only [Act.put, List.setIfInBounds_toArray, List.set_cons_zero, List.set_cons_succ])
        refine wpAnyH_ready (rs := [12]) (by kernel_rfl) (by simp) ?_
        refine AllReadyH.cons (o := { dst := some 30, op := Op.call { callee := Callee.value (Operand.tmp 21), args := #[Operand.tmp 25, Operand.tmp 29], argTypes := #[9, 3] }, type := 137, pos := "group.go:112", after := #[{ on := 3, ground := Ground.data }, { on := 7, ground := Ground.data }, { on := 11, ground := Ground.data }], guard := none }) rfl (fun K hK => ?_) AllReadyH.nil
        (go_simp; go_at_call 88; refine (HG.out _).mono ?_; rintro e w5 ⟨rfl, hb5⟩; have B5 : Below wr.heap.size wr w5 := ⟨hb5.os, hb5.tape, hb5.output, hb5.size, hb5.block⟩; obtain ⟨⟨u, ku⟩, kf, _⟩ := HCE.out w5 B5; have d1 := (HRR.out w5 B5).c1; have d2 := (HRR.out w5 B5).c2; have f1 := (HRR.out w5 B5).free 1; have f2 := (HRR.out w5 B5).free 2; dsimp only)
        refine hK.out _ _ ?_ (fun hHeld => ?_)
        · exact keepC hb5 hHeld
        clear hK K
        (try simp only [Act.put, List.setIfInBounds_toArray, List.set_cons_zero, List.set_cons_succ])
        refine wpAnyH_take (i := 13) (oi := { dst := some 17, op := Op.move (Operand.tmp 30), type := 137, pos := "group.go:112", after := #[{ on := 12, ground := Ground.data }], guard := none }) (v := ?v13) rfl (by kernel_rfl) (by kernel_rfl) (by kernel_rfl) (fun _ _ _ h => h) (Or.inl ⟨by rfl, ?hy13⟩) (by assumption) ?rest13
        case hy13 => (intro w hSw; (try dsimp only at hSw); go_simp; first | done | with_reducible rfl)
        (try simp only [Act.put, List.setIfInBounds_toArray, List.set_cons_zero, List.set_cons_succ])
        refine wpAnyH_take (i := 14) (oi := { dst := some 31, op := Op.extract (Operand.tmp 17) 0, type := 2, pos := "group.go:112", after := #[{ on := 13, ground := Ground.data }], guard := none }) (v := ?v14) rfl (by kernel_rfl) (by kernel_rfl) (by kernel_rfl) (fun _ _ _ h => h) (Or.inl ⟨by rfl, ?hy14⟩) (by assumption) ?rest14
        case hy14 => (intro w hSw; (try dsimp only at hSw); go_simp; first | done | with_reducible rfl)
        (try simp only [Act.put, List.setIfInBounds_toArray, List.set_cons_zero, List.set_cons_succ])
        refine wpAnyH_take (i := 15) (oi := { dst := some 32, op := Op.extract (Operand.tmp 17) 1, type := 3, pos := "group.go:112", after := #[{ on := 13, ground := Ground.data }, { on := 18, ground := Ground.gcOnly Departure.lateStores }], guard := none }) (v := ?v15) rfl (by kernel_rfl) (by kernel_rfl) (by kernel_rfl) (fun _ _ _ h => h) (Or.inl ⟨by rfl, ?hy15⟩) (by assumption) ?rest15
        case hy15 => (intro w hSw; (try dsimp only at hSw); go_simp; first | done | with_reducible rfl)
        (try simp only [Act.put, List.setIfInBounds_toArray, List.set_cons_zero, List.set_cons_succ])
        refine wpAnyH_take (i := 16) (oi := { dst := some 33, op := Op.extract (Operand.tmp 17) 2, type := 30, pos := "group.go:112", after := #[{ on := 13, ground := Ground.data }, { on := 21, ground := Ground.gcOnly Departure.lateStores }], guard := none }) (v := ?v16) rfl (by kernel_rfl) (by kernel_rfl) (by kernel_rfl) (fun _ _ _ h => h) (Or.inl ⟨by rfl, ?hy16⟩) (by assumption) ?rest16
        case hy16 => (intro w hSw; (try dsimp only at hSw); go_simp; first | done | with_reducible rfl)
        (try simp only [Act.put, List.setIfInBounds_toArray, List.set_cons_zero, List.set_cons_succ])
        refine wpAnyH_take (i := 17) (oi := { dst := some 34, op := Op.nilCheck (Operand.tmp 18), type := 0, pos := "group.go:112", after := #[{ on := 0, ground := Ground.data }, { on := 0, ground := Ground.phase }, { on := 1, ground := Ground.textOnly Departure.inlinedCapture }, { on := 2, ground := Ground.textOnly Departure.inlinedCapture }, { on := 3, ground := Ground.phase }, { on := 4, ground := Ground.phase }, { on := 5, ground := Ground.phase }, { on := 6, ground := Ground.phase }, { on := 7, ground := Ground.phase }, { on := 8, ground := Ground.phase }, { on := 9, ground := Ground.phase }, { on := 10, ground := Ground.phase }, { on := 11, ground := Ground.phase }, { on := 12, ground := Ground.phase }, { on := 13, ground := Ground.phase }, { on := 14, ground := Ground.phase }, { on := 15, ground := Ground.textOnly Departure.lateStores }, { on := 16, ground := Ground.textOnly Departure.lateStores }], guard := none }) (v := ?v17) rfl (by kernel_rfl) (by kernel_rfl) (by kernel_rfl) (fun _ _ _ h => h) (Or.inl ⟨by rfl, ?hy17⟩) (by assumption) ?rest17
        case hy17 => (intro w hSw; (try dsimp only at hSw); go_simp; first | done | with_reducible rfl)
        (try simp only [Act.put, List.setIfInBounds_toArray, List.set_cons_zero, List.set_cons_succ])
        refine wpAnyH_ready (rs := [18]) (by kernel_rfl) (by simp) ?_
        refine AllReadyH.cons (o := { dst := none, op := Op.store 2 (Operand.tmp 34) (Operand.tmp 31), type := 0, pos := "group.go:112", after := #[{ on := 17, ground := Ground.data }, { on := 14, ground := Ground.data }, { on := 12, ground := Ground.chain }, { on := 0, ground := Ground.phase }, { on := 1, ground := Ground.textOnly Departure.inlinedCapture }, { on := 2, ground := Ground.textOnly Departure.inlinedCapture }, { on := 3, ground := Ground.phase }, { on := 4, ground := Ground.phase }, { on := 5, ground := Ground.phase }, { on := 6, ground := Ground.phase }, { on := 7, ground := Ground.phase }, { on := 8, ground := Ground.phase }, { on := 9, ground := Ground.phase }, { on := 10, ground := Ground.phase }, { on := 11, ground := Ground.phase }, { on := 12, ground := Ground.phase }, { on := 13, ground := Ground.phase }, { on := 14, ground := Ground.phase }, { on := 15, ground := Ground.textOnly Departure.lateStores }, { on := 16, ground := Ground.textOnly Departure.lateStores }], guard := none }) rfl (fun K hK => ?_) AllReadyH.nil
        go_simp
        refine hK.out _ _ ?_ (fun hHeld => ?_)
        · exact keepP _ HA1.out HA2.out HA3.out hHeld
        clear hK K
        (try simp only [Act.put, List.setIfInBounds_toArray, List.set_cons_zero, List.set_cons_succ])
        refine wpAnyH_take (i := 19) (oi := { dst := some 35, op := Op.nilCheck (Operand.tmp 19), type := 0, pos := "group.go:112", after := #[{ on := 1, ground := Ground.data }, { on := 0, ground := Ground.phase }, { on := 1, ground := Ground.phase }, { on := 2, ground := Ground.textOnly Departure.inlinedCapture }, { on := 3, ground := Ground.phase }, { on := 4, ground := Ground.phase }, { on := 5, ground := Ground.phase }, { on := 6, ground := Ground.phase }, { on := 7, ground := Ground.phase }, { on := 8, ground := Ground.phase }, { on := 9, ground := Ground.phase }, { on := 10, ground := Ground.phase }, { on := 11, ground := Ground.phase }, { on := 12, ground := Ground.phase }, { on := 13, ground := Ground.phase }, { on := 14, ground := Ground.phase }, { on := 15, ground := Ground.phase }, { on := 16, ground := Ground.textOnly Departure.lateStores }, { on := 17, ground := Ground.phase }, { on := 18, ground := Ground.phase }], guard := none }) (v := ?v19) rfl (by kernel_rfl) (by kernel_rfl) (by kernel_rfl) (fun _ _ _ h => h) (Or.inl ⟨by rfl, ?hy19⟩) (by assumption) ?rest19
        case hy19 => (intro w hSw; (try dsimp only at hSw); go_simp; first | done | with_reducible rfl)
        (try simp only [Act.put, List.setIfInBounds_toArray, List.set_cons_zero, List.set_cons_succ])
        refine wpAnyH_take (i := 20) (oi := { dst := some 36, op := Op.fieldAddr 91 (Operand.tmp 35) 1, type := 0, pos := "group.go:112", after := #[{ on := 19, ground := Ground.data }, { on := 0, ground := Ground.phase }, { on := 1, ground := Ground.phase }, { on := 2, ground := Ground.textOnly Departure.inlinedCapture }, { on := 3, ground := Ground.phase }, { on := 4, ground := Ground.phase }, { on := 5, ground := Ground.phase }, { on := 6, ground := Ground.phase }, { on := 7, ground := Ground.phase }, { on := 8, ground := Ground.phase }, { on := 9, ground := Ground.phase }, { on := 10, ground := Ground.phase }, { on := 11, ground := Ground.phase }, { on := 12, ground := Ground.phase }, { on := 13, ground := Ground.phase }, { on := 14, ground := Ground.phase }, { on := 15, ground := Ground.phase }, { on := 16, ground := Ground.textOnly Departure.lateStores }, { on := 17, ground := Ground.phase }, { on := 18, ground := Ground.phase }], guard := none }) (v := ?v20) rfl (by kernel_rfl) (by kernel_rfl) (by kernel_rfl) (fun _ _ _ h => h) (Or.inl ⟨by rfl, ?hy20⟩) (by assumption) ?rest20
        case hy20 => (intro w hSw; (try dsimp only at hSw); go_simp; first | done | with_reducible rfl)
        (try simp only [Act.put, List.setIfInBounds_toArray, List.set_cons_zero, List.set_cons_succ])
        refine wpAnyH_ready (rs := [21]) (by kernel_rfl) (by simp) ?_
        refine AllReadyH.cons (o := { dst := none, op := Op.store 3 (Operand.tmp 36) (Operand.tmp 32), type := 0, pos := "group.go:112", after := #[{ on := 20, ground := Ground.data }, { on := 15, ground := Ground.data }, { on := 18, ground := Ground.chain }, { on := 0, ground := Ground.phase }, { on := 1, ground := Ground.phase }, { on := 2, ground := Ground.textOnly Departure.inlinedCapture }, { on := 3, ground := Ground.phase }, { on := 4, ground := Ground.phase }, { on := 5, ground := Ground.phase }, { on := 6, ground := Ground.phase }, { on := 7, ground := Ground.phase }, { on := 8, ground := Ground.phase }, { on := 9, ground := Ground.phase }, { on := 10, ground := Ground.phase }, { on := 11, ground := Ground.phase }, { on := 12, ground := Ground.phase }, { on := 13, ground := Ground.phase }, { on := 14, ground := Ground.phase }, { on := 15, ground := Ground.phase }, { on := 16, ground := Ground.textOnly Departure.lateStores }, { on := 17, ground := Ground.phase }, { on := 18, ground := Ground.phase }], guard := none }) rfl (fun K hK => ?_) AllReadyH.nil
        go_simp
        refine hK.out _ _ ?_ (fun hHeld => ?_)
        · exact keepP _ HA4.out HA5.out HA6.out hHeld
        clear hK K
        (try simp only [Act.put, List.setIfInBounds_toArray, List.set_cons_zero, List.set_cons_succ])
        refine wpAnyH_take (i := 22) (oi := { dst := some 37, op := Op.nilCheck (Operand.tmp 20), type := 0, pos := "group.go:112", after := #[{ on := 2, ground := Ground.data }, { on := 0, ground := Ground.phase }, { on := 1, ground := Ground.phase }, { on := 2, ground := Ground.phase }, { on := 3, ground := Ground.phase }, { on := 4, ground := Ground.phase }, { on := 5, ground := Ground.phase }, { on := 6, ground := Ground.phase }, { on := 7, ground := Ground.phase }, { on := 8, ground := Ground.phase }, { on := 9, ground := Ground.phase }, { on := 10, ground := Ground.phase }, { on := 11, ground := Ground.phase }, { on := 12, ground := Ground.phase }, { on := 13, ground := Ground.phase }, { on := 14, ground := Ground.phase }, { on := 15, ground := Ground.phase }, { on := 16, ground := Ground.phase }, { on := 17, ground := Ground.phase }, { on := 18, ground := Ground.phase }, { on := 19, ground := Ground.phase }, { on := 20, ground := Ground.phase }, { on := 21, ground := Ground.phase }], guard := none }) (v := ?v22) rfl (by kernel_rfl) (by kernel_rfl) (by kernel_rfl) (fun _ _ _ h => h) (Or.inl ⟨by rfl, ?hy22⟩) (by assumption) ?rest22
        case hy22 => (intro w hSw; (try dsimp only at hSw); go_simp; first | done | with_reducible rfl)
        (try simp only [Act.put, List.setIfInBounds_toArray, List.set_cons_zero, List.set_cons_succ])
        refine wpAnyH_take (i := 23) (oi := { dst := some 38, op := Op.fieldAddr 91 (Operand.tmp 37) 2, type := 0, pos := "group.go:112", after := #[{ on := 22, ground := Ground.data }, { on := 0, ground := Ground.phase }, { on := 1, ground := Ground.phase }, { on := 2, ground := Ground.phase }, { on := 3, ground := Ground.phase }, { on := 4, ground := Ground.phase }, { on := 5, ground := Ground.phase }, { on := 6, ground := Ground.phase }, { on := 7, ground := Ground.phase }, { on := 8, ground := Ground.phase }, { on := 9, ground := Ground.phase }, { on := 10, ground := Ground.phase }, { on := 11, ground := Ground.phase }, { on := 12, ground := Ground.phase }, { on := 13, ground := Ground.phase }, { on := 14, ground := Ground.phase }, { on := 15, ground := Ground.phase }, { on := 16, ground := Ground.phase }, { on := 17, ground := Ground.phase }, { on := 18, ground := Ground.phase }, { on := 19, ground := Ground.phase }, { on := 20, ground := Ground.phase }, { on := 21, ground := Ground.phase }], guard := none }) (v := ?v23) rfl (by kernel_rfl) (by kernel_rfl) (by kernel_rfl) (fun _ _ _ h => h) (Or.inl ⟨by rfl, ?hy23⟩) (by assumption) ?rest23
        case hy23 => (intro w hSw; (try dsimp only at hSw); go_simp; first | done | with_reducible rfl)
        (try simp only [Act.put, List.setIfInBounds_toArray, List.set_cons_zero, List.set_cons_succ])
        refine wpAnyH_ready (rs := [24]) (by kernel_rfl) (by simp) ?_
        refine AllReadyH.cons (o := { dst := none, op := Op.store 30 (Operand.tmp 38) (Operand.tmp 33), type := 0, pos := "group.go:112", after := #[{ on := 23, ground := Ground.data }, { on := 16, ground := Ground.data }, { on := 21, ground := Ground.chain }, { on := 0, ground := Ground.phase }, { on := 1, ground := Ground.phase }, { on := 2, ground := Ground.phase }, { on := 3, ground := Ground.phase }, { on := 4, ground := Ground.phase }, { on := 5, ground := Ground.phase }, { on := 6, ground := Ground.phase }, { on := 7, ground := Ground.phase }, { on := 8, ground := Ground.phase }, { on := 9, ground := Ground.phase }, { on := 10, ground := Ground.phase }, { on := 11, ground := Ground.phase }, { on := 12, ground := Ground.phase }, { on := 13, ground := Ground.phase }, { on := 14, ground := Ground.phase }, { on := 15, ground := Ground.phase }, { on := 16, ground := Ground.phase }, { on := 17, ground := Ground.phase }, { on := 18, ground := Ground.phase }, { on := 19, ground := Ground.phase }, { on := 20, ground := Ground.phase }, { on := 21, ground := Ground.phase }], guard := none }) rfl (fun K hK => ?_) AllReadyH.nil
        go_simp
        refine hK.out _ _ ?_ (fun hHeld => ?_)
        · exact keepP _ HA7.out HA8.out HA9.out hHeld
        clear hK K
        (try simp only [Act.put, List.setIfInBounds_toArray, List.set_cons_zero, List.set_cons_succ])
        refine wpAnyH_done (by kernel_rfl) ?_ _
        have HP6 := Lib.hid (HPUT.out w5 B5)
        clear d1 d2 f1 f2 ku kf hb5 B5 S0
        go_wp2_with fail
        go_roundw
        case rel => exact ⟨k + 1, rfl, by omega, HP6.out⟩
        case measure => simp [intOf]; omega
      · have e0 := ne_b (show ((p.2 : Nat) : Int) ≠ 0 by omega)
        have HST := Lib.hid (HR.out.stay k f wr HF.out HI.out (by rw [← HP.out]; exact h0))
        clear h0
        go_wp2_with fail
        go_roundw
        case rel => exact ⟨k + 1, rfl, by omega, HST.out⟩
        case measure => simp [intOf]; omega
    · have hk2 : k = fs.length := by omega
      have HE := Lib.hid (hk2 ▸ HI.out)
      clear hk2
      go_wp2_with fail
      go_end0
      exact ⟨rfl, HE.out⟩
/-- Where the places stand behind some fields. -/
def chT (s : ByteArray) (st : Nat × Nat) : Nat → Nat × Nat
  | 0 => st
  | k + 1 => (txtS s (chT s st k)).2
/-- What a round of the closure keeps. -/
structure RdT (g b1 b2 a : Nat) (s : ByteArray) (fs : List (Nat × Nat)) (st : Nat × Nat) (I : Nat → World → Prop) : Prop where
  row : ∀ k w, I k w → Lies a (fs.map ptrV).toArray 136 w
  capt : ∀ k w, I k w → RCapt g b1 b2 90 134 w
  rd : ∀ k w, I k w → RdAt 91 g s ((chT s st k).1 : Nat) ((chT s st k).2 : Nat) w
  to : ∀ k w, I k w → (chT s st k).1 ≤ s.size
  cell : ∀ k f w, fs[k]? = some f → I k w → (∃ u, w.cell? ⟨f.1, f.2, none⟩ = some u) ∧ w.frozen? ⟨f.1, f.2, none⟩ = false ∧ f.1 ≠ g ∧ f.1 ≠ b1 ∧ f.1 ≠ b2
  next : ∀ k w w', I k w → Below w.heap.size w w' → I k w'
  put : ∀ k f w, fs[k]? = some f → I k w → (chT s st k).2 = 0 → I (k + 1) (((w.setCell ⟨f.1, f.2, none⟩ (txtV (txtS s (chT s st k)))).setCell ⟨g, 1, none⟩ (.int .i64 (txtS s (chT s st k)).2.1)).setCell ⟨g, 2, none⟩ (.int .i64 (txtS s (chT s st k)).2.2))
  stay : ∀ k f w, fs[k]? = some f → I k w → (chT s st k).2 ≠ 0 → I (k + 1) w
set_option maxRecDepth 100000 in
set_option maxHeartbeats 4000000 in
theorem gpReadT (g b1 b2 a : Nat) (s : ByteArray) (hs : s.size ≤ 9223372036854775807) (fs : List (Nat × Nat)) (hn : fs.length ≤ 1000) (c : Nat) (st : Nat × Nat) (I : Nat → World → Prop) (hR : RdT g b1 b2 a s fs st I) (w : World) (h0 : I 0 w) :
    Calls Try.prog 117 #[.slice (some ⟨a, 0, none⟩) fs.length c, .pointer (some ⟨b1, 0, none⟩), .pointer (some ⟨b2, 0, none⟩)] w fun e w' => e = .returned (.tuple #[]) ∧ I fs.length w' := by
  have HR := Lib.hid hR; have H0 := Lib.hid h0
  clear hR h0
  go_enter Try.func117, Try.ntmps117
  go_wp2_with fail
  go_loopw [8] (fun i wr => ∃ k : Nat, i = .int .i64 k ∧ k ≤ fs.length ∧ I k wr) (fun i _ => fs.length - (intOf i).toNat)
  case atStart => exact ⟨0, rfl, Nat.zero_le _, H0.out⟩
  case round =>
    obtain ⟨k, rfl, hk, hI⟩ := hrel
    have HI := Lib.hid hI
    clear hI
    by_cases hlt : k < fs.length
    · obtain ⟨f, hf⟩ : ∃ f, fs[k]? = some f := ⟨_, List.getElem?_eq_getElem hlt⟩
      have HF := Lib.hid hf
      have q0 : wr.cell? ⟨a, k, none⟩ = some (.pointer (some ⟨f.1, f.2, none⟩)) := by
        have h := Lies.cell (HR.out.row k wr HI.out) (j := k) (v := ptrV f) (by rw [List.getElem?_toArray, List.getElem?_map, hf]; rfl)
        exact h
      have x1 := (HR.out.capt k wr HI.out).inp.cell (j := 0) rfl
      have x2 := (HR.out.capt k wr HI.out).get.cell (j := 0) rfl
      have HRD := Lib.hid (HR.out.rd k wr HI.out)
      have y0 := HRD.out.c0; have y1 := HRD.out.c1; have y2 := HRD.out.c2
      have HTO := Lib.hid (HR.out.to k wr HI.out)
      obtain ⟨p, hp⟩ : ∃ p, p = chT s st k := ⟨_, rfl⟩
      rw [← hp] at HRD y1 y2 HTO
      have HP := Lib.hid hp
      clear hf hp
      by_cases h0 : p.2 = 0
      · obtain ⟨at_, cz⟩ := p
        simp only at h0
        subst h0
        have HG := Lib.hid (fun w => vlqGetTextB s hs at_ HTO.out w)
        obtain ⟨R, hR2⟩ : ∃ R, R = txtS s (at_, 0) := ⟨_, rfl⟩
        have HPUT := Lib.hid (fun w' (hb : Below wr.heap.size wr w') => HR.out.put k f w' HF.out (HR.out.next k wr w' HI.out hb) (by rw [← HP.out]))
        rw [← HP.out, ← hR2] at HPUT
        rw [← hR2] at HG
        have y2 : wr.cell? ⟨g, 2, none⟩ = some (.int .i64 0) := y2
        have HCE := Lib.hid (fun w' (hb : Below wr.heap.size wr w') => HR.out.cell k f w' HF.out (HR.out.next k wr w' HI.out hb))
        have HRR := Lib.hid (fun w' (hb : Below wr.heap.size wr w') => HR.out.rd k w' (HR.out.next k wr w' HI.out hb))
        obtain ⟨_, _, e1, e2, e3⟩ := HR.out.cell k f wr HF.out HI.out
        have HQ := HR.out.capt k wr HI.out
        have a1 : (⟨b1, 0, none⟩ : Addr) ≠ ⟨f.1, f.2, none⟩ := adr_block (Ne.symm e2)
        have a2 : (⟨b2, 0, none⟩ : Addr) ≠ ⟨f.1, f.2, none⟩ := adr_block (Ne.symm e3)
        have a3 : (⟨g, 0, none⟩ : Addr) ≠ ⟨f.1, f.2, none⟩ := adr_block (Ne.symm e1)
        have a4 : (⟨b1, 0, none⟩ : Addr) ≠ ⟨g, 1, none⟩ := adr_block HQ.n1
        have a5 : (⟨b2, 0, none⟩ : Addr) ≠ ⟨g, 1, none⟩ := adr_block HQ.n2
        have a6 : (⟨g, 0, none⟩ : Addr) ≠ ⟨g, 1, none⟩ := adr_off (by omega)
        have a7 : (⟨b1, 0, none⟩ : Addr) ≠ ⟨g, 2, none⟩ := adr_block HQ.n1
        have a8 : (⟨b2, 0, none⟩ : Addr) ≠ ⟨g, 2, none⟩ := adr_block HQ.n2
        have a9 : (⟨g, 0, none⟩ : Addr) ≠ ⟨g, 2, none⟩ := adr_off (by omega)
        have e4 : g ≠ f.1 := Ne.symm e1
        have HA1 := Lib.hid a1; have HA2 := Lib.hid a2; have HA3 := Lib.hid a3; have HA4 := Lib.hid a4; have HA5 := Lib.hid a5; have HA6 := Lib.hid a6; have HA7 := Lib.hid a7; have HA8 := Lib.hid a8; have HA9 := Lib.hid a9
        clear hR2 HQ e2 e3 a1 a2 a3 a4 a5 a6 a7 a8 a9
        go_wp2_with fail
        have S0 : wr.drew.cell? ⟨b1, 0, none⟩ = some (.pointer (some ⟨g, 0, none⟩)) ∧ wr.drew.cell? ⟨b2, 0, none⟩ = some (.func (.func 90) #[] #[]) ∧ wr.drew.cell? ⟨g, 0, none⟩ = some (.string s) := ⟨x1, x2, y0⟩
        refine wp_region_held_drew (S := fun w' => w'.cell? ⟨b1, 0, none⟩ = some (.pointer (some ⟨g, 0, none⟩)) ∧ w'.cell? ⟨b2, 0, none⟩ = some (.func (.func 90) #[] #[]) ∧ w'.cell? ⟨g, 0, none⟩ = some (.string s)) (by kernel_rfl) S0 (fun hHeld => ?_)
        refine wpAnyH_take (i := 0) (oi := { dst := some 18, op := Op.move (Operand.tmp 5), type := 136, pos := "group.go:112", after := #[], guard := none }) (v := ?v0) rfl (by kernel_rfl) (by kernel_rfl) (by kernel_rfl) (fun _ _ _ h => h) (Or.inl ⟨by rfl, ?hy0⟩) (by assumption) ?rest0
        case hy0 => (intro w hSw; (try dsimp only at hSw); go_simp; first | done | with_reducible rfl)
        (try simp only [Act.put, List.setIfInBounds_toArray, List.set_cons_zero, List.set_cons_succ])
        refine wpAnyH_take (i := 1) (oi := { dst := some 19, op := Op.load 128 (Operand.tmp 1), type := 128, pos := "group.go:112", after := #[], guard := none }) (v := ?v1) rfl (by kernel_rfl) (by kernel_rfl) (by kernel_rfl) (fun _ _ _ h => h) (Or.inl ⟨by rfl, ?hy1⟩) (by assumption) ?rest1
        case hy1 => (intro w hSw; (try dsimp only at hSw); go_simp; first | done | with_reducible rfl)
        (try simp only [Act.put, List.setIfInBounds_toArray, List.set_cons_zero, List.set_cons_succ])
        refine wpAnyH_take (i := 2) (oi := { dst := some 20, op := Op.load 128 (Operand.tmp 1), type := 128, pos := "group.go:112", after := #[], guard := none }) (v := ?v2) rfl (by kernel_rfl) (by kernel_rfl) (by kernel_rfl) (fun _ _ _ h => h) (Or.inl ⟨by rfl, ?hy2⟩) (by assumption) ?rest2
        case hy2 => (intro w hSw; (try dsimp only at hSw); go_simp; first | done | with_reducible rfl)
        (try simp only [Act.put, List.setIfInBounds_toArray, List.set_cons_zero, List.set_cons_succ])
        refine wpAnyH_take (i := 3) (oi := { dst := some 21, op := Op.load 134 (Operand.tmp 2), type := 134, pos := "group.go:112", after := #[], guard := none }) (v := ?v3) rfl (by kernel_rfl) (by kernel_rfl) (by kernel_rfl) (fun _ _ _ h => h) (Or.inl ⟨by rfl, ?hy3⟩) (by assumption) ?rest3
        case hy3 => (intro w hSw; (try dsimp only at hSw); go_simp; first | done | with_reducible rfl)
        (try simp only [Act.put, List.setIfInBounds_toArray, List.set_cons_zero, List.set_cons_succ])
        refine wpAnyH_take (i := 4) (oi := { dst := some 22, op := Op.load 128 (Operand.tmp 1), type := 128, pos := "group.go:112", after := #[], guard := none }) (v := ?v4) rfl (by kernel_rfl) (by kernel_rfl) (by kernel_rfl) (fun _ _ _ h => h) (Or.inl ⟨by rfl, ?hy4⟩) (by assumption) ?rest4
        case hy4 => (intro w hSw; (try dsimp only at hSw); go_simp; first | done | with_reducible rfl)
        (try simp only [Act.put, List.setIfInBounds_toArray, List.set_cons_zero, List.set_cons_succ])
        refine wpAnyH_take (i := 5) (oi := { dst := some 23, op := Op.nilCheck (Operand.tmp 22), type := 0, pos := "group.go:112", after := #[{ on := 4, ground := Ground.data }], guard := none }) (v := ?v5) rfl (by kernel_rfl) (by kernel_rfl) (by kernel_rfl) (fun _ _ _ h => h) (Or.inl ⟨by rfl, ?hy5⟩) (by assumption) ?rest5
        case hy5 => (intro w hSw; (try dsimp only at hSw); go_simp; first | done | with_reducible rfl)
        (try simp only [Act.put, List.setIfInBounds_toArray, List.set_cons_zero, List.set_cons_succ])
        refine wpAnyH_take (i := 6) (oi := { dst := some 24, op := Op.fieldAddr 91 (Operand.tmp 23) 0, type := 0, pos := "group.go:112", after := #[{ on := 5, ground := Ground.data }], guard := none }) (v := ?v6) rfl (by kernel_rfl) (by kernel_rfl) (by kernel_rfl) (fun _ _ _ h => h) (Or.inl ⟨by rfl, ?hy6⟩) (by assumption) ?rest6
        case hy6 => (intro w hSw; (try dsimp only at hSw); go_simp; first | done | with_reducible rfl)
        (try simp only [Act.put, List.setIfInBounds_toArray, List.set_cons_zero, List.set_cons_succ])
        refine wpAnyH_take (i := 7) (oi := { dst := some 25, op := Op.load 9 (Operand.tmp 24), type := 9, pos := "group.go:112", after := #[{ on := 6, ground := Ground.data }], guard := none }) (v := ?v7) rfl (by kernel_rfl) (by kernel_rfl) (by kernel_rfl) (fun _ _ _ h => h) (Or.inl ⟨by rfl, ?hy7⟩) (by assumption) ?rest7
        case hy7 => (intro w hSw; (try dsimp only at hSw); go_simp; first | done | with_reducible rfl)
        (try simp only [Act.put, List.setIfInBounds_toArray, List.set_cons_zero, List.set_cons_succ])
        refine wpAnyH_take (i := 8) (oi := { dst := some 26, op := Op.load 128 (Operand.tmp 1), type := 128, pos := "group.go:112", after := #[], guard := none }) (v := ?v8) rfl (by kernel_rfl) (by kernel_rfl) (by kernel_rfl) (fun _ _ _ h => h) (Or.inl ⟨by rfl, ?hy8⟩) (by assumption) ?rest8
        case hy8 => (intro w hSw; (try dsimp only at hSw); go_simp; first | done | with_reducible rfl)
        (try simp only [Act.put, List.setIfInBounds_toArray, List.set_cons_zero, List.set_cons_succ])
        refine wpAnyH_take (i := 9) (oi := { dst := some 27, op := Op.nilCheck (Operand.tmp 26), type := 0, pos := "group.go:112", after := #[{ on := 8, ground := Ground.data }], guard := none }) (v := ?v9) rfl (by kernel_rfl) (by kernel_rfl) (by kernel_rfl) (fun _ _ _ h => h) (Or.inl ⟨by rfl, ?hy9⟩) (by assumption) ?rest9
        case hy9 => (intro w hSw; (try dsimp only at hSw); go_simp; first | done | with_reducible rfl)
        (try simp only [Act.put, List.setIfInBounds_toArray, List.set_cons_zero, List.set_cons_succ])
        refine wpAnyH_take (i := 10) (oi := { dst := some 28, op := Op.fieldAddr 91 (Operand.tmp 27) 1, type := 0, pos := "group.go:112", after := #[{ on := 9, ground := Ground.data }], guard := none }) (v := ?v10) rfl (by kernel_rfl) (by kernel_rfl) (by kernel_rfl) (fun _ _ _ h => h) (Or.inl ⟨by rfl, ?hy10⟩) (by assumption) ?rest10
        case hy10 => (intro w hSw; (try dsimp only at hSw); go_simp; first | done | with_reducible rfl)
        (try simp only [Act.put, List.setIfInBounds_toArray, List.set_cons_zero, List.set_cons_succ])
        refine wpAnyH_ready (rs := [11]) (by kernel_rfl) (by simp) ?_
        refine AllReadyH.cons (o := { dst := some 29, op := Op.load 3 (Operand.tmp 28), type := 3, pos := "group.go:112", after := #[{ on := 10, ground := Ground.data }], guard := none }) rfl (fun K hK => ?_) AllReadyH.nil
        go_simp
        refine hK.out _ _ ?_ (fun hHeld => ?_)
        · exact hHeld
        clear hK K
        (try simp only [Act.put, List.setIfInBounds_toArray, List.set_cons_zero, List.set_cons_succ])
        refine wpAnyH_ready (rs := [12]) (by kernel_rfl) (by simp) ?_
        refine AllReadyH.cons (o := { dst := some 30, op := Op.call { callee := Callee.value (Operand.tmp 21), args := #[Operand.tmp 25, Operand.tmp 29], argTypes := #[9, 3] }, type := 138, pos := "group.go:112", after := #[{ on := 3, ground := Ground.data }, { on := 7, ground := Ground.data }, { on := 11, ground := Ground.data }], guard := none }) rfl (fun K hK => ?_) AllReadyH.nil
        (go_simp; go_at_call 90; refine (HG.out _).mono ?_; rintro e w5 ⟨rfl, hb5⟩; have B5 : Below wr.heap.size wr w5 := ⟨hb5.os, hb5.tape, hb5.output, hb5.size, hb5.block⟩; obtain ⟨⟨u, ku⟩, kf, _⟩ := HCE.out w5 B5; have d1 := (HRR.out w5 B5).c1; have d2 := (HRR.out w5 B5).c2; have f1 := (HRR.out w5 B5).free 1; have f2 := (HRR.out w5 B5).free 2; dsimp only)
        refine hK.out _ _ ?_ (fun hHeld => ?_)
        · exact keepC hb5 hHeld
        clear hK K
        (try simp only [Act.put, List.setIfInBounds_toArray, List.set_cons_zero, List.set_cons_succ])
        refine wpAnyH_take (i := 13) (oi := { dst := some 17, op := Op.move (Operand.tmp 30), type := 138, pos := "group.go:112", after := #[{ on := 12, ground := Ground.data }], guard := none }) (v := ?v13) rfl (by kernel_rfl) (by kernel_rfl) (by kernel_rfl) (fun _ _ _ h => h) (Or.inl ⟨by rfl, ?hy13⟩) (by assumption) ?rest13
        case hy13 => (intro w hSw; (try dsimp only at hSw); go_simp; first | done | with_reducible rfl)
        (try simp only [Act.put, List.setIfInBounds_toArray, List.set_cons_zero, List.set_cons_succ])
        refine wpAnyH_take (i := 14) (oi := { dst := some 31, op := Op.extract (Operand.tmp 17) 0, type := 9, pos := "group.go:112", after := #[{ on := 13, ground := Ground.data }], guard := none }) (v := ?v14) rfl (by kernel_rfl) (by kernel_rfl) (by kernel_rfl) (fun _ _ _ h => h) (Or.inl ⟨by rfl, ?hy14⟩) (by assumption) ?rest14
        case hy14 => (intro w hSw; (try dsimp only at hSw); go_simp; first | done | with_reducible rfl)
        (try simp only [Act.put, List.setIfInBounds_toArray, List.set_cons_zero, List.set_cons_succ])
        refine wpAnyH_take (i := 15) (oi := { dst := some 32, op := Op.extract (Operand.tmp 17) 1, type := 3, pos := "group.go:112", after := #[{ on := 13, ground := Ground.data }, { on := 18, ground := Ground.gcOnly Departure.lateStores }], guard := none }) (v := ?v15) rfl (by kernel_rfl) (by kernel_rfl) (by kernel_rfl) (fun _ _ _ h => h) (Or.inl ⟨by rfl, ?hy15⟩) (by assumption) ?rest15
        case hy15 => (intro w hSw; (try dsimp only at hSw); go_simp; first | done | with_reducible rfl)
        (try simp only [Act.put, List.setIfInBounds_toArray, List.set_cons_zero, List.set_cons_succ])
        refine wpAnyH_take (i := 16) (oi := { dst := some 33, op := Op.extract (Operand.tmp 17) 2, type := 30, pos := "group.go:112", after := #[{ on := 13, ground := Ground.data }, { on := 21, ground := Ground.gcOnly Departure.lateStores }], guard := none }) (v := ?v16) rfl (by kernel_rfl) (by kernel_rfl) (by kernel_rfl) (fun _ _ _ h => h) (Or.inl ⟨by rfl, ?hy16⟩) (by assumption) ?rest16
        case hy16 => (intro w hSw; (try dsimp only at hSw); go_simp; first | done | with_reducible rfl)
        (try simp only [Act.put, List.setIfInBounds_toArray, List.set_cons_zero, List.set_cons_succ])
        refine wpAnyH_take (i := 17) (oi := { dst := some 34, op := Op.nilCheck (Operand.tmp 18), type := 0, pos := "group.go:112", after := #[{ on := 0, ground := Ground.data }, { on := 0, ground := Ground.phase }, { on := 1, ground := Ground.textOnly Departure.inlinedCapture }, { on := 2, ground := Ground.textOnly Departure.inlinedCapture }, { on := 3, ground := Ground.phase }, { on := 4, ground := Ground.phase }, { on := 5, ground := Ground.phase }, { on := 6, ground := Ground.phase }, { on := 7, ground := Ground.phase }, { on := 8, ground := Ground.phase }, { on := 9, ground := Ground.phase }, { on := 10, ground := Ground.phase }, { on := 11, ground := Ground.phase }, { on := 12, ground := Ground.phase }, { on := 13, ground := Ground.phase }, { on := 14, ground := Ground.phase }, { on := 15, ground := Ground.textOnly Departure.lateStores }, { on := 16, ground := Ground.textOnly Departure.lateStores }], guard := none }) (v := ?v17) rfl (by kernel_rfl) (by kernel_rfl) (by kernel_rfl) (fun _ _ _ h => h) (Or.inl ⟨by rfl, ?hy17⟩) (by assumption) ?rest17
        case hy17 => (intro w hSw; (try dsimp only at hSw); go_simp; first | done | with_reducible rfl)
        (try simp only [Act.put, List.setIfInBounds_toArray, List.set_cons_zero, List.set_cons_succ])
        refine wpAnyH_ready (rs := [18]) (by kernel_rfl) (by simp) ?_
        refine AllReadyH.cons (o := { dst := none, op := Op.store 9 (Operand.tmp 34) (Operand.tmp 31), type := 0, pos := "group.go:112", after := #[{ on := 17, ground := Ground.data }, { on := 14, ground := Ground.data }, { on := 12, ground := Ground.chain }, { on := 0, ground := Ground.phase }, { on := 1, ground := Ground.textOnly Departure.inlinedCapture }, { on := 2, ground := Ground.textOnly Departure.inlinedCapture }, { on := 3, ground := Ground.phase }, { on := 4, ground := Ground.phase }, { on := 5, ground := Ground.phase }, { on := 6, ground := Ground.phase }, { on := 7, ground := Ground.phase }, { on := 8, ground := Ground.phase }, { on := 9, ground := Ground.phase }, { on := 10, ground := Ground.phase }, { on := 11, ground := Ground.phase }, { on := 12, ground := Ground.phase }, { on := 13, ground := Ground.phase }, { on := 14, ground := Ground.phase }, { on := 15, ground := Ground.textOnly Departure.lateStores }, { on := 16, ground := Ground.textOnly Departure.lateStores }], guard := none }) rfl (fun K hK => ?_) AllReadyH.nil
        go_simp
        refine hK.out _ _ ?_ (fun hHeld => ?_)
        · exact keepP _ HA1.out HA2.out HA3.out hHeld
        clear hK K
        (try simp only [Act.put, List.setIfInBounds_toArray, List.set_cons_zero, List.set_cons_succ])
        refine wpAnyH_take (i := 19) (oi := { dst := some 35, op := Op.nilCheck (Operand.tmp 19), type := 0, pos := "group.go:112", after := #[{ on := 1, ground := Ground.data }, { on := 0, ground := Ground.phase }, { on := 1, ground := Ground.phase }, { on := 2, ground := Ground.textOnly Departure.inlinedCapture }, { on := 3, ground := Ground.phase }, { on := 4, ground := Ground.phase }, { on := 5, ground := Ground.phase }, { on := 6, ground := Ground.phase }, { on := 7, ground := Ground.phase }, { on := 8, ground := Ground.phase }, { on := 9, ground := Ground.phase }, { on := 10, ground := Ground.phase }, { on := 11, ground := Ground.phase }, { on := 12, ground := Ground.phase }, { on := 13, ground := Ground.phase }, { on := 14, ground := Ground.phase }, { on := 15, ground := Ground.phase }, { on := 16, ground := Ground.textOnly Departure.lateStores }, { on := 17, ground := Ground.phase }, { on := 18, ground := Ground.phase }], guard := none }) (v := ?v19) rfl (by kernel_rfl) (by kernel_rfl) (by kernel_rfl) (fun _ _ _ h => h) (Or.inl ⟨by rfl, ?hy19⟩) (by assumption) ?rest19
        case hy19 => (intro w hSw; (try dsimp only at hSw); go_simp; first | done | with_reducible rfl)
        (try simp only [Act.put, List.setIfInBounds_toArray, List.set_cons_zero, List.set_cons_succ])
        refine wpAnyH_take (i := 20) (oi := { dst := some 36, op := Op.fieldAddr 91 (Operand.tmp 35) 1, type := 0, pos := "group.go:112", after := #[{ on := 19, ground := Ground.data }, { on := 0, ground := Ground.phase }, { on := 1, ground := Ground.phase }, { on := 2, ground := Ground.textOnly Departure.inlinedCapture }, { on := 3, ground := Ground.phase }, { on := 4, ground := Ground.phase }, { on := 5, ground := Ground.phase }, { on := 6, ground := Ground.phase }, { on := 7, ground := Ground.phase }, { on := 8, ground := Ground.phase }, { on := 9, ground := Ground.phase }, { on := 10, ground := Ground.phase }, { on := 11, ground := Ground.phase }, { on := 12, ground := Ground.phase }, { on := 13, ground := Ground.phase }, { on := 14, ground := Ground.phase }, { on := 15, ground := Ground.phase }, { on := 16, ground := Ground.textOnly Departure.lateStores }, { on := 17, ground := Ground.phase }, { on := 18, ground := Ground.phase }], guard := none }) (v := ?v20) rfl (by kernel_rfl) (by kernel_rfl) (by kernel_rfl) (fun _ _ _ h => h) (Or.inl ⟨by rfl, ?hy20⟩) (by assumption) ?rest20
        case hy20 => (intro w hSw; (try dsimp only at hSw); go_simp; first | done | with_reducible rfl)
        (try simp only [Act.put, List.setIfInBounds_toArray, List.set_cons_zero, List.set_cons_succ])
        refine wpAnyH_ready (rs := [21]) (by kernel_rfl) (by simp) ?_
        refine AllReadyH.cons (o := { dst := none, op := Op.store 3 (Operand.tmp 36) (Operand.tmp 32), type := 0, pos := "group.go:112", after := #[{ on := 20, ground := Ground.data }, { on := 15, ground := Ground.data }, { on := 18, ground := Ground.chain }, { on := 0, ground := Ground.phase }, { on := 1, ground := Ground.phase }, { on := 2, ground := Ground.textOnly Departure.inlinedCapture }, { on := 3, ground := Ground.phase }, { on := 4, ground := Ground.phase }, { on := 5, ground := Ground.phase }, { on := 6, ground := Ground.phase }, { on := 7, ground := Ground.phase }, { on := 8, ground := Ground.phase }, { on := 9, ground := Ground.phase }, { on := 10, ground := Ground.phase }, { on := 11, ground := Ground.phase }, { on := 12, ground := Ground.phase }, { on := 13, ground := Ground.phase }, { on := 14, ground := Ground.phase }, { on := 15, ground := Ground.phase }, { on := 16, ground := Ground.textOnly Departure.lateStores }, { on := 17, ground := Ground.phase }, { on := 18, ground := Ground.phase }], guard := none }) rfl (fun K hK => ?_) AllReadyH.nil
        go_simp
        refine hK.out _ _ ?_ (fun hHeld => ?_)
        · exact keepP _ HA4.out HA5.out HA6.out hHeld
        clear hK K
        (try simp only [Act.put, List.setIfInBounds_toArray, List.set_cons_zero, List.set_cons_succ])
        refine wpAnyH_take (i := 22) (oi := { dst := some 37, op := Op.nilCheck (Operand.tmp 20), type := 0, pos := "group.go:112", after := #[{ on := 2, ground := Ground.data }, { on := 0, ground := Ground.phase }, { on := 1, ground := Ground.phase }, { on := 2, ground := Ground.phase }, { on := 3, ground := Ground.phase }, { on := 4, ground := Ground.phase }, { on := 5, ground := Ground.phase }, { on := 6, ground := Ground.phase }, { on := 7, ground := Ground.phase }, { on := 8, ground := Ground.phase }, { on := 9, ground := Ground.phase }, { on := 10, ground := Ground.phase }, { on := 11, ground := Ground.phase }, { on := 12, ground := Ground.phase }, { on := 13, ground := Ground.phase }, { on := 14, ground := Ground.phase }, { on := 15, ground := Ground.phase }, { on := 16, ground := Ground.phase }, { on := 17, ground := Ground.phase }, { on := 18, ground := Ground.phase }, { on := 19, ground := Ground.phase }, { on := 20, ground := Ground.phase }, { on := 21, ground := Ground.phase }], guard := none }) (v := ?v22) rfl (by kernel_rfl) (by kernel_rfl) (by kernel_rfl) (fun _ _ _ h => h) (Or.inl ⟨by rfl, ?hy22⟩) (by assumption) ?rest22
        case hy22 => (intro w hSw; (try dsimp only at hSw); go_simp; first | done | with_reducible rfl)
        (try simp only [Act.put, List.setIfInBounds_toArray, List.set_cons_zero, List.set_cons_succ])
        refine wpAnyH_take (i := 23) (oi := { dst := some 38, op := Op.fieldAddr 91 (Operand.tmp 37) 2, type := 0, pos := "group.go:112", after := #[{ on := 22, ground := Ground.data }, { on := 0, ground := Ground.phase }, { on := 1, ground := Ground.phase }, { on := 2, ground := Ground.phase }, { on := 3, ground := Ground.phase }, { on := 4, ground := Ground.phase }, { on := 5, ground := Ground.phase }, { on := 6, ground := Ground.phase }, { on := 7, ground := Ground.phase }, { on := 8, ground := Ground.phase }, { on := 9, ground := Ground.phase }, { on := 10, ground := Ground.phase }, { on := 11, ground := Ground.phase }, { on := 12, ground := Ground.phase }, { on := 13, ground := Ground.phase }, { on := 14, ground := Ground.phase }, { on := 15, ground := Ground.phase }, { on := 16, ground := Ground.phase }, { on := 17, ground := Ground.phase }, { on := 18, ground := Ground.phase }, { on := 19, ground := Ground.phase }, { on := 20, ground := Ground.phase }, { on := 21, ground := Ground.phase }], guard := none }) (v := ?v23) rfl (by kernel_rfl) (by kernel_rfl) (by kernel_rfl) (fun _ _ _ h => h) (Or.inl ⟨by rfl, ?hy23⟩) (by assumption) ?rest23
        case hy23 => (intro w hSw; (try dsimp only at hSw); go_simp; first | done | with_reducible rfl)
        (try simp only [Act.put, List.setIfInBounds_toArray, List.set_cons_zero, List.set_cons_succ])
        refine wpAnyH_ready (rs := [24]) (by kernel_rfl) (by simp) ?_
        refine AllReadyH.cons (o := { dst := none, op := Op.store 30 (Operand.tmp 38) (Operand.tmp 33), type := 0, pos := "group.go:112", after := #[{ on := 23, ground := Ground.data }, { on := 16, ground := Ground.data }, { on := 21, ground := Ground.chain }, { on := 0, ground := Ground.phase }, { on := 1, ground := Ground.phase }, { on := 2, ground := Ground.phase }, { on := 3, ground := Ground.phase }, { on := 4, ground := Ground.phase }, { on := 5, ground := Ground.phase }, { on := 6, ground := Ground.phase }, { on := 7, ground := Ground.phase }, { on := 8, ground := Ground.phase }, { on := 9, ground := Ground.phase }, { on := 10, ground := Ground.phase }, { on := 11, ground := Ground.phase }, { on := 12, ground := Ground.phase }, { on := 13, ground := Ground.phase }, { on := 14, ground := Ground.phase }, { on := 15, ground := Ground.phase }, { on := 16, ground := Ground.phase }, { on := 17, ground := Ground.phase }, { on := 18, ground := Ground.phase }, { on := 19, ground := Ground.phase }, { on := 20, ground := Ground.phase }, { on := 21, ground := Ground.phase }], guard := none }) rfl (fun K hK => ?_) AllReadyH.nil
        go_simp
        refine hK.out _ _ ?_ (fun hHeld => ?_)
        · exact keepP _ HA7.out HA8.out HA9.out hHeld
        clear hK K
        (try simp only [Act.put, List.setIfInBounds_toArray, List.set_cons_zero, List.set_cons_succ])
        refine wpAnyH_done (by kernel_rfl) ?_ _
        have HP6 := Lib.hid (HPUT.out w5 B5)
        clear d1 d2 f1 f2 ku kf hb5 B5 S0
        go_wp2_with fail
        go_roundw
        case rel => exact ⟨k + 1, rfl, by omega, HP6.out⟩
        case measure => simp [intOf]; omega
      · have e0 := ne_b (show ((p.2 : Nat) : Int) ≠ 0 by omega)
        have HST := Lib.hid (HR.out.stay k f wr HF.out HI.out (by rw [← HP.out]; exact h0))
        clear h0
        go_wp2_with fail
        go_roundw
        case rel => exact ⟨k + 1, rfl, by omega, HST.out⟩
        case measure => simp [intOf]; omega
    · have hk2 : k = fs.length := by omega
      have HE := Lib.hid (hk2 ▸ HI.out)
      clear hk2
      go_wp2_with fail
      go_end0
      exact ⟨rfl, HE.out⟩
end Grp
end Go.Proofs.Ythfbcfddfbipfaa
