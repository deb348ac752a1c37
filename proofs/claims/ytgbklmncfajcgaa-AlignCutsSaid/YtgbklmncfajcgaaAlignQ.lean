/- AlignCuts: its closure. -/
import Derived.Test.YtgbklmncfajcgaaAlignK
namespace Go.Proofs.Ytgbklmncfajcgaa
open Go.ChangeShapes Go.WideShapes Go.ChangeAt Go.RowKit
set_option linter.unusedVariables false
set_option maxRecDepth 8000
namespace Aln
open Gen (TellsB TellsI row_one flat_len flat_get Mine)
open Itm
/-- What the closure leaves. -/
def GivesCu (M N : Nat → Prop) (b : Bl) (K n g cP : Nat) (W : Option Addr) (cW : Nat) (ws : List Wd) (B : Nat) (rows pend' : List (List It)) (cut : Nat) (w : World) (e : Ending) (w' : World) : Prop :=
  e = .returned (.tuple #[]) ∧ ∃ (M' N' : Nat → Prop) (a : Al) (G : Option Addr) (cG : Nat) (H : Option Addr) (cH : Nat) (cut' : Nat) (hs : List Hd), CuAt M' N' b K n g cP W cW ws a G cG H cH cut' hs w' ∧ Inv B n rows a (hs.map (fun x => x.2.2)) cut' pend' ∧ cut ≤ cut' ∧ Mine M w w' ∧ (∀ k, M' k → M k ∨ w.heap.size ≤ k) ∧ (∀ k, N' k → N k ∨ w.heap.size ≤ k) ∧ (∀ k, N k → N' k)
theorem mine_new {M : Nat → Prop} {w w' : World} (hm : Mine M w w') {k : Nat} (h : M k ∨ w'.heap.size ≤ k) : M k ∨ w.heap.size ≤ k := h.imp id fun h => Nat.le_trans hm.size h
theorem Inv.short {B n : Nat} {rows : List (List It)} {a : Al} {passed : List (List It)} {cut : Nat} {pend : List (List It)} (h : Inv B n rows a passed cut pend) {k : Nat} {p : List It} (hp : passed[k]? = some p) : p.length ≤ 14 := by
  have hk : k < n := by rw [← h.lp]; exact (List.getElem?_eq_some_iff.1 hp).1
  obtain ⟨g, p2, l, q, r, b1, b2, b3, b4, b5, O⟩ := h.at_ hk
  rw [hp] at b2
  cases b2
  obtain ⟨done, _, c, hc, _, _, _, _, hl⟩ := O.run
  cases g
  · simp only [Bool.false_eq_true, if_false] at hc
    rw [hc, List.length_append] at hl; omega
  · simp only [if_true] at hc
    obtain ⟨_, _, hc⟩ := hc
    rw [hc, List.length_append] at hl; omega
theorem keep_set {w : World} {p q : Addr} {u : Value} (v : Value) (h : w.cell? p = some u) (hne : p.block ≠ q.block) : (w.setCell q v).cell? p = some u :=
  (Mine.set (M := (· = q.block)) w v rfl).cell h hne
/-- The cells that the closure's loads read. -/
structure SQ (bp b9 : Nat) (x : It) (v : Value) (w : World) : Prop where
  p : w.cell? ⟨bp, 0, none⟩ = some v
  l : Lies b9 (itC x) 42 w
theorem SQ.set {bp b9 g : Nat} {x : It} {v : Value} {w : World} (h : SQ bp b9 x v w) (h1 : bp ≠ g) (h2 : b9 ≠ g) (i : Nat) (u : Value) : SQ bp b9 x v (w.setCell ⟨g, i, none⟩ u) := ⟨keep_set u h.p h1, h.l.other h2 i u⟩
theorem hd_at {hs : List Hd} {k : Nat} {p : List It} (h : (hs.map (fun x => x.2.2))[k]? = some p) : ∃ A c, hs[k]? = some (A, c, p) := by
  rw [List.getElem?_map] at h
  cases e : hs[k]? with
  | none => rw [e] at h; cases h
  | some y =>
    rw [e] at h
    obtain ⟨A, c, s⟩ := y
    cases h
    exact ⟨A, c, rfl⟩
theorem want_at {ws : List Wd} {rows : List (List It)} (hw : ws.map (fun y => y.2.2.map (fun x => x.2.2)) = rows.map cutsR) {j : Nat} {r : List It} (hr : rows[j]? = some r) : ∃ y, ws[j]? = some y ∧ y.2.2.map (fun x => x.2.2) = cutsR r := by
  have h := congrArg (fun l => l[j]?) hw
  simp only [List.getElem?_map, hr, Option.map_some] at h
  cases e : ws[j]? with
  | none => rw [e] at h; cases h
  | some y => rw [e] at h; exact ⟨y, rfl, Option.some.inj h⟩
/-- What the comparison reads. -/
structure WqAt (b : Bl) (vP vW : Value) (c1 g j : Nat) (aw : Addr) (vY : Value) (az : Addr) (A1 A2 : Option Addr) (m k1 k2 : Nat) (l : List It) (w : World) : Prop where
  o : w.cell? ⟨b.o, 0, none⟩ = some (.bool true)
  c : w.cell? ⟨b.c, 0, none⟩ = some (.int .i64 c1)
  p : w.cell? ⟨b.p, 0, none⟩ = some vP
  wv : w.cell? ⟨b.w, 0, none⟩ = some vW
  y : w.cell? aw = some vY
  z : w.cell? az = some (.slice A2 m k2)
  g : w.cell? ⟨g, j, none⟩ = some (.slice A1 m k1)
  r1 : Row w A1 (itc l)
  r2 : Row w A2 (itc l)
theorem WqAt.next {b : Bl} {vP vW : Value} {c1 g j : Nat} {aw : Addr} {vY : Value} {az : Addr} {A1 A2 : Option Addr} {m k1 k2 : Nat} {l : List It} {w w' : World} (h : WqAt b vP vW c1 g j aw vY az A1 A2 m k1 k2 l w) (hb : Below w.heap.size w w') : WqAt b vP vW c1 g j aw vY az A1 A2 m k1 k2 l w' :=
  ⟨Gen.cell_below h.o hb, Gen.cell_below h.c hb, Gen.cell_below h.p hb, Gen.cell_below h.wv hb, Gen.cell_below h.y hb, Gen.cell_below h.z hb, Gen.cell_below h.g hb, h.r1.below hb, h.r2.below hb⟩
theorem LtM.turn {M M' : Nat → Prop} {w w' : World} {l : List Lt} {n : Nat} {L : Option Addr} {c : Nat} (h : LtM M w l n L c) (hm : Mine M w w') (hM : ∀ k, M' k → M k ∨ w.heap.size ≤ k) : LtM M' w' l n L c :=
  ⟨(h.mine hm).1, h.2.more h.1.row hM⟩
set_option maxRecDepth 100000 in
set_option maxHeartbeats 1000000 in
theorem lawOffer (b : Bl) (K n g cP B : Nat) (W : Option Addr) (cW : Nat) (ws : List Wd) (rows : List (List It)) (hB : B ≤ 2) (hw : ws.map (fun y => y.2.2.map (fun x => x.2.2)) = rows.map cutsR) (d : Nat) :
    ∀ (M N : Nat → Prop) (a : Al) (G : Option Addr) (cG : Nat) (H : Option Addr) (cH : Nat) (cut : Nat) (hs : List Hd) (w : World) (pend : List (List It)) (k : Nat) (x : It) (q : List It), B - cut ≤ d →
      CuAt M N b K n g cP W cW ws a G cG H cH cut hs w → Inv B n rows a (hs.map (fun x => x.2.2)) cut pend → k < n → pend[k]? = some (x :: q) →
      Calls Try.prog 22 #[.int .i64 k, itV x, ptr b.a, ptr b.o, ptr b.p, ptr b.c, ptr b.w, ptr b.f] w (GivesCu M N b K n g cP W cW ws B rows (pend.set k q) cut w) := by
  have HW := Lib.hid hw; have HB2 := Lib.hid hB
  clear hw hB
  induction d using Nat.strongRecOn with
  | _ d IH =>
  have HIH := Lib.hid IH
  clear IH
  intro M N a G cG H cH cut hs w pend k x q hd hc hinv hk hq
  have C := Lib.hid hc; have INV := Lib.hid hinv; have HK := Lib.hid hk; have HQ := Lib.hid hq; have HD := Lib.hid hd
  have ST := Lib.hid (step hinv hk hq)
  have HN8 : Hid (1 ≤ n ∧ n ≤ 8) := Lib.hid (by have h1 := hinv.ok.len; rw [hinv.ng] at h1; exact h1)
  have HML : Hid (∀ k, M k → k < w.heap.size) := Lib.hid fun k hk => hc.fx.lt k (hc.fx.sub k hk)
  clear hc hinv hk hq hd
  go_enter Try.func22, Try.ntmps22
  go_upto_region 1 with fail
  have hb0 := below_al (o := .cells (itC x) 42) (Below.refl w.heap.size w)
  have C1 := Lib.hid (C.out.next hb0)
  have M1 : Hid (Mine M w (w.alloc (.cells (itC x) 42))) := Lib.hid (Mine.up hb0)
  have LY := Lib.hid (Lies.new w (itC x) 42)
  obtain ⟨b9, hb9e⟩ : ∃ b, b = w.heap.size := ⟨_, rfl⟩
  obtain ⟨W1, hW1⟩ : ∃ W, W = w.alloc (.cells (itC x) 42) := ⟨_, rfl⟩
  have HB9 := Lib.hid hb9e
  rw [← hW1] at C1 M1 LY ⊢
  rw [← hb9e] at LY ⊢
  clear hW1 hb9e hb0 C
  have x0 := C1.out.la.cell (j := 0) rfl; have x1 := C1.out.la.cell (j := 1) rfl; have x2 := C1.out.la.cell (j := 2) rfl
  have y00 := LY.out.cell (j := 0) rfl; have y01 := LY.out.cell (j := 1) rfl; have y02 := LY.out.cell (j := 2) rfl; have y03 := LY.out.cell (j := 3) rfl; have y04 := LY.out.cell (j := 4) rfl; have y05 := LY.out.cell (j := 5) rfl; have y06 := LY.out.cell (j := 6) rfl; have y07 := LY.out.cell (j := 7) rfl; have y08 := LY.out.cell (j := 8) rfl; have y09 := LY.out.cell (j := 9) rfl; have y10 := LY.out.cell (j := 10) rfl
  have HOF := Lib.hid (ckOfferM C1.out.am C1.out.fx.lt (k : Int) x)
  have HOB := Lib.hid (offer_bounds a (k : Int) x 190).2.2.2
  obtain ⟨o, ho⟩ : ∃ o, o = offerA a (k : Int) x 190 := ⟨_, rfl⟩
  rw [← ho] at HOF ST HOB
  clear ho
  go_wp2_with fail
  refine HOF.out.mono ?_
  rintro e w2 ⟨n2, l2, G2, cG2, H2, cH2, L2, cL2, rfl, ha2, ht2, hb2⟩
  go_upto_region 2 with fail
  have hbx := below_al (o := .cells (alC o.a.n G2 n2 cG2 H2 n2 cH2) 25) (Below.refl w2.heap.size w2)
  have C3 := Lib.hid (C1.out.next (below_next hb2 hbx))
  have M3 : Hid (Mine M w (w2.alloc (.cells (alC o.a.n G2 n2 cG2 H2 n2 cH2) 25))) := Lib.hid (M1.out.trans (Mine.up (below_next hb2 hbx)))
  have A3 := Lib.hid (ha2.below hbx)
  have T3 := Lib.hid (ht2.below hbx)
  have LY3 := Lib.hid (LY.out.below (below_next hb2 hbx))
  have LN := Lib.hid (Lies.new w2 (alC o.a.n G2 n2 cG2 H2 n2 cH2) 25)
  obtain ⟨b10, hb10e⟩ : ∃ b, b = w2.heap.size := ⟨_, rfl⟩
  have HB10 : Hid (b9 < b10) := Lib.hid (by rw [hb10e]; exact Nat.lt_of_lt_of_le (lt_of_block LY.out) hb2.size)
  obtain ⟨W3, hW3⟩ : ∃ W, W = w2.alloc (.cells (alC o.a.n G2 n2 cG2 H2 n2 cH2) 25) := ⟨_, rfl⟩
  rw [← hW3] at C3 M3 A3 T3 LY3 LN ⊢
  rw [← hb10e] at LN ⊢
  clear hW3 hb10e hbx ha2 ht2 hb2 C1 M1 x0 x1 x2 HOF LY y00 y01 y02 y03 y04 y05 y06 y07 y08 y09 y10
  obtain ⟨oa, op, od, ol, oe⟩ := o
  simp only at A3 T3 LN
  have n0 := LN.out.cell (j := 0) rfl; have n1 := LN.out.cell (j := 1) rfl; have n2' := LN.out.cell (j := 2) rfl
  have z0 := C3.out.la.free 0; have z1 := C3.out.la.free 1; have z2 := C3.out.la.free 2
  have x0 := C3.out.la.cell (j := 0) rfl; have x1 := C3.out.la.cell (j := 1) rfl; have x2 := C3.out.la.cell (j := 2) rfl
  rcases ST.out with ⟨h, inv⟩ | ⟨p, hp, h, inv⟩ | ⟨h, hcB, each, inv⟩
  · simp only at h inv
    cases h
    have HN2 : n2 = n := by rw [A3.out.at_.len.1]; exact inv.ng
    subst HN2
    have I4 := Lib.hid inv
    clear inv ST
    go_upto_region 5 with fail
    have C4 := Lib.hid (C3.out.setA A3.out).1
    have M4 := Lib.hid (M3.out.trans (C3.out.setA A3.out).2)
    unfold set3A at C4 M4
    obtain ⟨W4, hW4⟩ : ∃ W, W = (((W3.setCell ⟨b.a, 0, none⟩ (.int .i64 oa.n)).setCell ⟨b.a, 1, none⟩ (.slice G2 n2 cG2)).setCell ⟨b.a, 2, none⟩ (.slice H2 n2 cH2)) := ⟨_, rfl⟩
    rw [← hW4] at C4 M4 ⊢
    clear hW4 n0 n1 n2' z0 z1 z2 x0 x1 x2 C3 M3 LY3 LN
    go_wp2_with fail
    go_end0
    exact ⟨rfl, M, N, oa, G2, cG2, H2, cH2, cut, hs, C4.out, I4.out, Nat.le_refl _, M4.out, fun k hk => .inl hk, fun k hk => .inl hk, fun k hk => hk⟩
  · simp only at h inv
    cases h
    have HN2 : n2 = n := by rw [A3.out.at_.len.1]; exact inv.ng
    subst HN2
    have I4 := Lib.hid inv
    have HP14 := Lib.hid (INV.out.short hp)
    obtain ⟨Ah, ch, hxj⟩ := hd_at hp
    clear inv ST hp
    go_upto_region 5 with fail
    have C4 := Lib.hid (C3.out.setA A3.out).1
    have M4 := Lib.hid (M3.out.trans (C3.out.setA A3.out).2)
    have LY4 := Lib.hid ((C3.out.setA A3.out).2.lies LY3.out fun hm => by have h1 := HML.out _ hm; have h2 := HB9.out; omega)
    unfold set3A at C4 M4 LY4
    obtain ⟨W4, hW4⟩ : ∃ W, W = (((W3.setCell ⟨b.a, 0, none⟩ (.int .i64 oa.n)).setCell ⟨b.a, 1, none⟩ (.slice G2 n2 cG2)).setCell ⟨b.a, 2, none⟩ (.slice H2 n2 cH2)) := ⟨_, rfl⟩
    rw [← hW4] at C4 M4 LY4 ⊢
    clear hW4 n0 n1 n2' z0 z1 z2 x0 x1 x2 C3 M3 LY3 LN A3
    obtain ⟨d0, _⟩ := outer_cell C4.out.ne.outer hxj
    have HXJ := Lib.hid hxj
    have OI := Lib.hid (C4.out.ne.each _ (List.mem_of_getElem? hxj))
    obtain ⟨m2, hm2⟩ : ∃ m2, m2 = p.length := ⟨_, rfl⟩
    have HM2 := Lib.hid hm2
    simp only [OwnI] at OI
    simp only [hv] at d0
    rw [← hm2] at d0 OI
    have HM14 : Hid (m2 ≤ 14) := Lib.hid (by rw [hm2]; exact HP14.out)
    obtain ⟨i0, hi0, hz0, hz1, hz2⟩ := Gen.info_of InfoI
    have HI0 := Lib.hid hi0; have HZ0 := Lib.hid hz0; have HZ1 := Lib.hid hz1; have HZ2 := Lib.hid hz2
    have hbA := below_drewOf (below_al (o := .cells (itC x) 42) (Below.refl W4.heap.size W4))
    have CA := Lib.hid (C4.out.next hbA)
    have OA := Lib.hid (own_upA OI.out hbA)
    have MA := Lib.hid (M4.out.trans (Mine.up hbA))
    have HKB : Hid (K ≤ (W4.alloc (.cells (itC x) 42)).drew.heap.size) := Lib.hid (by have h1 := CA.out.ne.outer.lt g rfl; omega)
    have HNEW : Hid (∀ j u, (itL x)[j]? = some u → (W4.alloc (.cells (itC x) 42)).drew.cell? ((⟨W4.heap.size, 0, none⟩ : Addr).add j) = some u) := Lib.hid (fun j u hu => by
      rw [Go.WideShapes.add_plain]
      refine Lies.cell (w := (W4.alloc (.cells (itC x) 42)).drew) (Lies.new W4 (itC x) 42) ?_
      rw [Nat.zero_add, ← hu]
      simp [itL])
    have hlt6 := lt_of_block LY4.out
    have hltg := (C4.out.ne.outer.lt g rfl).2
    have hltp := lt_of_block C4.out.fx.lp
    have p0 := C4.out.fx.lp.cell (j := 0) rfl
    have y00 := LY4.out.cell (j := 0) rfl; have y01 := LY4.out.cell (j := 1) rfl; have y02 := LY4.out.cell (j := 2) rfl; have y03 := LY4.out.cell (j := 3) rfl; have y04 := LY4.out.cell (j := 4) rfl; have y05 := LY4.out.cell (j := 5) rfl; have y06 := LY4.out.cell (j := 6) rfl; have y07 := LY4.out.cell (j := 7) rfl; have y08 := LY4.out.cell (j := 8) rfl; have y09 := LY4.out.cell (j := 9) rfl; have y10 := LY4.out.cell (j := 10) rfl
    have hk0 : (0 : Int) ≤ (k : Int) := by omega
    have hki : (k : Int) < (n2 : Int) := by have := HK.out; omega
    clear hxj hm2 hi0 hz0 hz1 hz2
    go_upto_region 6 with fail
    have HPG : Hid (b.p ≠ g) := Lib.hid (fun e => Gen.own_apart CA.out.ne.outer CA.out.fx.lp (by decide) (by rw [e]; rfl))
    have HBNM : Hid (¬ M b9) := Lib.hid (fun hm => by have h1 := HML.out _ hm; have h2 := HB9.out; omega)
    have LA := Lib.hid (LY4.out.below hbA)
    have HBG : Hid (b9 ≠ g) := Lib.hid (fun e => Gen.own_apart CA.out.ne.outer LA.out (by decide) (by rw [e]; rfl))
    have S0 : SQ b.p b9 x (.slice (some ⟨g, 0, none⟩) n2 cP) W4.drew := ⟨p0, LY4.out⟩
    have S1 : SQ b.p b9 x (.slice (some ⟨g, 0, none⟩) n2 cP) (W4.alloc (.cells (itC x) 42)).drew := ⟨CA.out.fx.lp.cell (j := 0) rfl, LA.out⟩
    refine wp_region_noPanic ?_
    refine wp_region_held_drew (S := SQ b.p b9 x (.slice (some ⟨g, 0, none⟩) n2 cP)) (by kernel_rfl) S0 (fun hHeld => ?_)
    refine @wpAnyH_take _ _ _ _ _ 0 { dst := some 32, op := Op.load 23 (Operand.tmp 4), type := 23, pos := "law.go:109", after := #[], guard := none } (.slice (some ⟨g, 0, none⟩) n2 cP) _ _ _ _ rfl (by kernel_rfl) (by kernel_rfl) (by kernel_rfl) (fun _ _ _ h => h) (Or.inl ⟨by rfl, ?y1⟩) (by assumption) ?_
    case y1 => (intro w9 hSw; have s0 := hSw.p; go_simp)
    (try simp only [Act.put, List.setIfInBounds_toArray, List.set_cons_zero, List.set_cons_succ])
    refine @wpAnyH_take _ _ _ _ _ 1 { dst := some 33, op := Op.move (Operand.tmp 0), type := 3, pos := "law.go:109", after := #[], guard := none } (.int .i64 (k : Int)) _ _ _ _ rfl (by kernel_rfl) (by kernel_rfl) (by kernel_rfl) (fun _ _ _ h => h) (Or.inl ⟨by rfl, ?y2⟩) (by assumption) ?_
    case y2 => (intro w9 hSw; go_simp)
    (try simp only [Act.put, List.setIfInBounds_toArray, List.set_cons_zero, List.set_cons_succ])
    refine @wpAnyH_take _ _ _ _ _ 2 { dst := some 34, op := Op.load 23 (Operand.tmp 4), type := 23, pos := "law.go:109", after := #[], guard := none } (.slice (some ⟨g, 0, none⟩) n2 cP) _ _ _ _ rfl (by kernel_rfl) (by kernel_rfl) (by kernel_rfl) (fun _ _ _ h => h) (Or.inl ⟨by rfl, ?y3⟩) (by assumption) ?_
    case y3 => (intro w9 hSw; have s0 := hSw.p; go_simp)
    (try simp only [Act.put, List.setIfInBounds_toArray, List.set_cons_zero, List.set_cons_succ])
    refine @wpAnyH_take _ _ _ _ _ 3 { dst := some 35, op := Op.move (Operand.tmp 0), type := 3, pos := "law.go:109", after := #[], guard := none } (.int .i64 (k : Int)) _ _ _ _ rfl (by kernel_rfl) (by kernel_rfl) (by kernel_rfl) (fun _ _ _ h => h) (Or.inl ⟨by rfl, ?y4⟩) (by assumption) ?_
    case y4 => (intro w9 hSw; go_simp)
    (try simp only [Act.put, List.setIfInBounds_toArray, List.set_cons_zero, List.set_cons_succ])
    refine @wpAnyH_take _ _ _ _ _ 4 { dst := some 36, op := Op.indexAddr 23 (Operand.tmp 34) (Operand.tmp 35), type := 0, pos := "law.go:109", after := #[{ on := 2, ground := Ground.data }, { on := 3, ground := Ground.data }], guard := none } (.pointer (some ⟨g, k, none⟩)) _ _ _ _ rfl (by kernel_rfl) (by kernel_rfl) (by kernel_rfl) (fun _ _ _ h => h) (Or.inl ⟨by rfl, ?y5⟩) (by assumption) ?_
    case y5 => (intro w9 hSw; go_simp)
    (try simp only [Act.put, List.setIfInBounds_toArray, List.set_cons_zero, List.set_cons_succ])
    refine @wpAnyH_take _ _ _ _ _ 6 { dst := some 38, op := Op.load 42 (Operand.tmp 9), type := 42, pos := "law.go:109", after := #[], guard := none } (itV x) _ _ _ _ rfl (by kernel_rfl) (by kernel_rfl) (by kernel_rfl) (fun _ _ _ h => h) (Or.inl ⟨by rfl, ?y6⟩) (by assumption) ?_
    case y6 => (intro w9 hSw; have s1 := hSw.l.cell (j := 0) rfl; have s2 := hSw.l.cell (j := 1) rfl; have s3 := hSw.l.cell (j := 2) rfl; have s4 := hSw.l.cell (j := 3) rfl; have s5 := hSw.l.cell (j := 4) rfl; have s6 := hSw.l.cell (j := 5) rfl; have s7 := hSw.l.cell (j := 6) rfl; have s8 := hSw.l.cell (j := 7) rfl; have s9 := hSw.l.cell (j := 8) rfl; have s10 := hSw.l.cell (j := 9) rfl; have s11 := hSw.l.cell (j := 10) rfl; go_simp)
    (try simp only [Act.put, List.setIfInBounds_toArray, List.set_cons_zero, List.set_cons_succ])
    refine wpAnyH_ready (rs := [5, 7]) (by kernel_rfl) (by simp) ?_
    refine AllReadyH.cons (o := { dst := some 37, op := Op.load 30 (Operand.tmp 36), type := 30, pos := "law.go:109", after := #[{ on := 4, ground := Ground.data }], guard := none }) rfl (fun KK hK => ?_) ?_
    · go_simp
      refine hK.out _ _ (S0) (fun hHeld => ?_)
      clear hK KK
      (try simp only [Act.put, List.setIfInBounds_toArray, List.set_cons_zero, List.set_cons_succ])
      refine wpAnyH_ready (rs := [7]) (by kernel_rfl) (by simp) ?_
      refine AllReadyH.cons (o := { dst := some 39, op := Op.buildSlice 30 1 #[(0, Operand.tmp 38)], type := 30, pos := "law.go:109", after := #[{ on := 6, ground := Ground.data }], guard := none }) rfl (fun KK hK => ?_) ?_
      · go_simp
        refine hK.out _ _ (S1) (fun hHeld => ?_)
        clear hK KK
        (try simp only [Act.put, List.setIfInBounds_toArray, List.set_cons_zero, List.set_cons_succ])
        refine wpAnyH_ready (rs := [8]) (by kernel_rfl) (by simp) ?_
        refine AllReadyH.cons (o := { dst := some 40, op := Op.call { callee := Callee.builtin Builtin.append, args := #[Operand.tmp 37, Operand.tmp 39], argTypes := #[30, 30] }, type := 30, pos := "law.go:109", after := #[{ on := 5, ground := Ground.data }, { on := 7, ground := Ground.data }], guard := none }) rfl (fun KK hK => ?_) ?_
        · refine Gen.step_append_own rfl (.tmp 37) (.tmp 39) 30 rfl K 42 i0 _ 11 104 Try.underlying30 HI0.out HZ0.out HZ1.out HZ2.out rfl (by omega) (.slice Ah m2 ch) m2 (itc p) (by simp [Act.eval]) OA.out ⟨W4.heap.size, 0, none⟩ 1 1 (itL x) (by simp [Act.eval]) rfl HNEW.out (fun u hu => onesI [x] u (by simpa [itc] using hu)) (by unfold maxLen; have := HM14.out; omega) (by have := HM14.out; omega) HKB.out ?_
          intro v' w' hown' hgrow hloc
          obtain ⟨A', c', rfl, _⟩ := own_form hown' (by omega)
          have HO' := Lib.hid hown'
          have HG' := Lib.hid hgrow
          have HLC := Lib.hid hloc
          have OUT' := Lib.hid (own_grownA CA.out.ne.outer hgrow (own_kindA CA.out.ne.outer OA.out (Ne.symm it_rows)))
          have PP' := Lib.hid (lies_grownA CA.out.fx.lp hgrow (fun e => Gen.own_apart OA.out CA.out.fx.lp (by decide) e))
          have LL' := Lib.hid (lies_grownA LA.out hgrow (fun e => HBNM.out (CA.out.me _ (List.mem_of_getElem? HXJ.out) b9 (by rw [HM2.out] at e; exact e))))
          have q1 := (outer_cell OUT'.out HXJ.out).1
          have f1 := (outer_cell OUT'.out HXJ.out).2
          have S5 : SQ b.p b9 x (.slice (some ⟨g, 0, none⟩) n2 cP) w' := ⟨PP'.out.cell (j := 0) rfl, LL'.out⟩
          clear hown' hgrow hloc
          refine hK.out _ _ (S5) (fun hHeld => ?_)
          clear hK KK
          (try simp only [Act.put, List.setIfInBounds_toArray, List.set_cons_zero, List.set_cons_succ])
          refine @wpAnyH_take _ _ _ _ _ 9 { dst := some 41, op := Op.indexAddr 23 (Operand.tmp 32) (Operand.tmp 33), type := 0, pos := "law.go:109", after := #[{ on := 0, ground := Ground.data }, { on := 1, ground := Ground.data }, { on := 0, ground := Ground.phase }, { on := 1, ground := Ground.phase }, { on := 2, ground := Ground.phase }, { on := 3, ground := Ground.phase }, { on := 4, ground := Ground.phase }, { on := 5, ground := Ground.phase }, { on := 6, ground := Ground.phase }, { on := 7, ground := Ground.phase }, { on := 8, ground := Ground.phase }], guard := none } (.pointer (some ⟨g, k, none⟩)) _ _ _ _ rfl (by kernel_rfl) (by kernel_rfl) (by kernel_rfl) (fun _ _ _ h => h) (Or.inl ⟨by rfl, ?y7⟩) (by assumption) ?_
          case y7 => (intro w9 hSw; go_simp)
          (try simp only [Act.put, List.setIfInBounds_toArray, List.set_cons_zero, List.set_cons_succ])
          refine wpAnyH_ready (rs := [10]) (by kernel_rfl) (by simp) ?_
          refine AllReadyH.cons (o := { dst := none, op := Op.store 30 (Operand.tmp 41) (Operand.tmp 40), type := 0, pos := "law.go:109", after := #[{ on := 9, ground := Ground.data }, { on := 8, ground := Ground.data }, { on := 8, ground := Ground.chain }, { on := 0, ground := Ground.phase }, { on := 1, ground := Ground.phase }, { on := 2, ground := Ground.phase }, { on := 3, ground := Ground.phase }, { on := 4, ground := Ground.phase }, { on := 5, ground := Ground.phase }, { on := 6, ground := Ground.phase }, { on := 7, ground := Ground.phase }, { on := 8, ground := Ground.phase }], guard := none }) rfl (fun KK hK => ?_) ?_
          · go_simp
            refine hK.out _ _ (S5.set HPG.out HBG.out _ _) (fun hHeld => ?_)
            clear hK KK
            (try simp only [Act.put, List.setIfInBounds_toArray, List.set_cons_zero, List.set_cons_succ])
            refine wpAnyH_done (by kernel_rfl) ?_ _
            refine NoPanic.normal ?_
            (try simp only [Act.put, List.setIfInBounds_toArray, List.set_cons_zero, List.set_cons_succ])
            have hm := HM2.out
            subst hm
            have e1 : (p ++ [x]).length = p.length + 1 := by simp
            have hy : OwnI w' K (A', c', p ++ [x]) := by
              unfold OwnI
              simp only
              rw [e1, appI, show itc [x] = itL x by simp [itc]]
              exact HO'.out
            have hl3 : (hv (A', c', p ++ [x])).ownBlock = (hv (Ah, ch, p)).ownBlock ∨ (hv (A', c', p ++ [x])).ownBlock = some (W4.alloc (.cells (itC x) 42)).drew.heap.size ∨ (hv (A', c', p ++ [x])).ownBlock = none := by
              simp only [hv]
              rw [e1]
              rcases HLC.out with h | h
              · exact .inl h
              · exact .inr (.inl h)
            obtain ⟨M', N', hcf, hmf, hmm, hnn, hnu⟩ := CA.out.grow HXJ.out HG'.out hy hl3
            have HNU := Lib.hid hnu
            have CF := Lib.hid hcf
            have MF := Lib.hid (MA.out.trans hmf)
            have HMM : Hid (∀ k, M' k → M k ∨ w.heap.size ≤ k) := Lib.hid fun k hk => mine_new MA.out (hmm k hk)
            have HNN : Hid (∀ k, N' k → N k ∨ w.heap.size ≤ k) := Lib.hid fun k hk => (hnn k hk).imp id fun h => Nat.le_trans MA.out.size h
            simp only [hv, e1] at CF MF
            have IF : Hid (Inv B n2 rows oa ((hs.set k (A', c', p ++ [x])).map (fun x => x.2.2)) cut (pend.set k q)) := Lib.hid (by
              rw [List.map_set]
              exact I4.out)
            clear hcf hmf hmm hnn hnu hy hl3 HG' HO' HLC OUT' PP' LL' q1 f1 S5 CA OA MA HNEW LA S0 S1 LY4 OI C4 M4 d0 p0 y00 y01 y02 y03 y04 y05 y06 y07 y08 y09 y10 hlt6 hltg hltp e1 HM14 HKB
            obtain ⟨W9, hW9⟩ : ∃ W, W = World.setCell w' ⟨g, k, none⟩ (.slice A' (p.length + 1) c') := ⟨_, rfl⟩
            rw [← hW9] at CF MF ⊢
            clear hW9
            go_wp2_with fail
            go_end0
            exact ⟨rfl, M', N', oa, G2, cG2, H2, cH2, cut, _, CF.out, IF.out, Nat.le_refl _, MF.out, HMM.out, HNN.out, HNU.out⟩
          exact AllReadyH.nil
        exact AllReadyH.nil
      exact AllReadyH.nil
    refine AllReadyH.cons (o := { dst := some 39, op := Op.buildSlice 30 1 #[(0, Operand.tmp 38)], type := 30, pos := "law.go:109", after := #[{ on := 6, ground := Ground.data }], guard := none }) rfl (fun KK hK => ?_) ?_
    · go_simp
      refine hK.out _ _ (S1) (fun hHeld => ?_)
      clear hK KK
      (try simp only [Act.put, List.setIfInBounds_toArray, List.set_cons_zero, List.set_cons_succ])
      refine wpAnyH_ready (rs := [5]) (by kernel_rfl) (by simp) ?_
      refine AllReadyH.cons (o := { dst := some 37, op := Op.load 30 (Operand.tmp 36), type := 30, pos := "law.go:109", after := #[{ on := 4, ground := Ground.data }], guard := none }) rfl (fun KK hK => ?_) ?_
      · go_simp
        refine hK.out _ _ (S1) (fun hHeld => ?_)
        clear hK KK
        (try simp only [Act.put, List.setIfInBounds_toArray, List.set_cons_zero, List.set_cons_succ])
        refine wpAnyH_ready (rs := [8]) (by kernel_rfl) (by simp) ?_
        refine AllReadyH.cons (o := { dst := some 40, op := Op.call { callee := Callee.builtin Builtin.append, args := #[Operand.tmp 37, Operand.tmp 39], argTypes := #[30, 30] }, type := 30, pos := "law.go:109", after := #[{ on := 5, ground := Ground.data }, { on := 7, ground := Ground.data }], guard := none }) rfl (fun KK hK => ?_) ?_
        · refine Gen.step_append_own rfl (.tmp 37) (.tmp 39) 30 rfl K 42 i0 _ 11 104 Try.underlying30 HI0.out HZ0.out HZ1.out HZ2.out rfl (by omega) (.slice Ah m2 ch) m2 (itc p) (by simp [Act.eval]) OA.out ⟨W4.heap.size, 0, none⟩ 1 1 (itL x) (by simp [Act.eval]) rfl HNEW.out (fun u hu => onesI [x] u (by simpa [itc] using hu)) (by unfold maxLen; have := HM14.out; omega) (by have := HM14.out; omega) HKB.out ?_
          intro v' w' hown' hgrow hloc
          obtain ⟨A', c', rfl, _⟩ := own_form hown' (by omega)
          have HO' := Lib.hid hown'
          have HG' := Lib.hid hgrow
          have HLC := Lib.hid hloc
          have OUT' := Lib.hid (own_grownA CA.out.ne.outer hgrow (own_kindA CA.out.ne.outer OA.out (Ne.symm it_rows)))
          have PP' := Lib.hid (lies_grownA CA.out.fx.lp hgrow (fun e => Gen.own_apart OA.out CA.out.fx.lp (by decide) e))
          have LL' := Lib.hid (lies_grownA LA.out hgrow (fun e => HBNM.out (CA.out.me _ (List.mem_of_getElem? HXJ.out) b9 (by rw [HM2.out] at e; exact e))))
          have q1 := (outer_cell OUT'.out HXJ.out).1
          have f1 := (outer_cell OUT'.out HXJ.out).2
          have S5 : SQ b.p b9 x (.slice (some ⟨g, 0, none⟩) n2 cP) w' := ⟨PP'.out.cell (j := 0) rfl, LL'.out⟩
          clear hown' hgrow hloc
          refine hK.out _ _ (S5) (fun hHeld => ?_)
          clear hK KK
          (try simp only [Act.put, List.setIfInBounds_toArray, List.set_cons_zero, List.set_cons_succ])
          refine @wpAnyH_take _ _ _ _ _ 9 { dst := some 41, op := Op.indexAddr 23 (Operand.tmp 32) (Operand.tmp 33), type := 0, pos := "law.go:109", after := #[{ on := 0, ground := Ground.data }, { on := 1, ground := Ground.data }, { on := 0, ground := Ground.phase }, { on := 1, ground := Ground.phase }, { on := 2, ground := Ground.phase }, { on := 3, ground := Ground.phase }, { on := 4, ground := Ground.phase }, { on := 5, ground := Ground.phase }, { on := 6, ground := Ground.phase }, { on := 7, ground := Ground.phase }, { on := 8, ground := Ground.phase }], guard := none } (.pointer (some ⟨g, k, none⟩)) _ _ _ _ rfl (by kernel_rfl) (by kernel_rfl) (by kernel_rfl) (fun _ _ _ h => h) (Or.inl ⟨by rfl, ?y8⟩) (by assumption) ?_
          case y8 => (intro w9 hSw; go_simp)
          (try simp only [Act.put, List.setIfInBounds_toArray, List.set_cons_zero, List.set_cons_succ])
          refine wpAnyH_ready (rs := [10]) (by kernel_rfl) (by simp) ?_
          refine AllReadyH.cons (o := { dst := none, op := Op.store 30 (Operand.tmp 41) (Operand.tmp 40), type := 0, pos := "law.go:109", after := #[{ on := 9, ground := Ground.data }, { on := 8, ground := Ground.data }, { on := 8, ground := Ground.chain }, { on := 0, ground := Ground.phase }, { on := 1, ground := Ground.phase }, { on := 2, ground := Ground.phase }, { on := 3, ground := Ground.phase }, { on := 4, ground := Ground.phase }, { on := 5, ground := Ground.phase }, { on := 6, ground := Ground.phase }, { on := 7, ground := Ground.phase }, { on := 8, ground := Ground.phase }], guard := none }) rfl (fun KK hK => ?_) ?_
          · go_simp
            refine hK.out _ _ (S5.set HPG.out HBG.out _ _) (fun hHeld => ?_)
            clear hK KK
            (try simp only [Act.put, List.setIfInBounds_toArray, List.set_cons_zero, List.set_cons_succ])
            refine wpAnyH_done (by kernel_rfl) ?_ _
            refine NoPanic.normal ?_
            (try simp only [Act.put, List.setIfInBounds_toArray, List.set_cons_zero, List.set_cons_succ])
            have hm := HM2.out
            subst hm
            have e1 : (p ++ [x]).length = p.length + 1 := by simp
            have hy : OwnI w' K (A', c', p ++ [x]) := by
              unfold OwnI
              simp only
              rw [e1, appI, show itc [x] = itL x by simp [itc]]
              exact HO'.out
            have hl3 : (hv (A', c', p ++ [x])).ownBlock = (hv (Ah, ch, p)).ownBlock ∨ (hv (A', c', p ++ [x])).ownBlock = some (W4.alloc (.cells (itC x) 42)).drew.heap.size ∨ (hv (A', c', p ++ [x])).ownBlock = none := by
              simp only [hv]
              rw [e1]
              rcases HLC.out with h | h
              · exact .inl h
              · exact .inr (.inl h)
            obtain ⟨M', N', hcf, hmf, hmm, hnn, hnu⟩ := CA.out.grow HXJ.out HG'.out hy hl3
            have HNU := Lib.hid hnu
            have CF := Lib.hid hcf
            have MF := Lib.hid (MA.out.trans hmf)
            have HMM : Hid (∀ k, M' k → M k ∨ w.heap.size ≤ k) := Lib.hid fun k hk => mine_new MA.out (hmm k hk)
            have HNN : Hid (∀ k, N' k → N k ∨ w.heap.size ≤ k) := Lib.hid fun k hk => (hnn k hk).imp id fun h => Nat.le_trans MA.out.size h
            simp only [hv, e1] at CF MF
            have IF : Hid (Inv B n2 rows oa ((hs.set k (A', c', p ++ [x])).map (fun x => x.2.2)) cut (pend.set k q)) := Lib.hid (by
              rw [List.map_set]
              exact I4.out)
            clear hcf hmf hmm hnn hnu hy hl3 HG' HO' HLC OUT' PP' LL' q1 f1 S5 CA OA MA HNEW LA S0 S1 LY4 OI C4 M4 d0 p0 y00 y01 y02 y03 y04 y05 y06 y07 y08 y09 y10 hlt6 hltg hltp e1 HM14 HKB
            obtain ⟨W9, hW9⟩ : ∃ W, W = World.setCell w' ⟨g, k, none⟩ (.slice A' (p.length + 1) c') := ⟨_, rfl⟩
            rw [← hW9] at CF MF ⊢
            clear hW9
            go_wp2_with fail
            go_end0
            exact ⟨rfl, M', N', oa, G2, cG2, H2, cH2, cut, _, CF.out, IF.out, Nat.le_refl _, MF.out, HMM.out, HNN.out, HNU.out⟩
          exact AllReadyH.nil
        exact AllReadyH.nil
      exact AllReadyH.nil
    exact AllReadyH.nil
  · cases h
    have HL136 : Hid (l2 ≤ 136) := Lib.hid (by rw [T3.out.1.ln]; exact HOB.out)
    have HN2 : n2 = n := by rw [A3.out.at_.len.1]; exact List.length_replicate
    subst HN2
    obtain ⟨c1, hc1⟩ : ∃ c1, c1 = cut + 1 := ⟨_, rfl⟩
    obtain ⟨la, hla⟩ : ∃ la, la = lateOf 0 a.held := ⟨_, rfl⟩
    rw [← hc1] at hcB inv ⊢
    rw [← hla] at T3
    have HC1 := Lib.hid hc1; have HCB := Lib.hid hcB; have EACH := Lib.hid each; have HINV := Lib.hid inv; have HLA := Lib.hid hla
    have g1 : ((c1 : Int) == 0) = false := ne_b (by omega)
    clear inv each ST hcB hc1 hla
    go_upto_region 5 with fail
    have C4 := Lib.hid (C3.out.setA A3.out).1
    have M4 := Lib.hid (M3.out.trans (C3.out.setA A3.out).2)
    have T4 := Lib.hid (T3.out.mine ((C3.out.setA A3.out).2.sub C3.out.fx.sub))
    unfold set3A at C4 M4 T4
    obtain ⟨W4, hW4⟩ : ∃ W, W = (((W3.setCell ⟨b.a, 0, none⟩ (.int .i64 (anew n2).n)).setCell ⟨b.a, 1, none⟩ (.slice G2 n2 cG2)).setCell ⟨b.a, 2, none⟩ (.slice H2 n2 cH2)) := ⟨_, rfl⟩
    rw [← hW4] at C4 M4 T4 ⊢
    clear hW4 n0 n1 n2' z0 z1 z2 x0 x1 x2 C3 M3 T3 LY3 LN A3
    have c0 := C4.out.lc.cell (j := 0) rfl
    have cz := C4.out.lc.free 0
    have hwc : IntKind.i64.wrap ((cut : Int) + 1) = (c1 : Int) := by rw [wrapA (by omega) (by have := HCB.out; have := HC1.out; have := HB2.out; omega), HC1.out]; omega
    go_upto_region 9 with fail
    have C5 := Lib.hid (C4.out.setC c1).1
    have M5 := Lib.hid (M4.out.trans (C4.out.setC c1).2)
    have T5 := Lib.hid (T4.out.mine ((C4.out.setC c1).2.sub C4.out.fx.sub))
    obtain ⟨W5, hW5⟩ : ∃ W, W = W4.setCell ⟨b.c, 0, none⟩ (.int .i64 (c1 : Int)) := ⟨_, rfl⟩
    rw [← hW5] at C5 M5 T5 ⊢
    clear hW5 C4 M4 T4 c0 cz
    have c0 := C5.out.lc.cell (j := 0) rfl
    have o0 := C5.out.lo.cell (j := 0) rfl
    have oz := C5.out.lo.free 0
    go_upto_region 10 with fail
    have C6 := Lib.hid (C5.out.setO).1
    have M6 := Lib.hid (M5.out.trans (C5.out.setO).2)
    have T6 := Lib.hid (T5.out.mine ((C5.out.setO).2.sub C5.out.fx.sub))
    obtain ⟨W6, hW6⟩ : ∃ W, W = W5.setCell ⟨b.o, 0, none⟩ (.bool true) := ⟨_, rfl⟩
    rw [← hW6] at C6 M6 T6 ⊢
    clear hW6 C5 M5 T5 c0 o0 oz
    have p0 := C6.out.fx.lp.cell (j := 0) rfl
    go_wp2_with fail
    go_loopw [54] (fun s54 wr => ∃ (j : Nat) (M' N' : Nat → Prop) (hsj : List Hd), s54 = .int .i64 j ∧ j ≤ n2 ∧ CuAt M' N' b K n2 g cP W cW ws (anew n2) G2 cG2 H2 cH2 c1 hsj wr ∧ (∀ i, i < j → hsj[i]? = some noHd) ∧ (∀ i, j ≤ i → hsj[i]? = hs[i]?) ∧ LtM N' wr la l2 L2 cL2 ∧ Mine M w wr ∧ (∀ k, M' k → M k ∨ w.heap.size ≤ k) ∧ (∀ k, N' k → N k ∨ w.heap.size ≤ k) ∧ (∀ k, N k → N' k)) (fun s54 _ => n2 - (intOf s54).toNat)
    case atStart => exact ⟨0, M, N, hs, rfl, Nat.zero_le _, C6.out, fun i hi => absurd hi (Nat.not_lt_zero _), fun i _ => rfl, T6.out, M6.out, fun k hk => .inl hk, fun k hk => .inl hk, fun k hk => hk⟩
    case round =>
      clear C6 M6 T6 p0
      obtain ⟨j, M', N', hsj, rfl, hj, hcu, hlo, hhi, hlt2, hmi, hmm, hnn, hnu⟩ := hrel
      have HNN := Lib.hid hnn; have HNU := Lib.hid hnu
      have C7 := Lib.hid hcu; have HLO := Lib.hid hlo; have HHI := Lib.hid hhi; have T7 := Lib.hid hlt2; have M7 := Lib.hid hmi; have HMM := Lib.hid hmm
      clear hcu hlo hhi hlt2 hmi hmm hnn hnu
      by_cases hlt : j < n2
      · obtain ⟨r, hr⟩ : ∃ r, rows[j]? = some r := ⟨_, List.getElem?_eq_getElem (by rw [INV.out.lr]; exact hlt)⟩
        obtain ⟨⟨Aj, cj, pj⟩, hx⟩ : ∃ x, hsj[j]? = some x := ⟨_, List.getElem?_eq_getElem (by rw [← C7.out.ne.len]; exact hlt)⟩
        have hx2 : hs[j]? = some (Aj, cj, pj) := by rw [← HHI.out j (Nat.le_refl _)]; exact hx
        have hp : (hs.map (fun x => x.2.2))[j]? = some pj := by rw [List.getElem?_map, hx2]; rfl
        have HP14 := Lib.hid (INV.out.short hp)
        obtain ⟨⟨Ay, cy, ly⟩, hy, hym⟩ := want_at HW.out hr
        simp only at hym
        have hz := EACH.out j pj r hp hr
        rw [← hym] at hz
        obtain ⟨Az, cz, hz⟩ := hd_at hz
        have hcl := (List.getElem?_eq_some_iff.1 hz).1
        obtain ⟨qw, ow, hW1, w1⟩ := wd_row C7.out.fx.wt.row hy
        have hye := C7.out.fx.wt.each _ (List.mem_of_getElem? hy)
        obtain ⟨qy, oy, hA1, w2⟩ := head_row hye.1.row hz
        have hrz := hye.1.each _ (List.mem_of_getElem? hz)
        simp only at w1 w2 hA1 hrz
        subst hW1 hA1
        obtain ⟨m, hm⟩ : ∃ m, m = pj.length := ⟨_, rfl⟩
        obtain ⟨yl, hyl⟩ : ∃ yl, yl = ly.length := ⟨_, rfl⟩
        have hg := outer_cell C7.out.ne.outer hx
        have hr1 := (own_rowI (C7.out.ne.each _ (List.mem_of_getElem? hx))).1
        simp only [hv] at hg hr1
        rw [← hm] at w2 hg
        rw [← hyl] at w1 hcl
        have HM := Lib.hid hm
        have HXJ := Lib.hid hx
        have HLK := Lib.hid (fun (w5 : World) (h1 : Row w5 Aj (itc pj)) (h2 : Row w5 Az (itc pj)) => rfLikeItems pj m hm (by rw [hm]; have := HP14.out; omega) Aj Az cj cz w5 h1 h2)
        have WQ : WqAt b (.slice (some ⟨g, 0, none⟩) n2 cP) (.slice (some ⟨qw, ow, none⟩) n2 cW) c1 g j ⟨qw, ow + j, none⟩ (.slice (some ⟨qy, oy, none⟩) yl cy) ⟨qy, oy + cut, none⟩ Aj Az m cj cz pj wr :=
          ⟨C7.out.lo.cell (j := 0) rfl, C7.out.lc.cell (j := 0) rfl, C7.out.fx.lp.cell (j := 0) rfl, C7.out.fx.lw.cell (j := 0) rfl, w1, w2, hg.1, hr1, hrz⟩
        have hji : (j : Int) < (n2 : Int) := by omega
        have hj0 : (0 : Int) ≤ (j : Int) := by omega
        have hcy : (cut : Int) < (yl : Int) := by omega
        have hc0 : (0 : Int) ≤ (cut : Int) := by omega
        have g2 : decide ((c1 : Int) ≤ (yl : Int)) = true := decide_eq_true (by have := HC1.out; omega)
        have g2n : decide (c1 ≤ yl) = true := decide_eq_true (by have := HC1.out; omega)
        have hwm : IntKind.i64.wrap ((c1 : Int) - 1) = (cut : Int) := by rw [wrapA (by have := HC1.out; omega) (by have := HC1.out; have := HCB.out; have := HB2.out; omega), HC1.out]; omega
        have hwj := wrapKA (k := j) (by have := HN8.out; omega)
        have HJN := Lib.hid hlt
        clear hr hx hx2 hp hy hym hz hcl w1 w2 hye hrz hm hyl hg hr1 hlt hj
        go_upto_region 13 with fail
        refine wide_tail 25 (fun w5 => WqAt b (.slice (some ⟨g, 0, none⟩) n2 cP) (.slice (some ⟨qw, ow, none⟩) n2 cW) c1 g j ⟨qw, ow + j, none⟩ (.slice (some ⟨qy, oy, none⟩) yl cy) ⟨qy, oy + cut, none⟩ Aj Az m cj cz pj w5 ∧ Below wr.heap.size wr w5) (by kernel_rfl) (by kernel_rfl) ⟨WQ.next (below_drewOf (Below.refl _ _)), below_drewOf (Below.refl _ _)⟩ ?_
        simp only [List.take_succ_cons, List.take_zero, List.drop_succ_cons, List.drop_zero]
        clear WQ
        repeat (first
        | go_big_quiet_skip
        | (go_big_quiet_want
           apply wide_op
           · (intro w5 h5; have x1 := h5.1.o; have x2 := h5.1.c; have x3 := h5.1.p; have x4 := h5.1.wv; have x5 := h5.1.y; have x6 := h5.1.z; have x7 := h5.1.g; go_simp; first | done | with_reducible rfl | (refine (HLK.out _ h5.1.r1 h5.1.r2).mono ?_; rintro e w6 ⟨rfl, hb6⟩; exact ⟨rfl, h5.1.next hb6, below_next h5.2 hb6⟩))
           (try simp only [Act.put, List.setIfInBounds_toArray, List.set_cons_zero, List.set_cons_succ])
           go_big_quiet_on))
        refine wpQuiet_nil ?_
        rintro w6 ⟨_, hb6⟩
        have C8 := Lib.hid (C7.out.next hb6)
        have M8 := Lib.hid (M7.out.trans (Mine.up hb6))
        have T8 := Lib.hid (T7.out.below hb6)
        clear C7 M7 T7 hb6
        have o0 := C8.out.lo.cell (j := 0) rfl
        have oz := C8.out.lo.free 0
        go_upto_region 14 with fail
        have C9 := Lib.hid (C8.out.setO).1
        have M9 := Lib.hid (M8.out.next HMM.out (C8.out.setO).2)
        have T9 := Lib.hid (T8.out.mine ((C8.out.setO).2.sub C8.out.fx.sub))
        obtain ⟨W9, hW9⟩ : ∃ W, W = w6.setCell ⟨b.o, 0, none⟩ (.bool true) := ⟨_, rfl⟩
        rw [← hW9] at C9 M9 T9 ⊢
        clear hW9 C8 M8 T8 o0 oz
        have p0 := C9.out.fx.lp.cell (j := 0) rfl
        obtain ⟨d0, df⟩ := outer_cell C9.out.ne.outer HXJ.out
        simp only [hv] at d0
        have hG := C9.out.grow (w1 := W9) (y := noHd) HXJ.out ⟨rfl, rfl, rfl, Nat.le_refl _, fun _ _ _ => rfl⟩ own_none (.inr (.inr rfl))
        have HG := Lib.hid hG
        have HSB := Lib.hid C9.out.fx.sub
        clear hG C9
        go_wp2_with fail
        go_roundw
        case rel =>
          obtain ⟨M2, N2, c10, m10, h10, k10, u10⟩ := HG.out
          refine ⟨j + 1, M2, N2, hsj.set j noHd, rfl, HJN.out, c10, fun i hi => ?_, fun i hi => ?_, T9.out.turn (m10.sub HSB.out) k10, M9.out.next HMM.out m10, fun k hk => (h10 k hk).elim (HMM.out k) fun h => .inr (Nat.le_trans M9.out.size h), fun k hk => (k10 k hk).elim (HNN.out k) fun h => .inr (Nat.le_trans M9.out.size h), fun k hk => u10 k (HNU.out k hk)⟩
          · by_cases e : i = j
            · subst e
              exact List.getElem?_set_self (List.getElem?_eq_some_iff.1 HXJ.out).1
            · rw [List.getElem?_set_ne (Ne.symm e)]
              exact HLO.out i (by omega)
          · rw [List.getElem?_set_ne (by omega)]
            exact HHI.out i (by omega)
        case measure => simp [intOf]; have := HJN.out; omega
      · have hki : ¬ (j : Int) < (n2 : Int) := by omega
        have HALL : Hid (hsj.map (fun x => x.2.2) = List.replicate n2 []) := Lib.hid (by
          have hl := C7.out.ne.len
          apply List.ext_getElem?
          intro i
          rw [List.getElem?_map]
          by_cases hi : i < n2
          · rw [HLO.out i (by omega), List.getElem?_replicate, if_pos hi]; rfl
          · rw [List.getElem?_eq_none (by omega), List.getElem?_replicate, if_neg hi]; rfl)
        have I7 : Hid (Inv B n2 rows (anew n2) (hsj.map (fun x => x.2.2)) c1 (pendL la (pend.set k q))) := Lib.hid (by
          have hpw := pendL_whole INV.out (pend.set k q) (by rw [List.length_set]; exact INV.out.lq)
          rw [HALL.out, HLA.out]
          exact HINV.out _ hpw.1 hpw.2)
        clear hlt hj HALL HINV HLO HHI
        go_wp2_with fail
        go_loopw [88] (fun s88 wr => ∃ (t : Nat) (M2 N2 : Nat → Prop) (a2 : Al) (G : Option Addr) (cG : Nat) (H : Option Addr) (cH : Nat) (cut2 : Nat) (hs2 : List Hd), s88 = .int .i64 t ∧ t ≤ l2 ∧ CuAt M2 N2 b K n2 g cP W cW ws a2 G cG H cH cut2 hs2 wr ∧ Inv B n2 rows a2 (hs2.map (fun x => x.2.2)) cut2 (pendL (la.drop t) (pend.set k q)) ∧ c1 ≤ cut2 ∧ LtM N2 wr la l2 L2 cL2 ∧ Mine M w wr ∧ (∀ k, M2 k → M k ∨ w.heap.size ≤ k) ∧ (∀ k, N2 k → N k ∨ w.heap.size ≤ k) ∧ (∀ k, N k → N2 k)) (fun s88 _ => l2 - (intOf s88).toNat)
        case atStart => exact ⟨0, M', N', anew n2, G2, cG2, H2, cH2, c1, hsj, rfl, Nat.zero_le _, C7.out, I7.out, Nat.le_refl _, T7.out, M7.out, HMM.out, HNN.out, HNU.out⟩
        case round =>
          clear C7 I7 T7 M7 HMM HNN HNU
          obtain ⟨t, M2, N2, a2, G, cG, H, cH, cut2, hs2, rfl, ht, hcu, hin, hcc, htt, hmi, hmm, hnn, hnu⟩ := hrel
          have HNN := Lib.hid hnn; have HNU := Lib.hid hnu
          have C8 := Lib.hid hcu; have I8 := Lib.hid hin; have HCC := Lib.hid hcc; have T8 := Lib.hid htt; have M8 := Lib.hid hmi; have HMM := Lib.hid hmm
          clear hcu hin hcc htt hmi hmm hnn hnu
          by_cases hlt : t < l2
          · have hty : t < la.length := by rw [← T8.out.1.ln]; exact hlt
            obtain ⟨y, hy⟩ : ∃ y, la[t]? = some y := ⟨_, List.getElem?_eq_getElem hty⟩
            obtain ⟨i, hi, hin⟩ := late_in INV.out (y := y) (by rw [← HLA.out]; exact List.mem_of_getElem? hy)
            obtain ⟨yi, z⟩ := y
            simp only at hi
            subst hi
            obtain ⟨qr, off, hL, e0⟩ := late_row T8.out.1.row hy
            subst hL
            have hdrop : la.drop t = ((i : Int), z) :: la.drop (t + 1) := by
              rw [List.drop_eq_getElem_cons hty]
              congr 1
              exact Option.some.inj ((List.getElem?_eq_getElem hty).symm.trans hy)
            obtain ⟨q2, hq2, hset⟩ := pendL_step (late := la.drop (t + 1)) (base := pend.set k q) (i := i) (y := z) (by rw [List.length_set, INV.out.lq]; exact hin)
            rw [← hdrop] at hq2 hset
            have hti : (t : Int) < (l2 : Int) := by omega
            have hw := wrapKA (k := t) (by have := HL136.out; omega)
            have HTL := Lib.hid hlt
            have HIN := Lib.hid hin; have HQ2 := Lib.hid hq2; have HSET := Lib.hid hset
            have e00 := e0 0 _ rfl; have e01 := e0 1 _ rfl; have e02 := e0 2 _ rfl; have e03 := e0 3 _ rfl; have e04 := e0 4 _ rfl; have e05 := e0 5 _ rfl; have e06 := e0 6 _ rfl; have e07 := e0 7 _ rfl; have e08 := e0 8 _ rfl; have e09 := e0 9 _ rfl; have e10 := e0 10 _ rfl; have e11 := e0 11 _ rfl
            rw [Nat.add_zero] at e00
            clear hy e0 hlt ht hdrop hq2 hset hin hty
            go_upto_region 19 with fail
            clear e00 e01 e02 e03 e04 e05 e06 e07 e08 e09 e10 e11
            have hb6 := below_al (o := .cells (ltC ((i : Int), z)) 58) (Below.refl wr.heap.size wr)
            have C9 := Lib.hid (C8.out.next hb6)
            have T9 := Lib.hid (T8.out.below hb6)
            have M9 := Lib.hid (M8.out.trans (Mine.up hb6))
            have LZ := Lib.hid (Lies.new wr (ltC ((i : Int), z)) 58)
            obtain ⟨b17, hb17⟩ : ∃ b, b = wr.heap.size := ⟨_, rfl⟩
            obtain ⟨W9, hW9⟩ : ∃ W, W = wr.alloc (.cells (ltC ((i : Int), z)) 58) := ⟨_, rfl⟩
            rw [← hW9] at C9 T9 M9 LZ ⊢
            rw [← hb17] at LZ ⊢
            clear hW9 hb17 hb6 C8 T8 M8
            have HC := Lib.hid (HIH.out (d - 1) (by have := HD.out; have := HC1.out; have := HCB.out; omega) M2 N2 a2 G cG H cH cut2 hs2 W9 _ i z q2 (by have := HD.out; have := HC1.out; have := HCC.out; omega) C9.out I8.out HIN.out HQ2.out)
            rw [HSET.out] at HC
            have o0 := C9.out.lo.cell (j := 0) rfl
            have f0 := C9.out.fx.lf.cell (j := 0) rfl
            have u00 := LZ.out.cell (j := 0) rfl; have u01 := LZ.out.cell (j := 1) rfl; have u02 := LZ.out.cell (j := 2) rfl; have u03 := LZ.out.cell (j := 3) rfl; have u04 := LZ.out.cell (j := 4) rfl; have u05 := LZ.out.cell (j := 5) rfl; have u06 := LZ.out.cell (j := 6) rfl; have u07 := LZ.out.cell (j := 7) rfl; have u08 := LZ.out.cell (j := 8) rfl; have u09 := LZ.out.cell (j := 9) rfl; have u10 := LZ.out.cell (j := 10) rfl; have u11 := LZ.out.cell (j := 11) rfl
            go_wp2_with fail
            refine HC.out.mono ?_
            rintro e w9 ⟨rfl, M3, N3, a3, G3, cG3, H3, cH3, cut3, hs3, hc9, hi9, hle, hm9, hmm9, hnn9, hnu9⟩
            have R9 : Hid (CuAt M3 N3 b K n2 g cP W cW ws a3 G3 cG3 H3 cH3 cut3 hs3 w9) := Lib.hid hc9
            have I9 := Lib.hid hi9
            have HLE := Lib.hid hle
            have T10 := Lib.hid (T9.out.turn (hm9.sub C9.out.fx.sub) hnn9)
            have M10 := Lib.hid (M9.out.next HMM.out hm9)
            have HMM3 : Hid (∀ k, M3 k → M k ∨ w.heap.size ≤ k) := Lib.hid fun k hk => (hmm9 k hk).elim (HMM.out k) fun h => .inr (Nat.le_trans M9.out.size h)
            have HNN3 : Hid (∀ k, N3 k → N k ∨ w.heap.size ≤ k) := Lib.hid fun k hk => (hnn9 k hk).elim (HNN.out k) fun h => .inr (Nat.le_trans M9.out.size h)
            have HNU3 : Hid (∀ k, N k → N3 k) := Lib.hid fun k hk => hnu9 k (HNU.out k hk)
            clear hc9 hi9 hle hm9 hmm9 hnn9 hnu9 C9 T9 M9 LZ HC o0 f0 u00 u01 u02 u03 u04 u05 u06 u07 u08 u09 u10 u11
            go_wp2_with fail
            go_roundw
            case rel => exact ⟨t + 1, M3, N3, a3, G3, cG3, H3, cH3, cut3, hs3, rfl, HTL.out, R9.out, I9.out, Nat.le_trans HCC.out HLE.out, T10.out, M10.out, HMM3.out, HNN3.out, HNU3.out⟩
            case measure => simp [intOf]; have := HTL.out; omega
          · have hti : ¬ (t : Int) < (l2 : Int) := by omega
            have IE : Hid (Inv B n2 rows a2 (hs2.map (fun x => x.2.2)) cut2 (pend.set k q)) := Lib.hid (by
              have h := I8.out
              rwa [List.drop_eq_nil_of_le (by rw [← T8.out.1.ln]; omega), pendL_nil] at h)
            clear hlt ht
            go_wp2_with fail
            go_end0
            exact ⟨rfl, M2, N2, a2, G, cG, H, cH, cut2, hs2, C8.out, IE.out, by have := HCC.out; have := HC1.out; omega, M8.out, HMM.out, HNN.out, HNU.out⟩
end Aln
end Go.Proofs.Ytgbklmncfajcgaa
