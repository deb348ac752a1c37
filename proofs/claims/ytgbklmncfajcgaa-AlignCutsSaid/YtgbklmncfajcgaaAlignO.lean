/- The reference's Offer. -/
import Derived.Test.YtgbklmncfajcgaaAlignB
namespace Go.Proofs.Ytgbklmncfajcgaa
open Go.ChangeShapes Go.WideShapes Go.ChangeAt Go.RowKit
set_option linter.unusedVariables false
set_option maxRecDepth 8000
namespace Aln
open Gen (TellsB row_one flat_len flat_get)
open Itm
theorem InfoT : (Try.prog.info? 58).map (fun i => (i.zero, i.size, i.bytes)) = some (some (.agg #[.int .i64 0, .int .i64 0, .string ⟨#[]⟩, .int .i64 0, .int .i64 0, .int .i64 0, .int .i64 0, .int .i64 0, .int .i64 0, .string ⟨#[]⟩, .int .i64 0, .int .i64 0]), 12, 112) := by kernel_rfl
theorem lenT (l : List Lt) : (ltc l).length = l.length * 12 := flat_len ltL ltL_len l
theorem appT (l m : List Lt) : ltc (l ++ m) = ltc l ++ ltc m := by simp [ltc]
theorem onesT (l : List Lt) : ∀ u ∈ ltc l, u.oneCell' = true := by
  intro u hu
  obtain ⟨p, _, hp⟩ := List.mem_flatMap.1 hu
  simp only [ltL, List.mem_cons, List.not_mem_nil, or_false] at hp
  rcases hp with rfl | rfl | rfl | rfl | rfl | rfl | rfl | rfl | rfl | rfl | rfl | rfl <;> rfl
theorem own_rowT {w : World} {B n c : Nat} {A : Option Addr} {l : List Lt} (h : w.ownsRow B 58 12 (.slice A n c) n (ltc l)) : Row w A (ltc l) ∧ n ≤ c ∧ n = l.length := by
  obtain ⟨A', c', e, h1, h2, h3, h4, _⟩ := own_form h (by omega)
  cases e
  rw [lenT] at h3
  exact ⟨h4, h1, by omega⟩
theorem wpPushT {ops : Array Oper} {rest : List Oper} {o : Oper} {a : Act} {Q : Exit → Act → World → Prop} {B k : Nat} {w : World} (hgd : o.guard = none) (s x : Operand)
    (ho : o.op = .call { callee := .builtin .append, args := #[s, x], argTypes := #[43, 43] }) (v : Value) (ms : List Lt) (hs : a.eval s = v) (hk : k = ms.length) (h : w.ownsRow B 58 12 v k (ltc ms)) (hB : B ≤ w.heap.size)
    (ad : Addr) (c : Nat) (y : Lt) (hx : a.eval x = .slice (some ad) 1 c) (hr : Row w (some ad) (ltc [y])) (hlen : k ≤ 1000000)
    (hK : ∀ v' w', w'.ownsRow B 58 12 v' (k + 1) (ltc (ms ++ [y])) → w.grownBy w' v.ownBlock → wpList Try.prog ops Q rest (a.put o.dst v') w') :
    wpList Try.prog ops Q (o :: rest) a w := by
  obtain ⟨i0, hi0, hz0, hz1, hz2⟩ := info_partsA InfoT
  have hcells : ∀ j u, (ltc [y])[j]? = some u → w.cell? (ad.add j) = some u := by
    rcases hr with hr | ⟨b, off, hr, hc⟩
    · have := lenT [y]; rw [hr] at this; simp at this
    · cases hr
      intro j u hu
      rw [Go.WideShapes.add_plain]
      exact hc j u hu
  refine wpList_append_own_at w hgd s x 43 ho B 58 i0 _ 12 112 Try.underlying43 hi0 hz0 hz1 hz2 rfl (by omega) v k (ltc ms) hs h ad 1 c (ltc [y]) hx (by rw [lenT]; rfl) hcells (onesT [y])
    (by unfold maxLen; omega) (by omega) hB ?_
  intro v' w' hown hg _ hat
  exact hK v' w' (by rw [appT]; exact hown) hg
theorem one_rowT (w : World) (p : Lt) : Row (w.alloc (.cells (ltC p) 58)) (some ⟨w.heap.size, 0, none⟩) (ltc [p]) := by
  refine .inr ⟨w.heap.size, 0, rfl, fun j u hu => ?_⟩
  rw [Nat.zero_add]
  exact (Lies.new w (ltC p) 58).cell (by simpa [ltc] using hu)
theorem lt_bool : (58 : TypeId) ≠ 4 := by decide
theorem lt_rows : (58 : TypeId) ≠ 30 := by decide
theorem lt_it : (58 : TypeId) ≠ 42 := by decide
abbrev anC (n : Int) (G : Option Addr) (ng cG : Nat) (H : Option Addr) (nh cH : Nat) (pass : Bool) (done : Int) (L : Option Addr) (nl cL : Nat) (e : Int) : Array Value := #[.int .i64 n, .slice G ng cG, .slice H nh cH, .bool pass, .int .i64 done, .slice L nl cL, .int .i64 e]
def set7A (w : World) (b : Nat) (v0 v1 v2 v3 v4 v5 v6 : Value) : World := ((((((w.setCell ⟨b, 0, none⟩ v0).setCell ⟨b, 1, none⟩ v1).setCell ⟨b, 2, none⟩ v2).setCell ⟨b, 3, none⟩ v3).setCell ⟨b, 4, none⟩ v4).setCell ⟨b, 5, none⟩ v5).setCell ⟨b, 6, none⟩ v6
theorem lies_set7A {w : World} {b : Nat} {u0 u1 u2 u3 u4 u5 u6 : Value} {T : TypeId} (h : Lies b #[u0, u1, u2, u3, u4, u5, u6] T w) (v0 v1 v2 v3 v4 v5 v6 : Value) : Lies b #[v0, v1, v2, v3, v4, v5, v6] T (set7A w b v0 v1 v2 v3 v4 v5 v6) := by
  have := ((((((h.set 0 v0).set 1 v1).set 2 v2).set 3 v3).set 4 v4).set 5 v5).set 6 v6
  unfold set7A
  simpa using this
theorem below_set7A {w0 w : World} {b : Nat} (h : Below w0.heap.size w0 w) (hb : w0.heap.size ≤ b) (v0 v1 v2 v3 v4 v5 v6 : Value) : Below w0.heap.size w0 (set7A w b v0 v1 v2 v3 v4 v5 v6) :=
  ((((((h.setCell (p := ⟨b, 0, none⟩) hb v0).setCell (p := ⟨b, 1, none⟩) hb v1).setCell (p := ⟨b, 2, none⟩) hb v2).setCell (p := ⟨b, 3, none⟩) hb v3).setCell (p := ⟨b, 4, none⟩) hb v4).setCell (p := ⟨b, 5, none⟩) hb v5).setCell (p := ⟨b, 6, none⟩) hb v6
theorem own_set7A {B size n b : Nat} {e : TypeId} {w : World} {u : Value} {cs : List Value} (h : w.ownsRow B e size u n cs) (hp : b < B) (v0 v1 v2 v3 v4 v5 v6 : Value) : (set7A w b v0 v1 v2 v3 v4 v5 v6).ownsRow B e size u n cs := by
  have hn : u.ownBlock ≠ some b := fun e => by have := (h.lt _ e).1; omega
  exact own_setA (own_setA (own_setA (own_setA (own_setA (own_setA (own_setA h ⟨b, 0, none⟩ hn v0) ⟨b, 1, none⟩ hn v1) ⟨b, 2, none⟩ hn v2) ⟨b, 3, none⟩ hn v3) ⟨b, 4, none⟩ hn v4) ⟨b, 5, none⟩ hn v5) ⟨b, 6, none⟩ hn v6
theorem OwnA.set7 {w : World} {B : Nat} {gs : List Bool} {hs : List Hd} {ng : Nat} {G : Option Addr} {cG : Nat} {H : Option Addr} {cH : Nat} (h : OwnA w B gs hs ng G cG H cH) {b : Nat} (hp : b < B) (v0 v1 v2 v3 v4 v5 v6 : Value) : OwnA (set7A w b v0 v1 v2 v3 v4 v5 v6) B gs hs ng G cG H cH :=
  ⟨own_set7A h.got hp _ _ _ _ _ _ _, own_set7A h.held hp _ _ _ _ _ _ _, fun x hx => own_set7A (h.each x hx) hp _ _ _ _ _ _ _⟩
/-- An answer. -/
def GivesAn (o : An) (ng nl : Nat) (w : World) (e : Ending) (w' : World) : Prop :=
  ∃ (G : Option Addr) (cG : Nat) (H : Option Addr) (cH : Nat) (hs : List Hd) (L : Option Addr) (cL : Nat), e = .returned (.agg (anC o.a.n G ng cG H ng cH o.pass o.done L nl cL o.e)) ∧
    Row w' G (gcs o.a.got) ∧ HAt w' H hs ∧ hs.map (fun x => x.2.2) = o.a.held ∧ ng ≤ cG ∧ ng ≤ cH ∧ (∀ x ∈ hs, x.2.2.length ≤ x.2.1) ∧ Row w' L (ltc o.late) ∧ nl ≤ cL ∧ Below w.heap.size w w'
theorem off_ret {w wF : World} {R ng nl : Nat} {o : An} {G : Option Addr} {cG : Nat} {H : Option Addr} {cH : Nat} {hs : List Hd} {L : Option Addr} {cL : Nat} {act : Act} (ht : act.tmps.getD 6 undef = .pointer (some ⟨R, 0, none⟩)) (hd : act.defers = [])
    (hL : Lies R (anC o.a.n G ng cG H ng cH o.pass o.done L nl cL o.e) 47 wF) (h1 : Row wF G (gcs o.a.got)) (h2 : HAt wF H hs) (h3 : hs.map (fun x => x.2.2) = o.a.held) (h4 : ng ≤ cG) (h5 : ng ≤ cH) (h6 : ∀ x ∈ hs, x.2.2.length ≤ x.2.1) (h7 : Row wF L (ltc o.late)) (h8 : nl ≤ cL) (hB : Below w.heap.size w wF) :
    bodyPost Try.prog Try.f18 (GivesAn o ng nl w) .ret act wF := by
  have c0 := hL.cell (j := 0) rfl
  have c1 := hL.cell (j := 1) rfl
  have c2 := hL.cell (j := 2) rfl
  have c3 := hL.cell (j := 3) rfl
  have c4 := hL.cell (j := 4) rfl
  have c5 := hL.cell (j := 5) rfl
  have c6 := hL.cell (j := 6) rfl
  refine bodyPost_ret (v := .agg (anC o.a.n G ng cG H ng cH o.pass o.done L nl cL o.e)) ?_ hd ⟨G, cG, H, cH, hs, L, cL, rfl, h1, h2, h3, h4, h5, h6, h7, h8, hB⟩
  have ht2 : act.tmps[6]?.getD undef = .pointer (some ⟨R, 0, none⟩) := by simpa using ht
  simp [results, Try.results18, go_sem, ht2, c0, c1, c2, c3, c4, c5, c6]
/-- The blocks of Offer. -/
structure OfAt (w0 : World) (C : Array Value) (i : It) (w : World) : Prop where
  arg : Lies w0.heap.size C 25 w
  it : Lies (w0.heap.size + 1) (itC i) 42 w
  res : Lies (w0.heap.size + 2) (anC 0 none 0 0 none 0 0 false 0 none 0 0 0) 47 w
  below : Below w0.heap.size w0 w
  size : w0.heap.size + 3 ≤ w.heap.size
theorem OfAt.next {w0 : World} {C : Array Value} {i : It} {a b : World} (h : OfAt w0 C i a) (hb : Below a.heap.size a b) : OfAt w0 C i b :=
  ⟨h.arg.below hb, h.it.below hb, h.res.below hb, below_next h.below hb, Nat.le_trans h.size hb.size⟩
/-- .. with the aligner behind, and what waited. -/
structure OlAt (w0 : World) (C : Array Value) (i : It) (b7 S : Nat) (o1 : Al) (hs1 : List Hd) (ng : Nat) (G : Option Addr) (cG : Nat) (H : Option Addr) (cH : Nat) (v : Value) (nl : Nat) (ls : List Lt) (w : World) : Prop where
  of : OfAt w0 C i w
  bx : Lies b7 (alC o1.n G ng cG H ng cH) 25 w
  own : OwnA w (w0.heap.size + 3) o1.got hs1 ng G cG H cH
  late : w.ownsRow S 58 12 v nl (ltc ls)
  lo : w0.heap.size + 3 ≤ b7
  hi : b7 < S
  size : S ≤ w.heap.size
theorem OlAt.next {w0 : World} {C : Array Value} {i : It} {b7 S : Nat} {o1 : Al} {hs1 : List Hd} {ng : Nat} {G : Option Addr} {cG : Nat} {H : Option Addr} {cH : Nat} {v : Value} {nl : Nat} {ls : List Lt} {a b : World} (h : OlAt w0 C i b7 S o1 hs1 ng G cG H cH v nl ls a) (hb : Below a.heap.size a b) : OlAt w0 C i b7 S o1 hs1 ng G cG H cH v nl ls b :=
  ⟨h.of.next hb, h.bx.below hb, h.own.next hb, own_upA h.late hb, h.lo, h.hi, Nat.le_trans h.size hb.size⟩
theorem OlAt.push {w0 : World} {C : Array Value} {i : It} {b7 S : Nat} {o1 : Al} {hs1 : List Hd} {ng : Nat} {G : Option Addr} {cG : Nat} {H : Option Addr} {cH : Nat} {v v' : Value} {nl : Nat} {ls : List Lt} {y : Lt} {a b : World} (h : OlAt w0 C i b7 S o1 hs1 ng G cG H cH v nl ls a) (hg : a.grownBy b v.ownBlock) (ho : b.ownsRow S 58 12 v' (nl + 1) (ltc (ls ++ [y]))) : OlAt w0 C i b7 S o1 hs1 ng G cG H cH v' (nl + 1) (ls ++ [y]) b := by
  have hf : ∀ q, v.ownBlock = some q → S ≤ q := fun q hq => (h.late.lt q hq).1
  have ne : ∀ k, k < S → v.ownBlock ≠ some k := fun k hk e => by have := hf _ e; omega
  have l1 := h.lo
  have l2 := h.hi
  have l3 := h.of.size
  exact ⟨⟨lies_grownA h.of.arg hg (ne _ (by omega)), lies_grownA h.of.it hg (ne _ (by omega)), lies_grownA h.of.res hg (ne _ (by omega)), h.of.below.grown hg (by have := h.size; omega) fun q hq => by have := hf q hq; omega, Nat.le_trans l3 hg.size⟩,
    lies_grownA h.bx hg (ne _ l2), ⟨own_grownA h.own.got hg (own_kindA h.own.got h.late (Ne.symm lt_bool)), own_grownA h.own.held hg (own_kindA h.own.held h.late (Ne.symm lt_rows)), fun x hx => own_grownA (h.own.each x hx) hg (own_kindA (h.own.each x hx) h.late (Ne.symm lt_it))⟩, ho, h.lo, h.hi, Nat.le_trans h.size hg.size⟩
theorem late_app : ∀ (l : List (List It)) (k : Nat) (m : List It), lateOf k (l ++ [m]) = lateOf k l ++ m.map (fun x => (((k + l.length : Nat) : Int), x))
  | [], k, m => by simp [lateOf]
  | a :: r, k, m => by
    rw [List.cons_append, lateOf, lateOf, late_app r (k + 1) m, List.append_assoc, List.length_cons, show k + 1 + r.length = k + (r.length + 1) by omega]
theorem late_take {l : List (List It)} {k : Nat} {m : List It} (h : l[k]? = some m) : lateOf 0 (l.take (k + 1)) = lateOf 0 (l.take k) ++ m.map (fun x => ((k : Int), x)) := by
  have hk := (List.getElem?_eq_some_iff.1 h).1
  rw [List.take_add_one, h]
  show lateOf 0 (l.take k ++ [m]) = _
  rw [late_app, List.length_take, Nat.min_eq_left (by omega), Nat.zero_add]
theorem late_len : ∀ (l : List (List It)) (k c : Nat), (∀ m ∈ l, m.length ≤ c) → (lateOf k l).length ≤ l.length * c
  | [], k, c, _ => by simp [lateOf]
  | a :: r, k, c, h => by
    have ih := late_len r (k + 1) c fun m hm => h m (List.mem_cons_of_mem _ hm)
    have h0 := h a (by simp)
    rw [lateOf, List.length_append, List.length_map, List.length_cons, Nat.add_mul]
    omega
set_option maxRecDepth 100000 in
set_option maxHeartbeats 4000000 in
theorem rfOffer (a : Al) (hs : List Hd) (hh : hs.map (fun x => x.2.2) = a.held) (ng nh : Nat) (hng : ng = a.got.length) (hnh : nh = a.held.length) (input : Int) (i : It) (o : An) (ho : o = offerA a input i 190) (p q : Nat) (hp : p = o.a.got.length) (hq : q = o.late.length) (G : Option Addr) (cG : Nat) (H : Option Addr) (cH : Nat) (w : World) (hG : Row w G (gcs a.got)) (hH : HAt w H hs) (hcG : ng ≤ cG) (hcH : nh ≤ cH) (hcap : ∀ x ∈ hs, x.2.2.length ≤ x.2.1) :
    Calls Try.prog 18 #[alV a.n G ng cG H nh cH, .int .i64 input, itV i] w (GivesAn o p q w) := by
  obtain ⟨r, hr⟩ : ∃ r, r = rightA a := ⟨_, rfl⟩
  obtain ⟨ri, hri⟩ : ∃ r, r = right i := ⟨_, rfl⟩
  have HRT := Lib.hid (fun w' (hb : Below w.heap.size w w') => rfRightA a hs hh ng nh hng hnh r hr G cG H cH w' (hG.below hb) (hH.below hb))
  have HRI := Lib.hid (fun w' => rfRight i w')
  rw [← hri] at HRI
  have HNW := Lib.hid (fun n o ho ng hng w => rfNewO n o ho ng hng w)
  have HBH := Lib.hid (fun j (h1 : nh = ng) (h2 : j < ng) (h3 : ng ≤ 8) (h4 : ∀ x ∈ hs, x.2.2.length ≤ 16) o ho w' (hb : Below w.heap.size w w') => rfBehind a hs hh ng nh j hng h1 hnh h2 h3 h4 i o ho G cG H cH w' (hG.below hb) (hH.below hb))
  have HO := Lib.hid ho
  have HP := Lib.hid hp
  have HQ := Lib.hid hq
  have HNG := Lib.hid hng
  have HNH := Lib.hid hnh
  have HHS := Lib.hid hh
  have HG0 := Lib.hid hG
  have HH0 := Lib.hid hH
  have HCG := Lib.hid hcG
  have HCH := Lib.hid hcH
  have HCAP := Lib.hid hcap
  have HOK : Hid (r = true → OkA a) := Lib.hid (fun h => (ok_iff a).1 (hr.symm.trans h))
  have HBAD : Hid ((r = false ∨ input < 0 ∨ (ng : Int) ≤ input ∨ ri = false) → o = ⟨zA, false, 0, [], 1⟩) := Lib.hid (fun h => by rw [ho]; exact if_pos (by rw [← hr, ← hri, ← hng]; exact h))
  have HGOOD : Hid (r = true → ∀ (j : Nat), input = (j : Int) → j < ng → ri = true → o = if a.got[j]? = some true then
    if (a.held[j]?.getD []).length = 16 then ⟨zA, false, 0, [], 3⟩ else ⟨behindA a j i, false, 0, [], 0⟩
  else if i.k ≠ 4 then ⟨a, true, 0, [], 0⟩
  else if a.n ≠ 0 ∧ a.n ≠ i.n then ⟨zA, false, 0, [], 190⟩
  else if (behindA a j i).got.all id = true then ⟨anew a.got.length, false, i.n, lateOf 0 (behindA a j i).held, 0⟩
  else ⟨behindA a j i, false, 0, [], 0⟩) := Lib.hid (fun h j e hj hi => by
    subst e
    rw [ho]
    unfold offerA
    rw [if_neg (by rw [← hr, ← hri, h, hi]; simp; omega), show ((j : Int)).toNat = j by omega])
  have OF : Hid (OfAt w (alC a.n G ng cG H nh cH) i (((w.alloc (.cells (alC a.n G ng cG H nh cH) 25)).alloc (.cells (itC i) 42)).alloc (.cells (anC 0 none 0 0 none 0 0 false 0 none 0 0 0) 47))) := Lib.hid
    ⟨((Lies.new w _ _).al).al, (Gen.lies_new1 w _ _ _).al, Gen.lies_new2 w _ _ _ _, below_al (below_al (below_al (Below.refl _ _))), by simp⟩
  clear hh hng hnh ho hp hq hG hH hr hri hcG hcH hcap
  go_enter Try.func18, Try.ntmps18
  go_upto_region 1 with fail
  obtain ⟨W, hW⟩ : ∃ W, W = ((w.alloc (.cells (alC a.n G ng cG H nh cH) 25)).alloc (.cells (itC i) 42)).alloc (.cells (anC 0 none 0 0 none 0 0 false 0 none 0 0 0) 47) := ⟨_, rfl⟩
  rw [← hW] at OF ⊢
  clear hW
  have x0 := OF.out.arg.cell (j := 0) rfl; have x1 := OF.out.arg.cell (j := 1) rfl; have x2 := OF.out.arg.cell (j := 2) rfl
  go_wp2_with fail
  refine (HRT.out _ OF.out.below).mono ?_
  rintro e w1 ⟨rfl, hb1⟩
  have OF1 := Lib.hid (OF.out.next hb1)
  clear hb1 x0 x1 x2 OF HRT
  cases r
  · have e1 : o = ⟨zA, false, 0, [], 1⟩ := HBAD.out (.inl rfl)
    clear HBAD HGOOD HOK
    have hp1 : p = 0 := by rw [HP.out, e1]; rfl
    have hq1 : q = 0 := by rw [HQ.out, e1]; rfl
    subst e1
    subst hp1 hq1
    clear HP HQ
    have y0 := OF1.out.res.cell (j := 0) rfl; have y1 := OF1.out.res.cell (j := 1) rfl; have y2 := OF1.out.res.cell (j := 2) rfl; have y3 := OF1.out.res.cell (j := 3) rfl; have y4 := OF1.out.res.cell (j := 4) rfl; have y5 := OF1.out.res.cell (j := 5) rfl; have y6 := OF1.out.res.cell (j := 6) rfl
    have z0 := OF1.out.res.free 0; have z1 := OF1.out.res.free 1; have z2 := OF1.out.res.free 2; have z3 := OF1.out.res.free 3; have z4 := OF1.out.res.free 4; have z5 := OF1.out.res.free 5; have z6 := OF1.out.res.free 6
    go_wp2_with fail
    refine off_ret (o := ⟨zA, false, 0, [], 1⟩) (R := w.heap.size + 2) (hs := []) ?_ ?_ (lies_set7A OF1.out.res (.int .i64 0) (.slice none 0 0) (.slice none 0 0) (.bool false) (.int .i64 0) (.slice none 0 0) (.int .i64 1)) (.inl rfl) ⟨.inl rfl, fun x hx => by cases hx⟩ rfl (Nat.le_refl _) (Nat.le_refl _) (fun x hx => by cases hx) (.inl rfl) (Nat.le_refl _) (below_set7A OF1.out.below (by omega) _ _ _ _ _ _ _) <;> rfl
  · have HOKA := Lib.hid (HOK.out (by trivial))
    have HGD := Lib.hid (HGOOD.out (by trivial))
    clear HOK HGOOD
    by_cases hi0 : input < 0
    · have g1 : decide (input < 0) = true := decide_eq_true hi0
      have e1 : o = ⟨zA, false, 0, [], 1⟩ := HBAD.out (.inr (.inl hi0))
      clear HBAD hi0
      have hp1 : p = 0 := by rw [HP.out, e1]; rfl
      have hq1 : q = 0 := by rw [HQ.out, e1]; rfl
      subst e1
      subst hp1 hq1
      clear HP HQ
      have y0 := OF1.out.res.cell (j := 0) rfl; have y1 := OF1.out.res.cell (j := 1) rfl; have y2 := OF1.out.res.cell (j := 2) rfl; have y3 := OF1.out.res.cell (j := 3) rfl; have y4 := OF1.out.res.cell (j := 4) rfl; have y5 := OF1.out.res.cell (j := 5) rfl; have y6 := OF1.out.res.cell (j := 6) rfl
      have z0 := OF1.out.res.free 0; have z1 := OF1.out.res.free 1; have z2 := OF1.out.res.free 2; have z3 := OF1.out.res.free 3; have z4 := OF1.out.res.free 4; have z5 := OF1.out.res.free 5; have z6 := OF1.out.res.free 6
      go_wp2_with fail
      refine off_ret (o := ⟨zA, false, 0, [], 1⟩) (R := w.heap.size + 2) (hs := []) ?_ ?_ (lies_set7A OF1.out.res (.int .i64 0) (.slice none 0 0) (.slice none 0 0) (.bool false) (.int .i64 0) (.slice none 0 0) (.int .i64 1)) (.inl rfl) ⟨.inl rfl, fun x hx => by cases hx⟩ rfl (Nat.le_refl _) (Nat.le_refl _) (fun x hx => by cases hx) (.inl rfl) (Nat.le_refl _) (below_set7A OF1.out.below (by omega) _ _ _ _ _ _ _) <;> rfl
    · have g1 : decide (input < 0) = false := decide_eq_false hi0
      have x1 := OF1.out.arg.cell (j := 1) rfl
      by_cases hi1 : (ng : Int) ≤ input
      · have g2 : decide ((ng : Int) ≤ input) = true := decide_eq_true hi1
        have e1 : o = ⟨zA, false, 0, [], 1⟩ := HBAD.out (.inr (.inr (.inl hi1)))
        clear HBAD hi1 hi0
        have hp1 : p = 0 := by rw [HP.out, e1]; rfl
        have hq1 : q = 0 := by rw [HQ.out, e1]; rfl
        subst e1
        subst hp1 hq1
        clear HP HQ
        have y0 := OF1.out.res.cell (j := 0) rfl; have y1 := OF1.out.res.cell (j := 1) rfl; have y2 := OF1.out.res.cell (j := 2) rfl; have y3 := OF1.out.res.cell (j := 3) rfl; have y4 := OF1.out.res.cell (j := 4) rfl; have y5 := OF1.out.res.cell (j := 5) rfl; have y6 := OF1.out.res.cell (j := 6) rfl
        have z0 := OF1.out.res.free 0; have z1 := OF1.out.res.free 1; have z2 := OF1.out.res.free 2; have z3 := OF1.out.res.free 3; have z4 := OF1.out.res.free 4; have z5 := OF1.out.res.free 5; have z6 := OF1.out.res.free 6
        go_wp2_with fail
        refine off_ret (o := ⟨zA, false, 0, [], 1⟩) (R := w.heap.size + 2) (hs := []) ?_ ?_ (lies_set7A OF1.out.res (.int .i64 0) (.slice none 0 0) (.slice none 0 0) (.bool false) (.int .i64 0) (.slice none 0 0) (.int .i64 1)) (.inl rfl) ⟨.inl rfl, fun x hx => by cases hx⟩ rfl (Nat.le_refl _) (Nat.le_refl _) (fun x hx => by cases hx) (.inl rfl) (Nat.le_refl _) (below_set7A OF1.out.below (by omega) _ _ _ _ _ _ _) <;> rfl
      · have g2 : decide ((ng : Int) ≤ input) = false := decide_eq_false hi1
        obtain ⟨j, hj⟩ : ∃ j : Nat, input = (j : Int) := ⟨input.toNat, by omega⟩
        subst hj
        have HJ : Hid (j < ng) := Lib.hid (by omega)
        have i00 := OF1.out.it.cell (j := 0) rfl; have i01 := OF1.out.it.cell (j := 1) rfl; have i02 := OF1.out.it.cell (j := 2) rfl; have i03 := OF1.out.it.cell (j := 3) rfl; have i04 := OF1.out.it.cell (j := 4) rfl; have i05 := OF1.out.it.cell (j := 5) rfl; have i06 := OF1.out.it.cell (j := 6) rfl; have i07 := OF1.out.it.cell (j := 7) rfl; have i08 := OF1.out.it.cell (j := 8) rfl; have i09 := OF1.out.it.cell (j := 9) rfl; have i10 := OF1.out.it.cell (j := 10) rfl
        clear hi0 hi1
        go_wp2_with fail
        refine (HRI.out _).mono ?_
        rintro e w2 ⟨rfl, hb2⟩
        have OF2 := Lib.hid (OF1.out.next hb2)
        clear hb2 x1 i00 i01 i02 i03 i04 i05 i06 i07 i08 i09 i10 OF1 HRI
        cases ri
        · have e1 : o = ⟨zA, false, 0, [], 1⟩ := HBAD.out (.inr (.inr (.inr rfl)))
          clear HBAD HGD
          have hp1 : p = 0 := by rw [HP.out, e1]; rfl
          have hq1 : q = 0 := by rw [HQ.out, e1]; rfl
          subst e1
          subst hp1 hq1
          clear HP HQ
          have y0 := OF2.out.res.cell (j := 0) rfl; have y1 := OF2.out.res.cell (j := 1) rfl; have y2 := OF2.out.res.cell (j := 2) rfl; have y3 := OF2.out.res.cell (j := 3) rfl; have y4 := OF2.out.res.cell (j := 4) rfl; have y5 := OF2.out.res.cell (j := 5) rfl; have y6 := OF2.out.res.cell (j := 6) rfl
          have z0 := OF2.out.res.free 0; have z1 := OF2.out.res.free 1; have z2 := OF2.out.res.free 2; have z3 := OF2.out.res.free 3; have z4 := OF2.out.res.free 4; have z5 := OF2.out.res.free 5; have z6 := OF2.out.res.free 6
          go_wp2_with fail
          refine off_ret (o := ⟨zA, false, 0, [], 1⟩) (R := w.heap.size + 2) (hs := []) ?_ ?_ (lies_set7A OF2.out.res (.int .i64 0) (.slice none 0 0) (.slice none 0 0) (.bool false) (.int .i64 0) (.slice none 0 0) (.int .i64 1)) (.inl rfl) ⟨.inl rfl, fun x hx => by cases hx⟩ rfl (Nat.le_refl _) (Nat.le_refl _) (fun x hx => by cases hx) (.inl rfl) (Nat.le_refl _) (below_set7A OF2.out.below (by omega) _ _ _ _ _ _ _) <;> rfl
        · have HGE := Lib.hid (HGD.out j rfl HJ.out (by trivial))
          have HNHG : Hid (nh = ng) := Lib.hid (by rw [HNH.out, HNG.out]; exact HOKA.out.hl)
          have H8 : Hid (1 ≤ ng ∧ ng ≤ 8) := Lib.hid (by rw [HNG.out]; exact HOKA.out.len)
          have HHL : Hid (hs.length = ng) := Lib.hid (by have := congrArg List.length HHS.out; rw [List.length_map] at this; rw [this, ← HNH.out, HNHG.out])
          have H16 : Hid (∀ x ∈ hs, x.2.2.length ≤ 16) := Lib.hid (fun x hx => by
            obtain ⟨k, hk⟩ := List.getElem?_of_mem hx
            have hkl := (List.getElem?_eq_some_iff.1 hk).1
            obtain ⟨g, hg⟩ : ∃ g, a.got[k]? = some g := ⟨_, List.getElem?_eq_getElem (by rw [← HNG.out, ← HHL.out]; exact hkl)⟩
            exact (slot_iff.1 (HOKA.out.slot k g x.2.2 hg (by rw [← HHS.out, List.getElem?_map, hk]; rfl))).2.1)
          obtain ⟨g, hg⟩ : ∃ g, a.got[j]? = some g := ⟨_, List.getElem?_eq_getElem (by rw [← HNG.out]; exact HJ.out)⟩
          obtain ⟨⟨A, c, l⟩, hx⟩ : ∃ x, hs[j]? = some x := ⟨_, List.getElem?_eq_getElem (by rw [HHL.out]; exact HJ.out)⟩
          obtain ⟨qb, off, hG1, c0⟩ := got_row (HG0.out.below OF2.out.below) hg
          subst hG1
          have HGK := Lib.hid hg
          have HXK := Lib.hid hx
          have HLK : Hid (a.held[j]? = some l) := Lib.hid (by rw [← HHS.out, List.getElem?_map, hx]; rfl)
          have hjI : (j : Int) < (ng : Int) := by have := HJ.out; omega
          have x1 := OF2.out.arg.cell (j := 1) rfl
          clear HBAD HGD hg hx g1 g2
          cases g
          · have HNT : Hid (¬ a.got[j]? = some true) := Lib.hid (by rw [HGK.out]; simp)
            have i00 := OF2.out.it.cell (j := 0) rfl
            by_cases hk4 : i.k = 4
            · have g3 : (i.k != 4) = false := nb0 hk4
              have HK4 := Lib.hid hk4
              have HGF : Hid (o = if a.n ≠ 0 ∧ a.n ≠ i.n then ⟨zA, false, 0, [], 190⟩ else if (behindA a j i).got.all id = true then ⟨anew a.got.length, false, i.n, lateOf 0 (behindA a j i).held, 0⟩ else ⟨behindA a j i, false, 0, [], 0⟩) := Lib.hid (by rw [HGE.out, if_neg HNT.out, if_neg (by simpa using hk4)])
              have x0 := OF2.out.arg.cell (j := 0) rfl
              have i05 := OF2.out.it.cell (j := 5) rfl
              clear HGE hk4
              have hway : (((a.n != 0) = true ∧ (a.n != i.n) = true) ∧ o = ⟨zA, false, 0, [], 190⟩) ∨ (((a.n != 0) = false ∨ ((a.n != 0) = true ∧ (a.n != i.n) = false)) ∧ o = if (behindA a j i).got.all id = true then ⟨anew a.got.length, false, i.n, lateOf 0 (behindA a j i).held, 0⟩ else ⟨behindA a j i, false, 0, [], 0⟩) := by
                rw [HGF.out]
                by_cases h1 : a.n = 0
                · right; exact ⟨.inl (nb0 h1), by rw [if_neg (by simp [h1])]⟩
                · by_cases h2 : a.n = i.n
                  · right; exact ⟨.inr ⟨nb h1, nb0 h2⟩, by rw [if_neg (by simp [h2])]⟩
                  · left; exact ⟨⟨nb h1, nb h2⟩, by rw [if_pos ⟨h1, h2⟩]⟩
              clear HGF
              rcases hway with ⟨⟨g4, g5⟩, e1⟩ | ⟨hor, hog⟩
              · have hp1 : p = 0 := by rw [HP.out, e1]; rfl
                have hq1 : q = 0 := by rw [HQ.out, e1]; rfl
                subst e1
                subst hp1 hq1
                clear HP HQ
                have y0 := OF2.out.res.cell (j := 0) rfl; have y1 := OF2.out.res.cell (j := 1) rfl; have y2 := OF2.out.res.cell (j := 2) rfl; have y3 := OF2.out.res.cell (j := 3) rfl; have y4 := OF2.out.res.cell (j := 4) rfl; have y5 := OF2.out.res.cell (j := 5) rfl; have y6 := OF2.out.res.cell (j := 6) rfl
                have z0 := OF2.out.res.free 0; have z1 := OF2.out.res.free 1; have z2 := OF2.out.res.free 2; have z3 := OF2.out.res.free 3; have z4 := OF2.out.res.free 4; have z5 := OF2.out.res.free 5; have z6 := OF2.out.res.free 6
                go_wp2_with fail
                refine off_ret (o := ⟨zA, false, 0, [], 190⟩) (R := w.heap.size + 2) (hs := []) ?_ ?_ (lies_set7A OF2.out.res (.int .i64 0) (.slice none 0 0) (.slice none 0 0) (.bool false) (.int .i64 0) (.slice none 0 0) (.int .i64 190)) (.inl rfl) ⟨.inl rfl, fun x hx => by cases hx⟩ rfl (Nat.le_refl _) (Nat.le_refl _) (fun x hx => by cases hx) (.inl rfl) (Nat.le_refl _) (below_set7A OF2.out.below (by omega) _ _ _ _ _ _ _) <;> rfl
              · have HOG := Lib.hid hog
                have HCL := Lib.hid (fun w' hb => HBH.out j HNHG.out HJ.out H8.out.2 H16.out (behindA a j i) rfl w' hb)
                have x2 := OF2.out.arg.cell (j := 2) rfl
                have i01 := OF2.out.it.cell (j := 1) rfl; have i02 := OF2.out.it.cell (j := 2) rfl; have i03 := OF2.out.it.cell (j := 3) rfl; have i04 := OF2.out.it.cell (j := 4) rfl; have i06 := OF2.out.it.cell (j := 6) rfl; have i07 := OF2.out.it.cell (j := 7) rfl; have i08 := OF2.out.it.cell (j := 8) rfl; have i09 := OF2.out.it.cell (j := 9) rfl; have i10 := OF2.out.it.cell (j := 10) rfl
                clear hog
                rcases hor with g4 | ⟨g4, g5⟩
                all_goals (
                  go_wp2_with fail
                  refine (HCL.out _ OF2.out.below).mono ?_
                  rintro e w3 ⟨G3, cG3, H3, cH3, hs3, rfl, hown, hmap, hb3⟩
                  have OF3 := Lib.hid (OF2.out.next hb3)
                  have ON3 := Lib.hid (hown.base (show w.heap.size + 3 ≤ _ from OF2.out.size))
                  have HMP := Lib.hid hmap
                  have HSZ3 := Lib.hid (show w.heap.size + 3 ≤ w3.heap.size from OF3.out.size)
                  clear hown hmap hb3 x0 x1 x2 c0 i00 i01 i02 i03 i04 i05 i06 i07 i08 i09 i10 OF2 HCL
                  go_upto_region 13 with fail
                  have hb4 := below_al (o := .cells (alC (behindA a j i).n G3 ng cG3 H3 ng cH3) 25) (Below.refl w3.heap.size w3)
                  have OL0 : Hid (OlAt w (alC a.n (some ⟨qb, off, none⟩) ng cG H nh cH) i w3.heap.size (w3.heap.size + 1) (behindA a j i) hs3 ng G3 cG3 H3 cH3 (.slice (some ⟨w3.heap.size + 1, 0, none⟩) 0 0) 0 [] ((w3.alloc (.cells (alC (behindA a j i).n G3 ng cG3 H3 ng cH3) 25)).alloc (.cells #[] 58))) := Lib.hid (by
                    have h1 := OF3.out.next hb4
                    have hb5 := below_al (o := .cells #[] 58) (Below.refl (w3.alloc (.cells (alC (behindA a j i).n G3 ng cG3 H3 ng cH3) 25)).heap.size (w3.alloc (.cells (alC (behindA a j i).n G3 ng cG3 H3 ng cH3) 25)))
                    have h2 := own_new (w := w3.alloc (.cells (alC (behindA a j i).n G3 ng cG3 H3 ng cH3) 25)) (B := w3.heap.size + 1) (size := 12) (e := 58) (by simp)
                    exact ⟨h1.next hb5, (Lies.new w3 _ _).al, (ON3.out.next hb4).next hb5, by simpa using h2, HSZ3.out, Nat.lt_succ_self _, by simp⟩)
                  obtain ⟨b7, hb7⟩ : ∃ b, b = w3.heap.size := ⟨_, rfl⟩
                  obtain ⟨v5, hv5⟩ : ∃ v, v = Value.slice (some ⟨w3.heap.size + 1, 0, none⟩) 0 0 := ⟨_, rfl⟩
                  obtain ⟨W5, hW5⟩ : ∃ W, W = (w3.alloc (.cells (alC (behindA a j i).n G3 ng cG3 H3 ng cH3) 25)).alloc (.cells #[] 58) := ⟨_, rfl⟩
                  rw [← hW5, ← hv5] at OL0
                  rw [← hW5]
                  rw [← hv5]
                  rw [← hb7] at OL0 ⊢
                  clear hW5 hv5 hb7 hb4 ON3 OF3
                  have x1 := OL0.out.bx.cell (j := 1) rfl
                  go_wp2_with fail
                  clear x1
                  obtain ⟨o1, ho1⟩ : ∃ o1, o1 = behindA a j i := ⟨_, rfl⟩
                  rw [← ho1] at OL0 HMP HOG
                  have HO1 := Lib.hid ho1
                  have HL16 : Hid (∀ m ∈ o1.held, m.length ≤ 17) := Lib.hid (fun m hm => by
                    rw [ho1] at hm
                    unfold behindA at hm
                    simp only [HGK.out] at hm
                    rw [if_neg (by simp)] at hm
                    rw [← HHS.out] at hm
                    obtain ⟨x, hx, rfl⟩ := List.mem_map.1 hm
                    have := H16.out x hx
                    omega)
                  have HHL3 : Hid (hs3.length = ng) := Lib.hid OL0.out.own.rows.2.2.2.2.2.2.symm
                  have HGL3 : Hid (ng = o1.got.length) := Lib.hid OL0.out.own.rows.2.2.2.2.2.1
                  clear ho1
                  go_loopw [8, 77] (fun s8 s77 wr => ∃ (k nl : Nat) (v : Value) (ls : List Lt), s8 = v ∧ s77 = .int .i64 k ∧ k ≤ ng ∧ (∀ t, t < k → o1.got[t]? = some true) ∧ ls = lateOf 0 (o1.held.take k) ∧ nl = ls.length ∧ OlAt w (alC a.n (some ⟨qb, off, none⟩) ng cG H nh cH) i b7 (b7 + 1) o1 hs3 ng G3 cG3 H3 cH3 v nl ls wr) (fun _ s77 _ => ng - (intOf s77).toNat)
                  case atStart => exact ⟨0, 0, _, [], rfl, rfl, Nat.zero_le _, fun t ht => by omega, rfl, rfl, OL0.out⟩
                  case round =>
                    clear OL0
                    obtain ⟨k, nl, v, ls, hv, rfl, hk, hall, hls, hnl, hat⟩ := hrel
                    have hv2 := hv.symm
                    clear hv
                    subst hv2
                    have AT := Lib.hid hat
                    have HALL := Lib.hid hall
                    have HLS := Lib.hid hls
                    have HNL := Lib.hid hnl
                    clear hat hall hls hnl
                    by_cases hlt : k < ng
                    · obtain ⟨g, hg⟩ : ∃ g, o1.got[k]? = some g := ⟨_, List.getElem?_eq_getElem (by rw [← HGL3.out]; exact hlt)⟩
                      obtain ⟨⟨A3, c3, l3⟩, hx⟩ : ∃ x, hs3[k]? = some x := ⟨_, List.getElem?_eq_getElem (by rw [HHL3.out]; exact hlt)⟩
                      obtain ⟨qg, offg, hG1, c0⟩ := got_row AT.out.own.rows.1 hg
                      obtain ⟨qh, offh, hH1, d0⟩ := head_row AT.out.own.rows.2.1.row hx
                      subst hG1 hH1
                      have HGK3 := Lib.hid hg
                      have HLK3 : Hid (o1.held[k]? = some l3) := Lib.hid (by rw [← HMP.out, List.getElem?_map, hx]; rfl)
                      have HROW := Lib.hid (AT.out.own.rows.2.1.each _ (List.mem_of_getElem? hx))
                      have hki : (k : Int) < (ng : Int) := by omega
                      have hw := wrapKA (k := k) (by have := H8.out; omega)
                      have HKM := Lib.hid hlt
                      simp only at d0 HROW
                      obtain ⟨m, hm⟩ : ∃ m, m = l3.length := ⟨_, rfl⟩
                      rw [← hm] at d0
                      have HML := Lib.hid hm
                      have HXMEM := Lib.hid (List.mem_of_getElem? hx)
                      have HM17 : Hid (m ≤ 17) := Lib.hid (by rw [hm]; exact HL16.out l3 (List.mem_of_getElem? HLK3.out))
                      clear hg hx hlt hk hm
                      cases g
                      · have hne : ¬ o1.got.all id = true := fun h => by
                          have := List.all_eq_true.1 h false (List.mem_of_getElem? HGK3.out)
                          cases this
                        have e1 : o = ⟨o1, false, 0, [], 0⟩ := by rw [HOG.out, if_neg hne]
                        have hp1 : p = ng := by rw [HP.out, e1]; exact HGL3.out.symm
                        have hq1 : q = 0 := by rw [HQ.out, e1]; rfl
                        subst e1
                        subst hp1 hq1
                        clear hne HOG HP HQ d0
                        have OS := Lib.hid (AT.out.own.set7 (show w.heap.size + 2 < w.heap.size + 3 by omega) (.int .i64 o1.n) (.slice (some ⟨qg, offg, none⟩) p cG3) (.slice (some ⟨qh, offh, none⟩) p cH3) (.bool false) (.int .i64 0) (.slice none 0 0) (.int .i64 0)).rows
                        have LS := Lib.hid (lies_set7A AT.out.of.res (.int .i64 o1.n) (.slice (some ⟨qg, offg, none⟩) p cG3) (.slice (some ⟨qh, offh, none⟩) p cH3) (.bool false) (.int .i64 0) (.slice none 0 0) (.int .i64 0))
                        have BS := Lib.hid (below_set7A AT.out.of.below (show w.heap.size ≤ w.heap.size + 2 by omega) (.int .i64 o1.n) (.slice (some ⟨qg, offg, none⟩) p cG3) (.slice (some ⟨qh, offh, none⟩) p cH3) (.bool false) (.int .i64 0) (.slice none 0 0) (.int .i64 0))
                        have u0 := AT.out.bx.cell (j := 0) rfl; have u1 := AT.out.bx.cell (j := 1) rfl; have u2 := AT.out.bx.cell (j := 2) rfl
                        have y0 := AT.out.of.res.cell (j := 0) rfl; have y1 := AT.out.of.res.cell (j := 1) rfl; have y2 := AT.out.of.res.cell (j := 2) rfl; have y3 := AT.out.of.res.cell (j := 3) rfl; have y4 := AT.out.of.res.cell (j := 4) rfl; have y5 := AT.out.of.res.cell (j := 5) rfl; have y6 := AT.out.of.res.cell (j := 6) rfl
                        have z0 := AT.out.of.res.free 0; have z1 := AT.out.of.res.free 1; have z2 := AT.out.of.res.free 2; have z3 := AT.out.of.res.free 3; have z4 := AT.out.of.res.free 4; have z5 := AT.out.of.res.free 5; have z6 := AT.out.of.res.free 6
                        go_wp2_with fail
                        refine off_ret (o := ⟨o1, false, 0, [], 0⟩) (R := w.heap.size + 2) (hs := hs3) ?_ ?_ LS.out OS.out.1 OS.out.2.1 HMP.out OS.out.2.2.1 OS.out.2.2.2.1 OS.out.2.2.2.2.1 (.inl rfl) (Nat.le_refl _) BS.out <;> rfl
                      · have x2 := AT.out.bx.cell (j := 2) rfl
                        have HNL200 : Hid (nl ≤ 200) := Lib.hid (by
                          rw [HNL.out, HLS.out]
                          have h := late_len (o1.held.take k) 0 17 fun m hm => HL16.out m (List.mem_of_mem_take hm)
                          have h2 : (o1.held.take k).length ≤ k := by rw [List.length_take]; omega
                          have h3 := HKM.out
                          have h4 := H8.out
                          have h5 : (o1.held.take k).length * 17 ≤ 8 * 17 := Nat.mul_le_mul_right 17 (by omega)
                          omega)
                        obtain ⟨wo, hwo⟩ : ∃ wo, wo = wr := ⟨_, rfl⟩
                        subst hwo
                        go_wp2_with fail
                        clear x2 c0 d0
                        have HXM := Lib.hid HXMEM.out
                        have A0 := Lib.hid AT.out
                        clear AT
                        go_loopw [8, 92] (fun s8 s92 wr => ∃ (t nl' : Nat) (v' : Value) (ls' : List Lt), s8 = v' ∧ s92 = .int .i64 t ∧ t ≤ m ∧ ls' = ls ++ (l3.take t).map (fun x => ((k : Int), x)) ∧ nl' = ls'.length ∧ nl' = nl + t ∧ OlAt w (alC a.n (some ⟨qb, off, none⟩) ng cG H nh cH) i b7 (b7 + 1) o1 hs3 ng (some ⟨qg, offg, none⟩) cG3 (some ⟨qh, offh, none⟩) cH3 v' nl' ls' wr) (fun _ s92 _ => m - (intOf s92).toNat)
                        case atStart => exact ⟨0, nl, v, ls, rfl, rfl, Nat.zero_le _, by simp, HNL.out, rfl, A0.out⟩
                        case round =>
                          clear A0
                          obtain ⟨t, nl', v', ls', hv, rfl, ht, hls, hnl, hnt, hat⟩ := hrel
                          have hv2 := hv.symm
                          clear hv
                          subst hv2
                          have AT := Lib.hid hat
                          have HLS2 := Lib.hid hls
                          have HNL2 := Lib.hid hnl
                          have HNT2 := Lib.hid hnt
                          clear hat hls hnl hnt
                          by_cases htm : t < m
                          · obtain ⟨y, hy⟩ : ∃ y, l3[t]? = some y := ⟨_, List.getElem?_eq_getElem (by rw [← HML.out]; exact htm)⟩
                            obtain ⟨q2, off2, hA2, e0⟩ := item_row (AT.out.own.rows.2.1.each _ HXM.out) hy
                            simp only at hA2
                            subst hA2
                            have hti : (t : Int) < (m : Int) := by omega
                            have hwt := wrapKA (k := t) (by have := HM17.out; omega)
                            have HTM := Lib.hid htm
                            have HNX : Hid (ls' ++ [((k : Int), y)] = ls ++ (l3.take (t + 1)).map (fun x => ((k : Int), x))) := Lib.hid (by rw [HLS2.out, List.take_add_one, hy, List.map_append, List.append_assoc]; rfl)
                            have e00 := e0 0 _ rfl; have e01 := e0 1 _ rfl; have e02 := e0 2 _ rfl; have e03 := e0 3 _ rfl; have e04 := e0 4 _ rfl; have e05 := e0 5 _ rfl; have e06 := e0 6 _ rfl; have e07 := e0 7 _ rfl; have e08 := e0 8 _ rfl; have e09 := e0 9 _ rfl; have e10 := e0 10 _ rfl
                            rw [Nat.add_zero] at e00
                            clear hy e0 htm ht
                            go_upto_region 21 with fail
                            clear e00 e01 e02 e03 e04 e05 e06 e07 e08 e09 e10
                            have hb6 := below_al (o := .cells (itC y) 42) (Below.refl wr.heap.size wr)
                            have A6 := Lib.hid (AT.out.next hb6)
                            have LY := Lib.hid (Lies.new wr (itC y) 42)
                            obtain ⟨by6, hby6⟩ : ∃ b, b = wr.heap.size := ⟨_, rfl⟩
                            obtain ⟨W6, hW6⟩ : ∃ W, W = wr.alloc (.cells (itC y) 42) := ⟨_, rfl⟩
                            rw [← hW6] at A6 LY ⊢
                            rw [← hby6] at LY ⊢
                            clear hW6 hby6 hb6 AT
                            have y00 := LY.out.cell (j := 0) rfl; have y01 := LY.out.cell (j := 1) rfl; have y02 := LY.out.cell (j := 2) rfl; have y03 := LY.out.cell (j := 3) rfl; have y04 := LY.out.cell (j := 4) rfl; have y05 := LY.out.cell (j := 5) rfl; have y06 := LY.out.cell (j := 6) rfl; have y07 := LY.out.cell (j := 7) rfl; have y08 := LY.out.cell (j := 8) rfl; have y09 := LY.out.cell (j := 9) rfl; have y10 := LY.out.cell (j := 10) rfl
                            go_wp2_with (at_builtin; refine hold_mk ?_)
                            refine hold_out ?_
                            have hb7 := below_al (o := .cells (ltC ((k : Int), y)) 58) (Below.refl W6.heap.size W6)
                            have A7 := Lib.hid (A6.out.next hb7)
                            have hro := one_rowT W6 ((k : Int), y)
                            refine wpPushT rfl _ _ rfl v' ls' rfl HNL2.out A7.out.late A7.out.size _ 1 ((k : Int), y) rfl hro (by have := HTM.out; have := HM17.out; have := HNT2.out; have := HNL200.out; omega) ?_
                            intro v9 w9 bt9 hg9
                            have A9 := Lib.hid (A7.out.push hg9 bt9)
                            clear bt9 hg9 hro hb7 A6 A7 LY y00 y01 y02 y03 y04 y05 y06 y07 y08 y09 y10
                            go_wp2_with fail
                            go_roundw
                            case rel => exact ⟨t + 1, nl' + 1, v9, ls' ++ [((k : Int), y)], rfl, rfl, HTM.out, HNX.out, by rw [List.length_append, ← HNL2.out]; rfl, by have := HNT2.out; omega, A9.out⟩
                            case measure => simp [intOf]; have := HTM.out; omega
                          · have htm2 : ¬ (t : Int) < (m : Int) := by omega
                            have htm3 : t = m := by omega
                            subst htm3
                            have HLF : Hid (ls' = lateOf 0 (o1.held.take (k + 1))) := Lib.hid (by rw [HLS2.out, late_take HLK3.out, ← HLS.out, List.take_of_length_le (by rw [← HML.out]; exact Nat.le_refl _)])
                            have HAF : Hid (∀ t, t < k + 1 → o1.got[t]? = some true) := Lib.hid (fun t ht => by
                              by_cases e : t = k
                              · subst e; exact HGK3.out
                              · exact HALL.out t (by omega))
                            clear ht htm
                            go_wp2_with fail
                            go_roundw
                            case rel => exact ⟨k + 1, nl', v', ls', rfl, rfl, HKM.out, HAF.out, HLF.out, HNL2.out, AT.out⟩
                            case measure => simp [intOf]; have := HKM.out; omega
                    · have hki : ¬ (k : Int) < (ng : Int) := by omega
                      have hkn : k = ng := by omega
                      subst hkn
                      have hall1 : o1.got.all id = true := List.all_eq_true.2 fun x hx => by
                        obtain ⟨t, ht⟩ := List.getElem?_of_mem hx
                        have h1 := HALL.out t (by rw [HGL3.out]; exact (List.getElem?_eq_some_iff.1 ht).1)
                        rw [h1] at ht
                        cases ht
                        rfl
                      have e1 : o = ⟨anew k, false, i.n, ls, 0⟩ := by
                        rw [HOG.out, if_pos hall1, ← HNG.out, HLS.out, List.take_of_length_le (by have := congrArg List.length HMP.out; rw [List.length_map, HHL3.out] at this; omega)]
                      have hp1 : p = k := by rw [HP.out, e1]; exact List.length_replicate
                      have hq1 : q = nl := by rw [HQ.out, e1, HNL.out]
                      have HNA := Lib.hid (HNW.out (k : Int) (anew k, 0) (by unfold newO; rw [if_neg (by have := H8.out; omega)]; rfl) k (by exact List.length_replicate.symm) wr)
                      subst e1
                      subst hp1 hq1
                      clear hall1 hlt hk HOG HP HQ HNW
                      have x1 := AT.out.of.arg.cell (j := 1) rfl
                      go_wp2_with fail
                      refine HNA.out.mono ?_
                      rintro e w4 ⟨G4, cG4, H4, cH4, hs4, rfl, hown4, hmap4, hb4⟩
                      have A4 := Lib.hid (AT.out.next hb4)
                      have ON4 := Lib.hid (hown4.base (show w.heap.size + 3 ≤ _ from AT.out.of.size))
                      have HMP4 := Lib.hid hmap4
                      clear hown4 hmap4 hb4 x1 AT HNA
                      go_upto_region 25 with fail
                      have hb5 := below_al (o := .cells (alC 0 G4 p cG4 H4 p cH4) 25) (Below.refl w4.heap.size w4)
                      have A5 := Lib.hid (A4.out.next hb5)
                      have ON5 := Lib.hid (ON4.out.next hb5)
                      have L5 := Lib.hid (Lies.new w4 (alC 0 G4 p cG4 H4 p cH4) 25)
                      obtain ⟨b5, hb5e⟩ : ∃ b, b = w4.heap.size := ⟨_, rfl⟩
                      obtain ⟨W5, hW5⟩ : ∃ W, W = w4.alloc (.cells (alC 0 G4 p cG4 H4 p cH4) 25) := ⟨_, rfl⟩
                      rw [← hW5] at A5 ON5 L5
                      rw [← hb5e] at L5
                      simp only [anew]
                      rw [← hW5, ← hb5e]
                      clear hW5 hb5e hb5 A4 ON4
                      obtain ⟨AL, cL, rfl, hcL, _⟩ := own_form A5.out.late (by omega)
                      have HCL5 := Lib.hid hcL
                      have OS := Lib.hid (ON5.out.set7 (show w.heap.size + 2 < w.heap.size + 3 by omega) (.int .i64 0) (.slice G4 p cG4) (.slice H4 p cH4) (.bool false) (.int .i64 i.n) (.slice AL q cL) (.int .i64 0)).rows
                      have OT := Lib.hid (own_rowT (own_set7A A5.out.late (show w.heap.size + 2 < b7 + 1 by have := A5.out.lo; omega) (.int .i64 0) (.slice G4 p cG4) (.slice H4 p cH4) (.bool false) (.int .i64 i.n) (.slice AL q cL) (.int .i64 0)))
                      have LS := Lib.hid (lies_set7A A5.out.of.res (.int .i64 0) (.slice G4 p cG4) (.slice H4 p cH4) (.bool false) (.int .i64 i.n) (.slice AL q cL) (.int .i64 0))
                      have BS := Lib.hid (below_set7A A5.out.of.below (show w.heap.size ≤ w.heap.size + 2 by omega) (.int .i64 0) (.slice G4 p cG4) (.slice H4 p cH4) (.bool false) (.int .i64 i.n) (.slice AL q cL) (.int .i64 0))
                      have u0 := L5.out.cell (j := 0) rfl; have u1 := L5.out.cell (j := 1) rfl; have u2 := L5.out.cell (j := 2) rfl
                      have i05 := A5.out.of.it.cell (j := 5) rfl
                      have y0 := A5.out.of.res.cell (j := 0) rfl; have y1 := A5.out.of.res.cell (j := 1) rfl; have y2 := A5.out.of.res.cell (j := 2) rfl; have y3 := A5.out.of.res.cell (j := 3) rfl; have y4 := A5.out.of.res.cell (j := 4) rfl; have y5 := A5.out.of.res.cell (j := 5) rfl; have y6 := A5.out.of.res.cell (j := 6) rfl
                      have z0 := A5.out.of.res.free 0; have z1 := A5.out.of.res.free 1; have z2 := A5.out.of.res.free 2; have z3 := A5.out.of.res.free 3; have z4 := A5.out.of.res.free 4; have z5 := A5.out.of.res.free 5; have z6 := A5.out.of.res.free 6
                      go_wp2_with fail
                      refine off_ret (o := ⟨anew p, false, i.n, ls, 0⟩) (R := w.heap.size + 2) (hs := hs4) ?_ ?_ LS.out OS.out.1 OS.out.2.1 HMP4.out OS.out.2.2.1 OS.out.2.2.2.1 OS.out.2.2.2.2.1 OT.out.1 HCL5.out BS.out <;> rfl
                )
            · have g3 : (i.k != 4) = true := nb hk4
              have e1 : o = ⟨a, true, 0, [], 0⟩ := by rw [HGE.out, if_neg HNT.out, if_pos hk4]
              have hp1 : p = ng := by rw [HP.out, e1, HNG.out]
              have hq1 : q = 0 := by rw [HQ.out, e1]; rfl
              have hnn := HNHG.out
              subst e1
              subst hp1 hq1 hnn
              clear hk4 HGE HP HQ
              go_upto_region 8 with fail
              clear c0 i00
              have x0 := OF2.out.arg.cell (j := 0) rfl; have x2 := OF2.out.arg.cell (j := 2) rfl
              have y0 := OF2.out.res.cell (j := 0) rfl; have y1 := OF2.out.res.cell (j := 1) rfl; have y2 := OF2.out.res.cell (j := 2) rfl; have y3 := OF2.out.res.cell (j := 3) rfl; have y4 := OF2.out.res.cell (j := 4) rfl; have y5 := OF2.out.res.cell (j := 5) rfl; have y6 := OF2.out.res.cell (j := 6) rfl
              have z0 := OF2.out.res.free 0; have z1 := OF2.out.res.free 1; have z2 := OF2.out.res.free 2; have z3 := OF2.out.res.free 3; have z4 := OF2.out.res.free 4; have z5 := OF2.out.res.free 5; have z6 := OF2.out.res.free 6
              have LS := Lib.hid (lies_set7A OF2.out.res (.int .i64 a.n) (.slice (some ⟨qb, off, none⟩) nh cG) (.slice H nh cH) (.bool true) (.int .i64 0) (.slice none 0 0) (.int .i64 0))
              have BS := Lib.hid (below_set7A OF2.out.below (show w.heap.size ≤ w.heap.size + 2 by omega) (.int .i64 a.n) (.slice (some ⟨qb, off, none⟩) nh cG) (.slice H nh cH) (.bool true) (.int .i64 0) (.slice none 0 0) (.int .i64 0))
              go_wp2_with fail
              refine off_ret (o := ⟨a, true, 0, [], 0⟩) (R := w.heap.size + 2) (hs := hs) ?_ ?_ LS.out (HG0.out.below BS.out) (HH0.out.below BS.out) HHS.out HCG.out HCH.out HCAP.out (.inl rfl) (Nat.le_refl _) BS.out <;> rfl
          · have x2 := OF2.out.arg.cell (j := 2) rfl
            obtain ⟨q', off', hH1, d0⟩ := head_row (HH0.out.row.below OF2.out.below) HXK.out
            subst hH1
            have hjh : (j : Int) < (nh : Int) := by have := HNHG.out; omega
            simp only at d0
            obtain ⟨m, hm⟩ : ∃ m, m = l.length := ⟨_, rfl⟩
            rw [← hm] at d0
            by_cases h16 : m = 16
            · have g3 : ((m : Int) == (16 : Int)) = true := eq_b (by omega)
              have e1 : o = ⟨zA, false, 0, [], 3⟩ := by rw [HGE.out, if_pos HGK.out, HLK.out]; simp [← hm, h16]
              clear h16 hm
              have hp1 : p = 0 := by rw [HP.out, e1]; rfl
              have hq1 : q = 0 := by rw [HQ.out, e1]; rfl
              subst e1
              subst hp1 hq1
              clear HP HQ
              have y0 := OF2.out.res.cell (j := 0) rfl; have y1 := OF2.out.res.cell (j := 1) rfl; have y2 := OF2.out.res.cell (j := 2) rfl; have y3 := OF2.out.res.cell (j := 3) rfl; have y4 := OF2.out.res.cell (j := 4) rfl; have y5 := OF2.out.res.cell (j := 5) rfl; have y6 := OF2.out.res.cell (j := 6) rfl
              have z0 := OF2.out.res.free 0; have z1 := OF2.out.res.free 1; have z2 := OF2.out.res.free 2; have z3 := OF2.out.res.free 3; have z4 := OF2.out.res.free 4; have z5 := OF2.out.res.free 5; have z6 := OF2.out.res.free 6
              go_wp2_with fail
              refine off_ret (o := ⟨zA, false, 0, [], 3⟩) (R := w.heap.size + 2) (hs := []) ?_ ?_ (lies_set7A OF2.out.res (.int .i64 0) (.slice none 0 0) (.slice none 0 0) (.bool false) (.int .i64 0) (.slice none 0 0) (.int .i64 3)) (.inl rfl) ⟨.inl rfl, fun x hx => by cases hx⟩ rfl (Nat.le_refl _) (Nat.le_refl _) (fun x hx => by cases hx) (.inl rfl) (Nat.le_refl _) (below_set7A OF2.out.below (by omega) _ _ _ _ _ _ _) <;> rfl
            · have g3 : ((m : Int) == (16 : Int)) = false := ne_b (by omega)
              have e1 : o = ⟨behindA a j i, false, 0, [], 0⟩ := by rw [HGE.out, if_pos HGK.out, HLK.out]; simp [← hm, h16]
              have HCL := Lib.hid (fun w' hb => HBH.out j HNHG.out HJ.out H8.out.2 H16.out (behindA a j i) rfl w' hb)
              have hp1 : p = ng := by rw [HP.out, e1, HNG.out]; exact List.length_set
              have hq1 : q = 0 := by rw [HQ.out, e1]; rfl
              subst e1
              subst hp1 hq1
              clear h16 hm HGE HP HQ
              have x0 := OF2.out.arg.cell (j := 0) rfl
              have i00 := OF2.out.it.cell (j := 0) rfl; have i01 := OF2.out.it.cell (j := 1) rfl; have i02 := OF2.out.it.cell (j := 2) rfl; have i03 := OF2.out.it.cell (j := 3) rfl; have i04 := OF2.out.it.cell (j := 4) rfl; have i05 := OF2.out.it.cell (j := 5) rfl; have i06 := OF2.out.it.cell (j := 6) rfl; have i07 := OF2.out.it.cell (j := 7) rfl; have i08 := OF2.out.it.cell (j := 8) rfl; have i09 := OF2.out.it.cell (j := 9) rfl; have i10 := OF2.out.it.cell (j := 10) rfl
              go_wp2_with fail
              refine (HCL.out _ OF2.out.below).mono ?_
              rintro e w3 ⟨G3, cG3, H3, cH3, hs3, rfl, hown, hmap, hb3⟩
              have OF3 := Lib.hid (OF2.out.next hb3)
              have ON := Lib.hid (hown.base (show w.heap.size + 3 ≤ _ from OF2.out.size))
              have HMP := Lib.hid hmap
              clear hown hmap hb3 x0 x1 x2 d0 c0 i00 i01 i02 i03 i04 i05 i06 i07 i08 i09 i10 OF2 HCL
              have y0 := OF3.out.res.cell (j := 0) rfl; have y1 := OF3.out.res.cell (j := 1) rfl; have y2 := OF3.out.res.cell (j := 2) rfl; have y3 := OF3.out.res.cell (j := 3) rfl; have y4 := OF3.out.res.cell (j := 4) rfl; have y5 := OF3.out.res.cell (j := 5) rfl; have y6 := OF3.out.res.cell (j := 6) rfl
              have z0 := OF3.out.res.free 0; have z1 := OF3.out.res.free 1; have z2 := OF3.out.res.free 2; have z3 := OF3.out.res.free 3; have z4 := OF3.out.res.free 4; have z5 := OF3.out.res.free 5; have z6 := OF3.out.res.free 6
              have OS := Lib.hid (ON.out.set7 (show w.heap.size + 2 < w.heap.size + 3 by omega) (.int .i64 (behindA a j i).n) (.slice G3 p cG3) (.slice H3 p cH3) (.bool false) (.int .i64 0) (.slice none 0 0) (.int .i64 0)).rows
              have LS := Lib.hid (lies_set7A OF3.out.res (.int .i64 (behindA a j i).n) (.slice G3 p cG3) (.slice H3 p cH3) (.bool false) (.int .i64 0) (.slice none 0 0) (.int .i64 0))
              have BS := Lib.hid (below_set7A OF3.out.below (show w.heap.size ≤ w.heap.size + 2 by omega) (.int .i64 (behindA a j i).n) (.slice G3 p cG3) (.slice H3 p cH3) (.bool false) (.int .i64 0) (.slice none 0 0) (.int .i64 0))
              go_wp2_with fail
              refine off_ret (o := ⟨behindA a j i, false, 0, [], 0⟩) (R := w.heap.size + 2) (hs := hs3) ?_ ?_ LS.out OS.out.1 OS.out.2.1 HMP.out OS.out.2.2.1 OS.out.2.2.2.1 OS.out.2.2.2.2.1 (.inl rfl) (Nat.le_refl _) BS.out <;> rfl
end Aln
end Go.Proofs.Ytgbklmncfajcgaa
