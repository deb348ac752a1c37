/- Rows of results and of stages being put together; the reference's Abort, Add. -/
import Derived.Test.YtmkbdlailffjeaaSinkL
import Derived.Maps.AppendAt
namespace Go.Proofs.Ytmkbdlailffjeaa
open Go.ChangeShapes Go.WideShapes Go.ChangeAt Go.RowKit
set_option linter.unusedVariables false
set_option maxRecDepth 8000
namespace Sk
open Gen (TellsB row_one flat_len flat_get Mine)
theorem info_partsK {x : Option TypeInfo} {z : Value} {s b : Nat} (h : x.map (fun i => (i.zero, i.size, i.bytes)) = some (some z, s, b)) : ∃ i, x = some i ∧ i.zero = some z ∧ i.size = s ∧ i.bytes = b := by
  cases x with
  | none => cases h
  | some i =>
    simp only [Option.map_some, Option.some.injEq, Prod.mk.injEq] at h
    exact ⟨i, rfl, h.1, h.2.1, h.2.2⟩
theorem own_up {w w' : World} {B size n : Nat} {e : TypeId} {v : Value} {xs : List Value} (h : w.ownsRow B e size v n xs) (hb : Below w.heap.size w w') : w'.ownsRow B e size v n xs :=
  Gen.ownsRow_block h fun k _ hk => hb.block k hk
theorem own_set {B size n : Nat} {e : TypeId} {w : World} {u : Value} {cs : List Value} (h : w.ownsRow B e size u n cs) (p : Addr) (hp : u.ownBlock ≠ some p.block) (z : Value) : (w.setCell p z).ownsRow B e size u n cs :=
  Gen.ownsRow_block h fun k hk _ => Below.heap_setCell w p z k (fun e => hp (by rw [← e]; exact hk))
theorem lies_grown {w w' : World} {row : Option Nat} {b : Nat} {C : Array Value} {T : TypeId} (h : Lies b C T w) (hg : w.grownBy w' row) (hne : row ≠ some b) : Lies b C T w' :=
  (hg.block b (lt_of_block h) (fun e => hne e.symm)).trans h
theorem own_lies {w : World} {B size n : Nat} {e : TypeId} {v : Value} {xs : List Value} (h : w.ownsRow B e size v n xs) {b : Nat} {C : Array Value} {T : TypeId} (hl : Lies b C T w) (hT : e ≠ T) : v.ownBlock ≠ some b := by
  intro hv
  obtain ⟨_, ⟨rfl, _⟩ | ⟨g, cap, cur, rfl, _, hh, _⟩⟩ := h
  · cases hv
  · cases hv
    have h2 : w.heap[g]? = some _ := hl
    rw [hh] at h2
    injection h2 with h2
    injection h2 with _ h2
    exact hT h2
theorem own_base {w : World} {B B' size n : Nat} {e : TypeId} {v : Value} {xs : List Value} (h : w.ownsRow B e size v n xs) (hb : B' ≤ B) : w.ownsRow B' e size v n xs := by
  obtain ⟨hl, ⟨rfl, rfl⟩ | ⟨g, cap, cur, rfl, hg, rest⟩⟩ := h
  · exact ⟨hl, .inl ⟨rfl, rfl⟩⟩
  · exact ⟨hl, .inr ⟨g, cap, cur, rfl, Nat.le_trans hb hg, rest⟩⟩
theorem own_kind {w : World} {B1 B2 s1 s2 n1 n2 : Nat} {e1 e2 : TypeId} {u v : Value} {xs ys : List Value} (h : w.ownsRow B1 e1 s1 u n1 xs) (k : w.ownsRow B2 e2 s2 v n2 ys) (hne : e1 ≠ e2) : ∀ q, u.ownBlock = some q → v.ownBlock ≠ some q := by
  intro q h1 h2
  obtain ⟨_, ⟨rfl, _⟩ | ⟨g, cap, cur, rfl, _, hh, _⟩⟩ := h
  · cases h1
  · obtain ⟨_, ⟨rfl, _⟩ | ⟨g', cap', cur', rfl, _, hh', _⟩⟩ := k
    · cases h2
    · cases h1
      cases h2
      rw [hh] at hh'
      simp only [Option.some.injEq, Obj.cells.injEq] at hh'
      exact hne hh'.2.1
theorem own_grown {w w' : World} {B size n : Nat} {e : TypeId} {u v : Value} {xs : List Value} (h : w.ownsRow B e size u n xs) (hg : w.grownBy w' v.ownBlock) (hne : ∀ q, u.ownBlock = some q → v.ownBlock ≠ some q) : w'.ownsRow B e size u n xs :=
  Gen.ownsRow_block h fun k hk hlt => hg.block k hlt (fun e => hne k hk e.symm)
theorem InfoR : (Try.prog.info? 29).map (fun i => (i.zero, i.size, i.bytes)) = some (some (.agg #[.int .i64 0, .int .i64 0, .string ⟨#[]⟩, .int .i64 0, .int .i64 0]), 5, 48) := by kernel_rfl
theorem onesR (l : List Re) : ∀ u ∈ rec_ l, u.oneCell' = true := by
  intro u hu
  obtain ⟨p, _, hp⟩ := List.mem_flatMap.1 hu
  simp only [reL, List.mem_cons, List.not_mem_nil, or_false] at hp
  rcases hp with rfl | rfl | rfl | rfl | rfl <;> rfl
theorem own_rowR {w : World} {B n c : Nat} {A : Option Addr} {l : List Re} (h : w.ownsRow B 29 5 (.slice A n c) n (rec_ l)) : Row w A (rec_ l) ∧ n ≤ c ∧ n = l.length := by
  obtain ⟨A', c', e, h1, h2, h3, h4, _⟩ := own_form h (by omega)
  cases e
  rw [lenR] at h3
  exact ⟨h4, h1, by omega⟩
theorem wpPushR {ops : Array Oper} {rest : List Oper} {o : Oper} {a : Act} {Q : Exit → Act → World → Prop} {B k : Nat} {w : World} (hgd : o.guard = none) (s x : Operand)
    (ho : o.op = .call { callee := .builtin .append, args := #[s, x], argTypes := #[22, 22] }) (v : Value) (ms : List Re) (hs : a.eval s = v) (hk : k = ms.length) (h : w.ownsRow B 29 5 v k (rec_ ms)) (hB : B ≤ w.heap.size)
    (ad : Addr) (c : Nat) (y : Re) (hx : a.eval x = .slice (some ad) 1 c) (hr : Row w (some ad) (rec_ [y])) (hlen : k ≤ 10000000)
    (hK : ∀ v' w', w'.ownsRow B 29 5 v' (k + 1) (rec_ (ms ++ [y])) → w.grownBy w' v.ownBlock → (v'.ownBlock = v.ownBlock ∨ v'.ownBlock = some w.heap.size) → wpList Try.prog ops Q rest (a.put o.dst v') w') :
    wpList Try.prog ops Q (o :: rest) a w := by
  obtain ⟨i0, hi0, hz0, hz1, hz2⟩ := info_partsK InfoR
  have hcells : ∀ j u, (rec_ [y])[j]? = some u → w.cell? (ad.add j) = some u := by
    rcases hr with hr | ⟨b, off, hr, hc⟩
    · have := lenR [y]; rw [hr] at this; simp at this
    · cases hr
      intro j u hu
      rw [Go.WideShapes.add_plain]
      exact hc j u hu
  refine wpList_append_own_at w hgd s x 22 ho B 29 i0 _ 5 48 Try.underlying22 hi0 hz0 hz1 hz2 rfl (by omega) v k (rec_ ms) hs h ad 1 c (rec_ [y]) hx (by rw [lenR]; rfl) hcells (onesR [y])
    (by unfold maxLen; omega) (by omega) hB ?_
  intro v' w' hown hg _ hat
  exact hK v' w' (by rw [appR]; exact hown) hg hat
theorem one_rowR (w : World) (p : Re) : Row (w.alloc (.cells (reC p) 29)) (some ⟨w.heap.size, 0, none⟩) (rec_ [p]) := by
  refine .inr ⟨w.heap.size, 0, rfl, fun j u hu => ?_⟩
  rw [Nat.zero_add]
  exact (Lies.new w (reC p) 29).cell (by simpa [rec_] using hu)
theorem InfoG : (Try.prog.info? 50).map (fun i => (i.zero, i.size, i.bytes)) = some (some (.agg #[.int .i64 0, .slice none 0 0]), 2, 32) := by kernel_rfl
theorem onesG (l : List Sg) : ∀ u ∈ sgc l, u.oneCell' = true := by
  intro u hu
  obtain ⟨p, _, hp⟩ := List.mem_flatMap.1 hu
  simp only [sgL, List.mem_cons, List.not_mem_nil, or_false] at hp
  rcases hp with rfl | rfl <;> rfl
theorem own_rowG {w : World} {B n c : Nat} {A : Option Addr} {l : List Sg} (h : w.ownsRow B 50 2 (.slice A n c) n (sgc l)) : Row w A (sgc l) ∧ n ≤ c ∧ n = l.length := by
  obtain ⟨A', c', e, h1, h2, h3, h4, _⟩ := own_form h (by omega)
  cases e
  rw [lenG] at h3
  exact ⟨h4, h1, by omega⟩
theorem wpPushG {ops : Array Oper} {rest : List Oper} {o : Oper} {a : Act} {Q : Exit → Act → World → Prop} {B k : Nat} {w : World} (hgd : o.guard = none) (s x : Operand)
    (ho : o.op = .call { callee := .builtin .append, args := #[s, x], argTypes := #[23, 23] }) (v : Value) (ms : List Sg) (hs : a.eval s = v) (hk : k = ms.length) (h : w.ownsRow B 50 2 v k (sgc ms)) (hB : B ≤ w.heap.size)
    (ad : Addr) (c : Nat) (y : Sg) (hx : a.eval x = .slice (some ad) 1 c) (hr : Row w (some ad) (sgc [y])) (hlen : k ≤ 10000000)
    (hK : ∀ v' w', w'.ownsRow B 50 2 v' (k + 1) (sgc (ms ++ [y])) → w.grownBy w' v.ownBlock → (v'.ownBlock = v.ownBlock ∨ v'.ownBlock = some w.heap.size) → wpList Try.prog ops Q rest (a.put o.dst v') w') :
    wpList Try.prog ops Q (o :: rest) a w := by
  obtain ⟨i0, hi0, hz0, hz1, hz2⟩ := info_partsK InfoG
  have hcells : ∀ j u, (sgc [y])[j]? = some u → w.cell? (ad.add j) = some u := by
    rcases hr with hr | ⟨b, off, hr, hc⟩
    · have := lenG [y]; rw [hr] at this; simp at this
    · cases hr
      intro j u hu
      rw [Go.WideShapes.add_plain]
      exact hc j u hu
  refine wpList_append_own_at w hgd s x 23 ho B 50 i0 _ 2 32 Try.underlying23 hi0 hz0 hz1 hz2 rfl (by omega) v k (sgc ms) hs h ad 1 c (sgc [y]) hx (by rw [lenG]; rfl) hcells (onesG [y])
    (by unfold maxLen; omega) (by omega) hB ?_
  intro v' w' hown hg _ hat
  exact hK v' w' (by rw [appG]; exact hown) hg hat
theorem one_rowG (w : World) (p : Sg) : Row (w.alloc (.cells (sgC p) 50)) (some ⟨w.heap.size, 0, none⟩) (sgc [p]) := by
  refine .inr ⟨w.heap.size, 0, rfl, fun j u hu => ?_⟩
  rw [Nat.zero_add]
  exact (Lies.new w (sgC p) 50).cell (by simpa [sgc] using hu)
def set4K (w : World) (b : Nat) (v0 v1 v2 v3 : Value) : World := (((w.setCell ⟨b, 0, none⟩ v0).setCell ⟨b, 1, none⟩ v1).setCell ⟨b, 2, none⟩ v2).setCell ⟨b, 3, none⟩ v3
theorem lies_set4K {w : World} {b : Nat} {u0 u1 u2 u3 : Value} {T : TypeId} (h : Lies b #[u0, u1, u2, u3] T w) (v0 v1 v2 v3 : Value) : Lies b #[v0, v1, v2, v3] T (set4K w b v0 v1 v2 v3) := by
  have := (((h.set 0 v0).set 1 v1).set 2 v2).set 3 v3
  unfold set4K
  simpa using this
theorem below_set4K {w0 w : World} {b : Nat} (h : Below w0.heap.size w0 w) (hb : w0.heap.size ≤ b) (v0 v1 v2 v3 : Value) : Below w0.heap.size w0 (set4K w b v0 v1 v2 v3) :=
  (((h.setCell (p := ⟨b, 0, none⟩) hb v0).setCell (p := ⟨b, 1, none⟩) hb v1).setCell (p := ⟨b, 2, none⟩) hb v2).setCell (p := ⟨b, 3, none⟩) hb v3
theorem own_set4K {B size n b : Nat} {e : TypeId} {w : World} {u : Value} {cs : List Value} (h : w.ownsRow B e size u n cs) (hp : u.ownBlock ≠ some b) (v0 v1 v2 v3 : Value) : (set4K w b v0 v1 v2 v3).ownsRow B e size u n cs :=
  own_set (own_set (own_set (own_set h ⟨b, 0, none⟩ hp v0) ⟨b, 1, none⟩ hp v1) ⟨b, 2, none⟩ hp v2) ⟨b, 3, none⟩ hp v3
theorem add_ret {w wF : World} {R no ns nu : Nat} {o : Si × Int} {O : Option Addr} {cO : Nat} {S : Option Addr} {cS : Nat} {U : Option Addr} {cU : Nat} {act : Act} (ht : act.tmps.getD 4 undef = .pointer (some ⟨R, 0, none⟩)) (he : act.tmps.getD 5 undef = .int .i64 o.2) (hd : act.defers = [])
    (hL : Lies R (skC O no cO S ns cS o.1.last U nu cU) 25 wF) (h1 : SkAt wF o.1 no ns nu O cO S cS U cU) (hB : Below w.heap.size w wF) :
    bodyPost Try.prog Try.f10 (GivesSk o w) .ret act wF := by
  have c0 := hL.cell (j := 0) rfl
  have c1 := hL.cell (j := 1) rfl
  have c2 := hL.cell (j := 2) rfl
  have c3 := hL.cell (j := 3) rfl
  refine bodyPost_ret (v := .tuple #[skV O no cO S ns cS o.1.last U nu cU, .int .i64 o.2]) ?_ hd ⟨no, ns, nu, O, cO, S, cS, U, cU, rfl, h1, hB⟩
  have ht2 : act.tmps[4]?.getD undef = .pointer (some ⟨R, 0, none⟩) := by simpa using ht
  have he2 : act.tmps[5]?.getD undef = .int .i64 o.2 := by simpa using he
  simp [results, Try.results10, go_sem, ht2, he2, c0, c1, c2, c3]
theorem stage_ret {w wF : World} {R no ns nu : Nat} {o : Si × Int} {O : Option Addr} {cO : Nat} {S : Option Addr} {cS : Nat} {U : Option Addr} {cU : Nat} {act : Act} (ht : act.tmps.getD 4 undef = .pointer (some ⟨R, 0, none⟩)) (he : act.tmps.getD 5 undef = .int .i64 o.2) (hd : act.defers = [])
    (hL : Lies R (skC O no cO S ns cS o.1.last U nu cU) 25 wF) (h1 : SkAt wF o.1 no ns nu O cO S cS U cU) (hB : Below w.heap.size w wF) :
    bodyPost Try.prog Try.f12 (GivesSk o w) .ret act wF := by
  have c0 := hL.cell (j := 0) rfl
  have c1 := hL.cell (j := 1) rfl
  have c2 := hL.cell (j := 2) rfl
  have c3 := hL.cell (j := 3) rfl
  refine bodyPost_ret (v := .tuple #[skV O no cO S ns cS o.1.last U nu cU, .int .i64 o.2]) ?_ hd ⟨no, ns, nu, O, cO, S, cS, U, cU, rfl, h1, hB⟩
  have ht2 : act.tmps[4]?.getD undef = .pointer (some ⟨R, 0, none⟩) := by simpa using ht
  have he2 : act.tmps[5]?.getD undef = .int .i64 o.2 := by simpa using he
  simp [results, Try.results12, go_sem, ht2, he2, c0, c1, c2, c3]
theorem commit_ret {w wF : World} {R no ns nu : Nat} {o : Si × Int} {O : Option Addr} {cO : Nat} {S : Option Addr} {cS : Nat} {U : Option Addr} {cU : Nat} {act : Act} (ht : act.tmps.getD 4 undef = .pointer (some ⟨R, 0, none⟩)) (he : act.tmps.getD 5 undef = .int .i64 o.2) (hd : act.defers = [])
    (hL : Lies R (skC O no cO S ns cS o.1.last U nu cU) 25 wF) (h1 : SkAt wF o.1 no ns nu O cO S cS U cU) (hB : Below w.heap.size w wF) :
    bodyPost Try.prog Try.f18 (GivesSk o w) .ret act wF := by
  have c0 := hL.cell (j := 0) rfl
  have c1 := hL.cell (j := 1) rfl
  have c2 := hL.cell (j := 2) rfl
  have c3 := hL.cell (j := 3) rfl
  refine bodyPost_ret (v := .tuple #[skV O no cO S ns cS o.1.last U nu cU, .int .i64 o.2]) ?_ hd ⟨no, ns, nu, O, cO, S, cS, U, cU, rfl, h1, hB⟩
  have ht2 : act.tmps[4]?.getD undef = .pointer (some ⟨R, 0, none⟩) := by simpa using ht
  have he2 : act.tmps[5]?.getD undef = .int .i64 o.2 := by simpa using he
  simp [results, Try.results18, go_sem, ht2, he2, c0, c1, c2, c3]
theorem abort_ret {w wF : World} {R no ns nu : Nat} {o : Si × Int} {O : Option Addr} {cO : Nat} {S : Option Addr} {cS : Nat} {U : Option Addr} {cU : Nat} {act : Act} (ht : act.tmps.getD 2 undef = .pointer (some ⟨R, 0, none⟩)) (he : act.tmps.getD 3 undef = .int .i64 o.2) (hd : act.defers = [])
    (hL : Lies R (skC O no cO S ns cS o.1.last U nu cU) 25 wF) (h1 : SkAt wF o.1 no ns nu O cO S cS U cU) (hB : Below w.heap.size w wF) :
    bodyPost Try.prog Try.f20 (GivesSk o w) .ret act wF := by
  have c0 := hL.cell (j := 0) rfl
  have c1 := hL.cell (j := 1) rfl
  have c2 := hL.cell (j := 2) rfl
  have c3 := hL.cell (j := 3) rfl
  refine bodyPost_ret (v := .tuple #[skV O no cO S ns cS o.1.last U nu cU, .int .i64 o.2]) ?_ hd ⟨no, ns, nu, O, cO, S, cS, U, cU, rfl, h1, hB⟩
  have ht2 : act.tmps[2]?.getD undef = .pointer (some ⟨R, 0, none⟩) := by simpa using ht
  have he2 : act.tmps[3]?.getD undef = .int .i64 o.2 := by simpa using he
  simp [results, Try.results20, go_sem, ht2, he2, c0, c1, c2, c3]
set_option maxRecDepth 100000 in
set_option maxHeartbeats 1000000 in
theorem rfAbort {w : World} {s : Si} {no ns nu : Nat} {O : Option Addr} {cO : Nat} {S : Option Addr} {cS : Nat} {U : Option Addr} {cU : Nat} (h : SkAt w s no ns nu O cO S cS U cU) (o : Si × Int) (ho : o = abortO s) :
    Calls Try.prog 20 #[skV O no cO S ns cS s.last U nu cU] w (GivesSk o w) := by
  obtain ⟨sg, h1⟩ := h
  obtain ⟨r, hr⟩ : ∃ r, r = rightS s := ⟨_, rfl⟩
  have HRR := Lib.hid (fun w' (hb : Below w.heap.size w w') => rfRightS s sg h1.map no ns nu h1.lno h1.lns h1.lnu r hr O cO S cS U cU w' (h1.ro.below hb) (h1.rs.below hb) (h1.ru.below hb))
  have HO : Hid (o = if r = false then (zS, 1) else (⟨[], [], s.last, s.out⟩, 0)) := Lib.hid (by rw [ho, hr]; rfl)
  have H1 := Lib.hid h1
  have LA := Lib.hid ((Lies.new w (skC O no cO S ns cS s.last U nu cU) 25).al (o := .cells (skC none 0 0 none 0 0 0 none 0 0) 25))
  have LR := Lib.hid (Gen.lies_new1 w (.cells (skC O no cO S ns cS s.last U nu cU) 25) (skC none 0 0 none 0 0 0 none 0 0) 25)
  have HB := Lib.hid (below_al (o := .cells (skC none 0 0 none 0 0 0 none 0 0) 25) (below_al (o := .cells (skC O no cO S ns cS s.last U nu cU) 25) (Below.refl w.heap.size w)))
  clear h1 hr ho
  go_enter Try.func20, Try.ntmps20
  go_upto_region 1 with fail
  obtain ⟨W, hW⟩ : ∃ W, W = (w.alloc (.cells (skC O no cO S ns cS s.last U nu cU) 25)).alloc (.cells (skC none 0 0 none 0 0 0 none 0 0) 25) := ⟨_, rfl⟩
  obtain ⟨R, hR⟩ : ∃ b, b = w.heap.size + 1 := ⟨_, rfl⟩
  obtain ⟨tb, htb⟩ : ∃ b, b = w.heap.size := ⟨_, rfl⟩
  have HLO : Hid (w.heap.size ≤ R) := Lib.hid (by omega)
  rw [← hW] at LA LR HB ⊢
  rw [← hR] at LR ⊢
  rw [← htb] at LA ⊢
  clear hW hR htb
  have x0 := LA.out.cell (j := 0) rfl; have x1 := LA.out.cell (j := 1) rfl; have x2 := LA.out.cell (j := 2) rfl; have x3 := LA.out.cell (j := 3) rfl
  go_wp2_with fail
  refine (HRR.out _ HB.out).mono ?_
  rintro e w1 ⟨rfl, hb1⟩
  have LA := Lib.hid (LA.out.below hb1)
  have LR := Lib.hid (LR.out.below hb1)
  have HB := Lib.hid (below_next HB.out hb1)
  clear hb1 x0 x1 x2 x3
  have x0 := LA.out.cell (j := 0) rfl; have x1 := LA.out.cell (j := 1) rfl; have x2 := LA.out.cell (j := 2) rfl; have x3 := LA.out.cell (j := 3) rfl
  have y0 := LR.out.cell (j := 0) rfl; have y1 := LR.out.cell (j := 1) rfl; have y2 := LR.out.cell (j := 2) rfl; have y3 := LR.out.cell (j := 3) rfl
  have f0 := LR.out.free 0; have f1 := LR.out.free 1; have f2 := LR.out.free 2; have f3 := LR.out.free 3
  cases r
  · have e : o = (zS, 1) := HO.out
    subst e
    go_wp2_with fail
    refine abort_ret (o := (zS, 1)) (R := R) ?_ ?_ ?_ (lies_set4K LR.out _ _ _ _) ((zero_at (fun _ => False) _).at_) (below_set4K HB.out HLO.out _ _ _ _) <;> rfl
  · have e : o = (⟨[], [], s.last, s.out⟩, 0) := HO.out
    subst e
    have hB2 := below_set4K HB.out HLO.out (.slice none 0 0) (.slice none 0 0) (.int .i64 s.last) (.slice U nu cU)
    have hA : SkAt (set4K w1 R (.slice none 0 0) (.slice none 0 0) (.int .i64 s.last) (.slice U nu cU)) ⟨[], [], s.last, s.out⟩ 0 0 nu none 0 none 0 U cU :=
      ⟨[], ⟨rfl, rfl, H1.out.lnu, .inl rfl, ⟨.inl rfl, fun x hx => by cases hx⟩, H1.out.ru.below hB2, rfl, Nat.le_refl _, Nat.le_refl _, H1.out.cu, fun x hx => by cases hx⟩⟩
    clear hB2
    go_wp2_with fail
    refine abort_ret (o := (⟨[], [], s.last, s.out⟩, 0)) (R := R) ?_ ?_ ?_ (lies_set4K LR.out _ _ _ _) hA (below_set4K HB.out HLO.out _ _ _ _) <;> rfl
end Sk
end Go.Proofs.Ytmkbdlailffjeaa
