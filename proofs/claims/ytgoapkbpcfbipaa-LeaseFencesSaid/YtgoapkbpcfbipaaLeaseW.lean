/- A row of leases being put together; the reference's with. -/
import Derived.Test.YtgoapkbpcfbipaaLeaseH
import Derived.Test.YtgoapkbpcfbipaaHold
import Derived.Maps.AppendAt
namespace Go.Proofs.Ytgoapkbpcfbipaa
open Go.ChangeShapes Go.WideShapes Go.ChangeAt Go.RowKit
set_option linter.unusedVariables false
set_option maxRecDepth 8000
namespace Ls
open Gen (TellsB TellsI SaysB row_one flat_len)
open Tick (cl addT)
theorem info_partsS {x : Option TypeInfo} {z : Value} {s b : Nat} (h : x.map (fun i => (i.zero, i.size, i.bytes)) = some (some z, s, b)) : ∃ i, x = some i ∧ i.zero = some z ∧ i.size = s ∧ i.bytes = b := by
  cases x with
  | none => cases h
  | some i =>
    simp only [Option.map_some, Option.some.injEq, Prod.mk.injEq] at h
    exact ⟨i, rfl, h.1, h.2.1, h.2.2⟩
theorem LInfo : (Try.prog.info? 47).map (fun i => (i.zero, i.size, i.bytes)) = some (some (.agg #[.int .i64 0, .int .i64 0, .int .i64 0]), 3, 24) := by kernel_rfl
theorem lec_len (l : List Le) : (lec l).length = l.length * 3 := flat_len leL leL_len l
theorem lec_app (l m : List Le) : lec (l ++ m) = lec l ++ lec m := by simp [lec]
theorem lec_ones (l : List Le) : ∀ u ∈ lec l, u.oneCell' = true := by
  intro u hu
  obtain ⟨p, _, hp⟩ := List.mem_flatMap.1 hu
  simp only [leL, List.mem_cons, List.not_mem_nil, or_false] at hp
  rcases hp with rfl | rfl | rfl <;> rfl
theorem own_upS {w w' : World} {B size n : Nat} {e : TypeId} {v : Value} {xs : List Value} (h : w.ownsRow B e size v n xs) (hb : Below w.heap.size w w') : w'.ownsRow B e size v n xs := by
  obtain ⟨hl, ⟨rfl, rfl⟩ | ⟨g, cap, cur, rfl, hg, hh, hn, hm, hc, hx⟩⟩ := h
  · exact ⟨hl, .inl ⟨rfl, rfl⟩⟩
  · exact ⟨hl, .inr ⟨g, cap, cur, rfl, hg, (hb.block g (Array.getElem?_eq_some_iff.1 hh).1).trans hh, hn, hm, hc, hx⟩⟩
theorem own_setS {B size n : Nat} {e : TypeId} {w : World} {u : Value} {cs : List Value} (h : w.ownsRow B e size u n cs) (p : Addr) (hp : u.ownBlock ≠ some p.block) (z : Value) : (w.setCell p z).ownsRow B e size u n cs := by
  obtain ⟨hl, ⟨rfl, rfl⟩ | ⟨g, cap, cur, rfl, hg, hh, hn, hm, hc, hx⟩⟩ := h
  · exact ⟨hl, .inl ⟨rfl, rfl⟩⟩
  · exact ⟨hl, .inr ⟨g, cap, cur, rfl, hg, (Below.heap_setCell w p z g (fun e => hp (by rw [← e]; rfl))).trans hh, hn, hm, hc, hx⟩⟩
theorem own_baseS {w : World} {B B' size n : Nat} {e : TypeId} {v : Value} {xs : List Value} (h : w.ownsRow B e size v n xs) (hb : B' ≤ B) : w.ownsRow B' e size v n xs := by
  obtain ⟨hl, ⟨rfl, rfl⟩ | ⟨g, cap, cur, rfl, hg, rest⟩⟩ := h
  · exact ⟨hl, .inl ⟨rfl, rfl⟩⟩
  · exact ⟨hl, .inr ⟨g, cap, cur, rfl, Nat.le_trans hb hg, rest⟩⟩
theorem lies_grownS {w w' : World} {row : Option Nat} {b : Nat} {C : Array Value} {T : TypeId} (h : Lies b C T w) (hg : w.grownBy w' row) (hne : row ≠ some b) : Lies b C T w' :=
  (hg.block b (lt_of_block h) (fun e => hne e.symm)).trans h
theorem row_grownS {w w' : World} {row : Option Nat} {A : Option Addr} {cs : List Value} {B : Nat} (h : Row w A cs) (hg : w.grownBy w' row) (hne : ∀ q, row = some q → B ≤ q) (hA : ∀ a, A = some a → cs ≠ [] → a.block < B) : Row w' A cs := by
  rcases h with rfl | ⟨q, off, rfl, hc⟩
  · exact .inl rfl
  · by_cases e : cs = []
    · exact .inl e
    · refine .inr ⟨q, off, rfl, fun j u hu => ?_⟩
      have h1 := hc j u hu
      have h2 := hg.block q (lt_of_cell h1) (fun e2 => by have := hne q e2.symm; have := hA _ rfl e; simp only at this; omega)
      unfold World.cell? at h1 ⊢
      rw [h2]; exact h1
theorem wpPushL {ops : Array Oper} {rest : List Oper} {o : Oper} {a : Act} {Q : Exit → Act → World → Prop} {B k : Nat} {w : World} (hgd : o.guard = none) (s x : Operand)
    (ho : o.op = .call { callee := .builtin .append, args := #[s, x], argTypes := #[22, 22] }) (v : Value) (ms : List Le) (hs : a.eval s = v) (hk : k = ms.length) (h : w.ownsRow B 47 3 v k (lec ms)) (hB : B ≤ w.heap.size)
    (ad : Addr) (c : Nat) (y : Le) (hx : a.eval x = .slice (some ad) 1 c) (hr : Row w (some ad) (lec [y])) (hlen : k ≤ 100000)
    (hK : ∀ v' w', w'.ownsRow B 47 3 v' (k + 1) (lec (ms ++ [y])) → w.grownBy w' v.ownBlock → wpList Try.prog ops Q rest (a.put o.dst v') w') :
    wpList Try.prog ops Q (o :: rest) a w := by
  obtain ⟨i0, hi0, hz0, hz1, hz2⟩ := info_partsS LInfo
  have hcells : ∀ j u, (lec [y])[j]? = some u → w.cell? (ad.add j) = some u := by
    rcases hr with hr | ⟨b, off, hr, hc⟩
    · simp [lec, leL] at hr
    · cases hr
      intro j u hu
      rw [Go.WideShapes.add_plain]
      exact hc j u hu
  refine wpList_append_own_at w hgd s x 22 ho B 47 i0 _ 3 24 Try.underlying22 hi0 hz0 hz1 hz2 rfl (by omega) v k (lec ms) hs h ad 1 c (lec [y]) hx (by simp [lec]) hcells (lec_ones [y])
    (by unfold maxLen; omega) (by omega) hB ?_
  intro v' w' hown hg _ hat
  exact hK v' w' (by rw [lec_app]; exact hown) hg
theorem one_rowL (w : World) (p : Le) : Row (w.alloc (.cells (leC p) 47)) (some ⟨w.heap.size, 0, none⟩) (lec [p]) := by
  refine .inr ⟨w.heap.size, 0, rfl, fun j u hu => ?_⟩
  rw [Nat.zero_add]
  exact (Lies.new w (leC p) 47).cell (by simpa [lec] using hu)
/-- The blocks of with. -/
structure WiAt (w : World) (A : Option Addr) (n c : Nat) (last : Int) (ls : List Le) (x : Le) (v : Value) (k : Nat) (ms : List Le) (a : World) : Prop where
  arg : Lies w.heap.size #[.slice A n c, .int .i64 last] 24 a
  one : Lies (w.heap.size + 1) (leC x) 47 a
  res : Lies (w.heap.size + 1 + 1) #[.slice none 0 0, .int .i64 0] 24 a
  out : Lies (w.heap.size + 1 + 1 + 1) #[v, .int .i64 last] 24 a
  own : a.ownsRow (w.heap.size + 4) 47 3 v k (lec ms)
  below : Below w.heap.size w a
  size : w.heap.size + 4 ≤ a.heap.size
theorem WiAt.next {w : World} {A : Option Addr} {n c : Nat} {last : Int} {ls : List Le} {x : Le} {v : Value} {k : Nat} {ms : List Le} {a b : World} (h : WiAt w A n c last ls x v k ms a) (hb : Below a.heap.size a b) : WiAt w A n c last ls x v k ms b :=
  ⟨h.arg.below hb, h.one.below hb, h.res.below hb, h.out.below hb, own_upS h.own hb, below_next h.below hb, Nat.le_trans h.size hb.size⟩
/-- One is put behind. -/
theorem WiAt.put {w : World} {A : Option Addr} {n c : Nat} {last : Int} {ls : List Le} {x : Le} {v : Value} {k : Nat} {ms : List Le} {a b : World} (h : WiAt w A n c last ls x v k ms a) (hg : a.grownBy b v.ownBlock) {v' : Value} {ms' : List Le} {k' : Nat} (ho : b.ownsRow (w.heap.size + 4) 47 3 v' k' (lec ms')) :
    WiAt w A n c last ls x v' k' ms' (b.setCell ⟨w.heap.size + 1 + 1 + 1, 0, none⟩ v') := by
  have hf : ∀ q, v.ownBlock = some q → w.heap.size + 4 ≤ q := fun q hq => (h.own.lt q hq).1
  have hf' : v'.ownBlock ≠ some (w.heap.size + 1 + 1 + 1) := fun e => by have := (ho.lt _ e).1; omega
  refine ⟨(lies_grownS h.arg hg fun e => by have := hf _ e; omega).other (by omega) _ _, (lies_grownS h.one hg fun e => by have := hf _ e; omega).other (by omega) _ _, (lies_grownS h.res hg fun e => by have := hf _ e; omega).other (by omega) _ _,
    by have := (lies_grownS h.out hg fun e => by have := hf _ e; omega).set 0 v'; simpa using this, own_setS ho ⟨_, 0, none⟩ hf' v', (h.below.grown hg h.below.size fun q hq => by have := hf q hq; omega).setCell (p := ⟨w.heap.size + 1 + 1 + 1, 0, none⟩) (show w.heap.size ≤ w.heap.size + 1 + 1 + 1 by omega) _, ?_⟩
  have := h.size
  have h2 := hg.size
  simp
  omega
/-- What it hands back: a table in new memory. -/
def GivesT (n : Nat) (last : Int) (ms : List Le) (w : World) (e : Ending) (w' : World) : Prop :=
  ∃ A c, e = .returned (.agg #[.slice A n c, .int .i64 last]) ∧ w'.ownsRow w.heap.size 47 3 (.slice A n c) n (lec ms) ∧ Below w.heap.size w w'
theorem with_ret {w wF : World} {R n : Nat} {last : Int} {ms : List Le} {A : Option Addr} {c : Nat} {act : Act} (ht : act.tmps.getD 6 undef = .pointer (some ⟨R, 0, none⟩)) (hd : act.defers = [])
    (hL : Lies R #[.slice A n c, .int .i64 last] 24 wF) (h1 : wF.ownsRow w.heap.size 47 3 (.slice A n c) n (lec ms)) (hB : Below w.heap.size w wF) :
    bodyPost Try.prog Try.f35 (GivesT n last ms w) .ret act wF := by
  have c0 := hL.cell (j := 0) rfl
  have c1 := hL.cell (j := 1) rfl
  refine bodyPost_ret (v := .agg #[.slice A n c, .int .i64 last]) ?_ hd ⟨A, c, rfl, h1, hB⟩
  have ht2 : act.tmps[6]?.getD undef = .pointer (some ⟨R, 0, none⟩) := by simpa using ht
  simp [results, Try.results35, go_sem, ht2, c0, c1]
theorem set_take {ls : List Le} {g : Nat} {x y : Le} {k : Nat} (hy : ls[k]? = some y) : (ls.set g x).take (k + 1) = (ls.set g x).take k ++ [if k = g then x else y] := by
  rw [List.take_add_one]
  congr 1
  by_cases e : k = g
  · subst e
    rw [List.getElem?_set_self (List.getElem?_eq_some_iff.1 hy).1, if_pos rfl]
    rfl
  · rw [List.getElem?_set_ne (fun h => e h.symm), hy, if_neg e]
    rfl
set_option maxRecDepth 100000 in
set_option maxHeartbeats 1000000 in
theorem rfWith (ls : List Le) (n : Nat) (last : Int) (g : Nat) (x : Le) (A : Option Addr) (c : Nat) (hn : n = ls.length) (w : World) (h : Row w A (lec ls)) (hl : n ≤ 100000) :
    Calls Try.prog 35 #[.agg #[.slice A n c, .int .i64 last], .int .i64 (g : Int), .agg (leC x)] w (GivesT n last (ls.set g x) w) := by
  have HR0 := Lib.hid h
  have HN := Lib.hid hn
  clear h hn
  go_enter Try.func35, Try.ntmps35
  have WI : Hid (WiAt w A n c last ls x (.slice none 0 0) 0 [] ((((w.alloc (.cells #[.slice A n c, .int .i64 last] 24)).alloc (.cells (leC x) 47)).alloc (.cells #[.slice none 0 0, .int .i64 0] 24)).alloc (.cells #[.slice none 0 0, .int .i64 last] 24))) := Lib.hid
    ⟨(((Lies.new w _ _).al).al).al, ((Gen.lies_new1 w _ _ _).al).al, (Gen.lies_new2 w _ _ _ _).al, by have := Lies.new (((w.alloc (.cells #[.slice A n c, .int .i64 last] 24)).alloc (.cells (leC x) 47)).alloc (.cells #[.slice none 0 0, .int .i64 0] 24)) #[.slice none 0 0, .int .i64 last] 24; simpa using this, own_none, below_al (below_al (below_al (below_al (Below.refl _ _)))), by simp⟩
  go_upto_region 2 with fail
  obtain ⟨W, hW⟩ : ∃ W, W = ((((w.alloc (.cells #[.slice A n c, .int .i64 last] 24)).alloc (.cells #[.int .i64 x.own, .int .i64 x.tok, .int .i64 x.unt] 47)).alloc (.cells #[.slice none 0 0, .int .i64 0] 24)).alloc (.cells #[.slice none 0 0, .int .i64 last] 24)) := ⟨_, rfl⟩
  try simp only [leC] at WI
  rw [← hW] at WI ⊢
  clear hW
  have x0 := WI.out.arg.cell (j := 0) rfl
  go_wp2_with fail
  clear x0
  go_loopw [16] (fun i wr => ∃ (k : Nat) (v : Value) (ms : List Le), i = .int .i64 k ∧ k ≤ n ∧ ms = (ls.set g x).take k ∧ WiAt w A n c last ls x v k ms wr) (fun i _ => n - (intOf i).toNat)
  case atStart => exact ⟨0, _, _, rfl, Nat.zero_le _, rfl, WI.out⟩
  case round =>
    clear WI
    obtain ⟨k, v, ms, rfl, hk, hms, hAT⟩ := hrel
    have AT := Lib.hid hAT
    have HM := Lib.hid hms
    have HMS : Hid (k = ms.length) := Lib.hid (by rw [hms, List.length_take, List.length_set, ← HN.out]; omega)
    clear hAT hms
    by_cases hlt : k < n
    · obtain ⟨y, hy⟩ : ∃ y, ls[k]? = some y := ⟨_, List.getElem?_eq_getElem (by rw [← HN.out]; exact hlt)⟩
      obtain ⟨q, off, rfl, d0, d1, d2⟩ := lease_row (HR0.out.below AT.out.below) hy
      have HST : Hid ((ls.set g x).take (k + 1) = ms ++ [if k = g then x else y]) := Lib.hid (by rw [HM.out]; exact set_take hy)
      have hki : (k : Int) < (n : Int) := by omega
      have hw := wrapK (k := k) (by omega)
      have w0 := AT.out.one.cell (j := 0) rfl; have w1 := AT.out.one.cell (j := 1) rfl; have w2 := AT.out.one.cell (j := 2) rfl
      have hlt1 := lt_of_block AT.out.one
      clear hy
      by_cases hkg : k = g
      · have g1 : ((k : Int) == (g : Int)) = true := eq_b (by omega)
        have HKG := Lib.hid hkg
        clear hkg
        · have hkg := HKG
          go_upto_region 7 with fail
          clear d0 d1 d2
          have AZ := Lib.hid (AT.out.next (below_al (o := .cells (leC x) 47) (Below.refl wr.heap.size wr)))
          have LZ := Lib.hid (Lies.new wr (leC x) 47)
          obtain ⟨b9, hb9⟩ : ∃ b, b = wr.heap.size := ⟨_, rfl⟩
          obtain ⟨W7, hW7⟩ : ∃ W, W = wr.alloc (.cells (leC x) 47) := ⟨_, rfl⟩
          try simp only [leC] at hW7 LZ
          rw [← hW7] at AZ LZ ⊢
          rw [← hb9] at LZ ⊢
          clear hW7 hb9 AT
          have o0 := AZ.out.out.cell (j := 0) rfl
          have e0 := LZ.out.cell (j := 0) rfl; have e1 := LZ.out.cell (j := 1) rfl; have e2 := LZ.out.cell (j := 2) rfl
          go_wp2_with (at_builtin; refine hold_mk ?_)
          refine hold_out ?_
          have hro := one_rowL W7 x
          have A8 := Lib.hid (AZ.out.next (below_al (o := .cells (leC x) 47) (Below.refl W7.heap.size W7)))
          refine wpPushL rfl _ _ rfl v ms rfl HMS.out A8.out.own A8.out.size _ 1 x rfl hro (by omega) ?_
          intro v9 w9 bt9 hg9
          obtain ⟨V9, c9, rfl, _⟩ := own_form bt9 (by omega)
          have A9 := Lib.hid (A8.out.put hg9 bt9)
          have LO := Lib.hid (lies_grownS A8.out.out hg9 fun e => by have := (A8.out.own.lt _ e).1; omega)
          clear bt9 hg9 hro o0 e0 e1 e2
          have o0 := LO.out.cell (j := 0) rfl
          have f0 := LO.out.free 0
          go_wp2_with fail
          go_roundw
          case rel => exact ⟨k + 1, _, _, rfl, by omega, by rw [HST.out, if_pos hkg.out], A9.out⟩
          case measure => simp [intOf]; omega
      · have g1 : ((k : Int) == (g : Int)) = false := ne_b (by omega)
        have HKG := Lib.hid hkg
        clear hkg w0 w1 w2
        · have hkg := HKG
          go_upto_region 7 with fail
          clear d0 d1 d2
          have AZ := Lib.hid (AT.out.next (below_al (o := .cells (leC y) 47) (Below.refl wr.heap.size wr)))
          have LZ := Lib.hid (Lies.new wr (leC y) 47)
          obtain ⟨b9, hb9⟩ : ∃ b, b = wr.heap.size := ⟨_, rfl⟩
          obtain ⟨W7, hW7⟩ : ∃ W, W = wr.alloc (.cells (leC y) 47) := ⟨_, rfl⟩
          try simp only [leC] at hW7 LZ
          rw [← hW7] at AZ LZ ⊢
          rw [← hb9] at LZ ⊢
          clear hW7 hb9 AT
          have o0 := AZ.out.out.cell (j := 0) rfl
          have e0 := LZ.out.cell (j := 0) rfl; have e1 := LZ.out.cell (j := 1) rfl; have e2 := LZ.out.cell (j := 2) rfl
          go_wp2_with (at_builtin; refine hold_mk ?_)
          refine hold_out ?_
          have hro := one_rowL W7 y
          have A8 := Lib.hid (AZ.out.next (below_al (o := .cells (leC y) 47) (Below.refl W7.heap.size W7)))
          refine wpPushL rfl _ _ rfl v ms rfl HMS.out A8.out.own A8.out.size _ 1 y rfl hro (by omega) ?_
          intro v9 w9 bt9 hg9
          obtain ⟨V9, c9, rfl, _⟩ := own_form bt9 (by omega)
          have A9 := Lib.hid (A8.out.put hg9 bt9)
          have LO := Lib.hid (lies_grownS A8.out.out hg9 fun e => by have := (A8.out.own.lt _ e).1; omega)
          clear bt9 hg9 hro o0 e0 e1 e2
          have o0 := LO.out.cell (j := 0) rfl
          have f0 := LO.out.free 0
          go_wp2_with fail
          go_roundw
          case rel => exact ⟨k + 1, _, _, rfl, by omega, by rw [HST.out, if_neg hkg.out], A9.out⟩
          case measure => simp [intOf]; omega
    · have hki : ¬ (k : Int) < (n : Int) := by omega
      have hkn : k = n := by omega
      have HTK : Hid (ms = ls.set g x) := Lib.hid (by rw [HM.out, List.take_of_length_le (by rw [List.length_set, ← HN.out]; omega)])
      obtain ⟨VA, vc, rfl, _⟩ := own_form AT.out.own (by omega)
      have o0 := AT.out.out.cell (j := 0) rfl; have o1 := AT.out.out.cell (j := 1) rfl
      have r0 := AT.out.res.cell (j := 0) rfl; have r1 := AT.out.res.cell (j := 1) rfl
      have f0 := AT.out.res.free 0; have f1 := AT.out.res.free 1
      have OWN := Lib.hid (own_setS (own_setS AT.out.own ⟨w.heap.size + 1 + 1, 0, none⟩ (fun e => by have := (AT.out.own.lt _ e).1; simp only at this; omega) (.slice VA k vc)) ⟨w.heap.size + 1 + 1, 1, none⟩ (fun e => by have := (AT.out.own.lt _ e).1; simp only at this; omega) (.int .i64 last))
      have BEL := Lib.hid ((AT.out.below.setCell (p := ⟨w.heap.size + 1 + 1, 0, none⟩) (show w.heap.size ≤ w.heap.size + 1 + 1 by omega) (.slice VA k vc)).setCell (p := ⟨w.heap.size + 1 + 1, 1, none⟩) (show w.heap.size ≤ w.heap.size + 1 + 1 by omega) (.int .i64 last))
      have LRS := Lib.hid (by have h := (AT.out.res.set 0 (.slice VA k vc)).set 1 (.int .i64 last); simpa using h : Lies (w.heap.size + 1 + 1) #[.slice VA k vc, .int .i64 last] 24 ((wr.setCell ⟨w.heap.size + 1 + 1, 0, none⟩ (.slice VA k vc)).setCell ⟨w.heap.size + 1 + 1, 1, none⟩ (.int .i64 last)))
      subst hkn
      go_wp2_with fail
      exact with_ret rfl rfl LRS.out (by have h := OWN.out; rw [HTK.out] at h; exact own_baseS h (by omega)) BEL.out
end Ls
end Go.Proofs.Ytgoapkbpcfbipaa
