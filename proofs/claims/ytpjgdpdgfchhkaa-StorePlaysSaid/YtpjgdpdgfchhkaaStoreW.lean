/- Rows of cells being put together; the reference's with, Count. -/
import Derived.Test.YtpjgdpdgfchhkaaStoreR
import Derived.Test.YtpjgdpdgfchhkaaHold
import Derived.Maps.AppendAt
namespace Go.Proofs.Ytpjgdpdgfchhkaa
open Go.ChangeShapes Go.WideShapes Go.ChangeAt Go.RowKit
set_option linter.unusedVariables false
set_option maxRecDepth 8000
namespace So
open Gen (TellsB row_one flat_len flat_get)
theorem info_partsO {x : Option TypeInfo} {z : Value} {s b : Nat} (h : x.map (fun i => (i.zero, i.size, i.bytes)) = some (some z, s, b)) : ∃ i, x = some i ∧ i.zero = some z ∧ i.size = s ∧ i.bytes = b := by
  cases x with
  | none => cases h
  | some i =>
    simp only [Option.map_some, Option.some.injEq, Prod.mk.injEq] at h
    exact ⟨i, rfl, h.1, h.2.1, h.2.2⟩
theorem CInfo : (Try.prog.info? 43).map (fun i => (i.zero, i.size, i.bytes)) = some (some (.agg #[.string ⟨#[]⟩, .string ⟨#[]⟩]), 2, 32) := by kernel_rfl
theorem clc_len (l : List Cl) : (clc l).length = l.length * 2 := flat_len clL clL_len l
theorem clc_app (l m : List Cl) : clc (l ++ m) = clc l ++ clc m := by simp [clc]
theorem clc_ones (l : List Cl) : ∀ u ∈ clc l, u.oneCell' = true := by
  intro u hu
  obtain ⟨p, _, hp⟩ := List.mem_flatMap.1 hu
  simp only [clL, List.mem_cons, List.not_mem_nil, or_false] at hp
  rcases hp with rfl | rfl <;> rfl
theorem own_upO {w w' : World} {B size n : Nat} {e : TypeId} {v : Value} {xs : List Value} (h : w.ownsRow B e size v n xs) (hb : Below w.heap.size w w') : w'.ownsRow B e size v n xs :=
  Gen.ownsRow_block h fun k _ hk => hb.block k hk
theorem own_setO {B size n : Nat} {e : TypeId} {w : World} {u : Value} {cs : List Value} (h : w.ownsRow B e size u n cs) (p : Addr) (hp : u.ownBlock ≠ some p.block) (z : Value) : (w.setCell p z).ownsRow B e size u n cs :=
  Gen.ownsRow_block h fun k hk _ => Below.heap_setCell w p z k (fun e => hp (by rw [← e]; exact hk))
theorem own_baseO {w : World} {B B' size n : Nat} {e : TypeId} {v : Value} {xs : List Value} (h : w.ownsRow B e size v n xs) (hb : B' ≤ B) : w.ownsRow B' e size v n xs := by
  obtain ⟨hl, ⟨rfl, rfl⟩ | ⟨g, cap, cur, rfl, hg, rest⟩⟩ := h
  · exact ⟨hl, .inl ⟨rfl, rfl⟩⟩
  · exact ⟨hl, .inr ⟨g, cap, cur, rfl, Nat.le_trans hb hg, rest⟩⟩
theorem lies_grownO {w w' : World} {row : Option Nat} {b : Nat} {C : Array Value} {T : TypeId} (h : Lies b C T w) (hg : w.grownBy w' row) (hne : row ≠ some b) : Lies b C T w' :=
  (hg.block b (lt_of_block h) (fun e => hne e.symm)).trans h
theorem own_rowO {w : World} {B n c : Nat} {A : Option Addr} {l : List Cl} (h : w.ownsRow B 43 2 (.slice A n c) n (clc l)) : Row w A (clc l) ∧ n ≤ c ∧ n = l.length := by
  obtain ⟨A', c', e, h1, h2, h3, h4, _⟩ := own_form h (by omega)
  cases e
  rw [clc_len] at h3
  exact ⟨h4, h1, by omega⟩
theorem wpPushC {ops : Array Oper} {rest : List Oper} {o : Oper} {a : Act} {Q : Exit → Act → World → Prop} {B k : Nat} {w : World} (hgd : o.guard = none) (s x : Operand)
    (ho : o.op = .call { callee := .builtin .append, args := #[s, x], argTypes := #[22, 22] }) (v : Value) (ms : List Cl) (hs : a.eval s = v) (hk : k = ms.length) (h : w.ownsRow B 43 2 v k (clc ms)) (hB : B ≤ w.heap.size)
    (ad : Addr) (c : Nat) (y : Cl) (hx : a.eval x = .slice (some ad) 1 c) (hr : Row w (some ad) (clc [y])) (hlen : k ≤ 1000000)
    (hK : ∀ v' w', w'.ownsRow B 43 2 v' (k + 1) (clc (ms ++ [y])) → w.grownBy w' v.ownBlock → wpList Try.prog ops Q rest (a.put o.dst v') w') :
    wpList Try.prog ops Q (o :: rest) a w := by
  obtain ⟨i0, hi0, hz0, hz1, hz2⟩ := info_partsO CInfo
  have hcells : ∀ j u, (clc [y])[j]? = some u → w.cell? (ad.add j) = some u := by
    rcases hr with hr | ⟨b, off, hr, hc⟩
    · simp [clc, clL] at hr
    · cases hr
      intro j u hu
      rw [Go.WideShapes.add_plain]
      exact hc j u hu
  refine wpList_append_own_at w hgd s x 22 ho B 43 i0 _ 2 32 Try.underlying22 hi0 hz0 hz1 hz2 rfl (by omega) v k (clc ms) hs h ad 1 c (clc [y]) hx (by simp [clc]) hcells (clc_ones [y])
    (by unfold maxLen; omega) (by omega) hB ?_
  intro v' w' hown hg _ hat
  exact hK v' w' (by rw [clc_app]; exact hown) hg
theorem one_rowC (w : World) (p : Cl) : Row (w.alloc (.cells (clC p) 43)) (some ⟨w.heap.size, 0, none⟩) (clc [p]) := by
  refine .inr ⟨w.heap.size, 0, rfl, fun j u hu => ?_⟩
  rw [Nat.zero_add]
  exact (Lies.new w (clC p) 43).cell (by simpa [clc] using hu)
/-- The blocks of with: the cell, the row of the call's own. -/
structure WcAt (w0 : World) (x : Cl) (v : Value) (ms : List Cl) (a : World) : Prop where
  arg : Lies w0.heap.size (clC x) 43 a
  own : a.ownsRow (w0.heap.size + 1) 43 2 v ms.length (clc ms)
  below : Below w0.heap.size w0 a
  size : w0.heap.size + 1 ≤ a.heap.size
theorem WcAt.next {w0 : World} {x : Cl} {v : Value} {ms : List Cl} {a b : World} (h : WcAt w0 x v ms a) (hb : Below a.heap.size a b) : WcAt w0 x v ms b :=
  ⟨h.arg.below hb, own_upO h.own hb, below_next h.below hb, Nat.le_trans h.size hb.size⟩
theorem WcAt.push {w0 : World} {x y : Cl} {v v' : Value} {ms : List Cl} {a b : World} (h : WcAt w0 x v ms a) (hg : a.grownBy b v.ownBlock) (ho : b.ownsRow (w0.heap.size + 1) 43 2 v' (ms.length + 1) (clc (ms ++ [y]))) : WcAt w0 x v' (ms ++ [y]) b :=
  ⟨lies_grownO h.arg hg (fun e => by have := (h.own.lt _ e).1; omega), by rw [List.length_append]; exact ho, h.below.grown hg (Nat.le_trans (Nat.le_succ _) h.size) (fun q hq => by have := (h.own.lt q hq).1; omega), Nat.le_trans h.size hg.size⟩
theorem WcAt.not_new {w0 : World} {x : Cl} {v : Value} {ms : List Cl} {a : World} (h : WcAt w0 x v ms a) : v.ownBlock ≠ some a.heap.size := fun e => by have := (h.own.lt _ e).2; omega
/-- A row of its own. -/
def GivesOC (m : Nat) (ms : List Cl) (w : World) (e : Ending) (w' : World) : Prop := ∃ A c, e = .returned (.slice A m c) ∧ w'.ownsRow w.heap.size 43 2 (.slice A m c) m (clc ms) ∧ Below w.heap.size w w'
theorem wi_cons (put : Bool) (c : Cl) (r : List Cl) (x : Cl) : wi put (c :: r) x = (if !put && !less c.n x.n then [x] else []) ++ ((if c.n ≠ x.n then [c] else []) ++ wi (put || !less c.n x.n) r x) := rfl
theorem drop_get {α : Type} {l : List α} {k : Nat} {x : α} (h : l[k]? = some x) : l.drop k = x :: l.drop (k + 1) := by
  obtain ⟨hk, rfl⟩ := List.getElem?_eq_some_iff.1 h
  exact List.drop_eq_getElem_cons hk
set_option maxRecDepth 100000 in
set_option maxHeartbeats 2000000 in
theorem rfWith (l : List Cl) (x : Cl) (n : Nat) (hn : n = l.length) (ms : List Cl) (hms : ms = withC l x) (m : Nat) (hm : m = ms.length) (A : Option Addr) (c : Nat) (w : World) (h : Row w A (clc l)) (hl : n ≤ 100000) :
    Calls Try.prog 37 #[.slice A n c, .agg (clC x)] w (GivesOC m ms w) := by
  have HR := Lib.hid h
  have HN := Lib.hid hn
  have HMS := Lib.hid hms
  have HM := Lib.hid hm
  obtain ⟨p0, hp0⟩ : ∃ p, p = decide (x.b = []) := ⟨_, rfl⟩
  have HMW : Hid (ms = wi p0 l x) := Lib.hid (by rw [hms, hp0]; rfl)
  have hq0 : (kS x.b).toList.isEmpty = p0 := by rw [kS_list, hp0]; cases x.b <;> simp
  have W0 : Hid (WcAt w x (.slice (some ⟨w.heap.size + 1, 0, none⟩) 0 0) [] ((w.alloc (.cells (clC x) 43)).alloc (.cells #[] 43))) := Lib.hid
    ⟨(Lies.new w _ _).al, by have h := own_new (w := w.alloc (.cells (clC x) 43)) (B := w.heap.size + 1) (size := 2) (e := 43) (by simp); simpa using h, below_al (below_al (Below.refl _ _)), by simp⟩
  clear h hn hms hm hp0
  obtain ⟨xn, xb⟩ := x
  simp only [clC] at W0
  simp only at hq0
  go_enter Try.func37, Try.ntmps37
  go_upto_region 2 with fail
  obtain ⟨W, hW⟩ : ∃ W, W = (w.alloc (.cells #[.string (kS xn), .string (kS xb)] 43)).alloc (.cells #[] 43) := ⟨_, rfl⟩
  rw [← hW] at W0 ⊢
  clear hW
  have x0 := W0.out.arg.cell (j := 0) rfl; have x1 := W0.out.arg.cell (j := 1) rfl
  go_wp2_with fail
  clear x0 x1 hq0
  go_loopw [5, 6, 15] (fun s5 s6 s15 wr => ∃ (v : Value) (k : Nat) (put : Bool) (us : List Cl), s5 = v ∧ s6 = .bool put ∧ s15 = .int .i64 k ∧ k ≤ n ∧ ms = us ++ wi put (l.drop k) ⟨xn, xb⟩ ∧ us.length ≤ 2 * k ∧ WcAt w ⟨xn, xb⟩ v us wr) (fun _ _ s15 _ => n - (intOf s15).toNat)
  case atStart => exact ⟨_, 0, p0, [], rfl, rfl, rfl, Nat.zero_le _, HMW.out, Nat.zero_le _, W0.out⟩
  case round =>
    clear W0 HMW
    obtain ⟨v, k, put, us, rfl, rfl, rfl, hk, hus, hul, hAT⟩ := hrel
    have AT := Lib.hid hAT
    have HUS := Lib.hid hus
    have HUL := Lib.hid hul
    clear hAT hus hul
    by_cases hlt : k < n
    · obtain ⟨y, hy⟩ : ∃ y, l[k]? = some y := ⟨_, List.getElem?_eq_getElem (by rw [← HN.out]; exact hlt)⟩
      obtain ⟨q, off, hA1, c0, c1⟩ := cell_row (HR.out.below AT.out.below) hy
      subst hA1
      have hki : (k : Int) < (n : Int) := by omega
      have hw := wrapKO (k := k) (by omega)
      have HKN := Lib.hid hlt
      obtain ⟨g, hg⟩ : ∃ g, g = less y.n xn := ⟨_, rfl⟩
      obtain ⟨e, he⟩ : ∃ e, e = (y.n == xn) := ⟨_, rfl⟩
      have hq1 : ∀ w : World, (binOp .geq 9 (.string (kS y.n)) (.string (kS xn))).run Try.prog w = .ok (.bool (!g)) w := fun w => run_geqS y.n xn _ (by rw [hg]) w
      have hq2 : ((kS y.n).toList == (kS xn).toList) = e := by rw [kS_list, kS_list, he]
      have HST : Hid (ms = us ++ ((if !put && !g then [⟨xn, xb⟩] else []) ++ ((if e = false then [y] else []) ++ wi (put || !g) (l.drop (k + 1)) ⟨xn, xb⟩))) := Lib.hid (by
        rw [HUS.out, drop_get hy, wi_cons, hg, he]
        have e1 : (y.n ≠ xn) = ((y.n == xn) = false) := by simp
        simp only [e1])
      clear hy hg he hlt hk
      obtain ⟨yn, yb⟩ := y
      simp only at c0 c1 hq1 hq2
      go_upto_region 6 with fail
      clear c0 c1
      have hbx := below_al (o := .cells #[.string (kS yn), .string (kS yb)] 43) (Below.refl wr.heap.size wr)
      have A1 := Lib.hid (AT.out.next hbx)
      have LY := Lib.hid (Lies.new wr #[.string (kS yn), .string (kS yb)] 43)
      have HOB := Lib.hid AT.out.not_new
      obtain ⟨b1, hb1⟩ : ∃ b, b = wr.heap.size := ⟨_, rfl⟩
      obtain ⟨W1, hW1⟩ : ∃ W, W = wr.alloc (.cells #[.string (kS yn), .string (kS yb)] 43) := ⟨_, rfl⟩
      rw [← hW1] at A1 LY ⊢
      rw [← hb1] at LY HOB ⊢
      clear hW1 hb1 hbx AT
      cases put
      · cases g
        · have y0 := LY.out.cell (j := 0) rfl
          have x0 := A1.out.arg.cell (j := 0) rfl; have x1 := A1.out.arg.cell (j := 1) rfl
          go_wp2_with (at_builtin; refine hold_mk ?_)
          refine hold_out ?_
          have hbz := below_al (o := .cells #[.string (kS xn), .string (kS xb)] 43) (Below.refl W1.heap.size W1)
          have AZ := Lib.hid (A1.out.next hbz)
          have LZ := Lib.hid (LY.out.below hbz)
          have hro := one_rowC W1 ⟨xn, xb⟩
          refine wpPushC rfl _ _ rfl u5 us rfl rfl AZ.out.own AZ.out.size _ 1 ⟨xn, xb⟩ rfl hro (by have h1 := HUL.out; have h2 := HKN.out; omega) ?_
          intro v9 w9 bt9 hg9
          have A9 := Lib.hid (AZ.out.push hg9 bt9)
          have LY9 := Lib.hid (lies_grownO LZ.out hg9 HOB.out)
          clear y0 bt9 hg9 hbz hro x0 x1
          cases e
          · have x0 := LY9.out.cell (j := 0) rfl; have x1 := LY9.out.cell (j := 1) rfl
            have z0 := A9.out.arg.cell (j := 0) rfl
            go_wp2_with (at_builtin; refine hold_mk ?_)
            refine hold_out ?_
            have hbz := below_al (o := .cells #[.string (kS yn), .string (kS yb)] 43) (Below.refl w9.heap.size w9)
            have AZ := Lib.hid (A9.out.next hbz)
            have hro := one_rowC w9 ⟨yn, yb⟩
            refine wpPushC rfl _ _ rfl v9 (us ++ [⟨xn, xb⟩]) rfl rfl AZ.out.own AZ.out.size _ 1 ⟨yn, yb⟩ rfl hro (by have h1 := HUL.out; have h2 := HKN.out; simp only [List.length_append, List.length_cons, List.length_nil]; omega) ?_
            intro v8 w8 bt9 hg9
            have A10 := Lib.hid (AZ.out.push hg9 bt9)
            clear z0 bt9 hg9 hbz hro x0 x1
            go_wp2_with fail
            go_roundw
            case rel => exact ⟨_, k + 1, true, (us ++ [⟨xn, xb⟩]) ++ [⟨yn, yb⟩], rfl, rfl, rfl, HKN.out, by rw [HST.out]; simp, by have h1 := HUL.out; (try simp only [List.length_append, List.length_cons, List.length_nil]); omega, A10.out⟩
            case measure => simp [intOf]; have := HKN.out; omega
          · have x0 := LY9.out.cell (j := 0) rfl; have z0 := A9.out.arg.cell (j := 0) rfl
            go_wp2_with fail
            go_roundw
            case rel => exact ⟨_, k + 1, true, (us ++ [⟨xn, xb⟩]), rfl, rfl, rfl, HKN.out, by rw [HST.out]; simp, by have h1 := HUL.out; (try simp only [List.length_append, List.length_cons, List.length_nil]); omega, A9.out⟩
            case measure => simp [intOf]; have := HKN.out; omega
        · have y0 := LY.out.cell (j := 0) rfl
          have p0' := A1.out.arg.cell (j := 0) rfl
          go_upto_region 9 with fail
          clear y0 p0'
          cases e
          · have x0 := LY.out.cell (j := 0) rfl; have x1 := LY.out.cell (j := 1) rfl
            have z0 := A1.out.arg.cell (j := 0) rfl
            go_wp2_with (at_builtin; refine hold_mk ?_)
            refine hold_out ?_
            have hbz := below_al (o := .cells #[.string (kS yn), .string (kS yb)] 43) (Below.refl W1.heap.size W1)
            have AZ := Lib.hid (A1.out.next hbz)
            have hro := one_rowC W1 ⟨yn, yb⟩
            refine wpPushC rfl _ _ rfl u5 us rfl rfl AZ.out.own AZ.out.size _ 1 ⟨yn, yb⟩ rfl hro (by have h1 := HUL.out; have h2 := HKN.out; omega) ?_
            intro v9 w9 bt9 hg9
            have A10 := Lib.hid (AZ.out.push hg9 bt9)
            clear z0 bt9 hg9 hbz hro x0 x1
            go_wp2_with fail
            go_roundw
            case rel => exact ⟨_, k + 1, false, us ++ [⟨yn, yb⟩], rfl, rfl, rfl, HKN.out, by rw [HST.out]; simp, by have h1 := HUL.out; (try simp only [List.length_append, List.length_cons, List.length_nil]); omega, A10.out⟩
            case measure => simp [intOf]; have := HKN.out; omega
          · have x0 := LY.out.cell (j := 0) rfl; have z0 := A1.out.arg.cell (j := 0) rfl
            go_wp2_with fail
            go_roundw
            case rel => exact ⟨_, k + 1, false, us, rfl, rfl, rfl, HKN.out, by rw [HST.out]; simp, by have h1 := HUL.out; (try simp only [List.length_append, List.length_cons, List.length_nil]); omega, A1.out⟩
            case measure => simp [intOf]; have := HKN.out; omega
      · go_upto_region 9 with fail
        cases e
        · have x0 := LY.out.cell (j := 0) rfl; have x1 := LY.out.cell (j := 1) rfl
          have z0 := A1.out.arg.cell (j := 0) rfl
          go_wp2_with (at_builtin; refine hold_mk ?_)
          refine hold_out ?_
          have hbz := below_al (o := .cells #[.string (kS yn), .string (kS yb)] 43) (Below.refl W1.heap.size W1)
          have AZ := Lib.hid (A1.out.next hbz)
          have hro := one_rowC W1 ⟨yn, yb⟩
          refine wpPushC rfl _ _ rfl u5 us rfl rfl AZ.out.own AZ.out.size _ 1 ⟨yn, yb⟩ rfl hro (by have h1 := HUL.out; have h2 := HKN.out; omega) ?_
          intro v9 w9 bt9 hg9
          have A10 := Lib.hid (AZ.out.push hg9 bt9)
          clear z0 bt9 hg9 hbz hro x0 x1
          go_wp2_with fail
          go_roundw
          case rel => exact ⟨_, k + 1, true, us ++ [⟨yn, yb⟩], rfl, rfl, rfl, HKN.out, by rw [HST.out]; simp, by have h1 := HUL.out; (try simp only [List.length_append, List.length_cons, List.length_nil]); omega, A10.out⟩
          case measure => simp [intOf]; have := HKN.out; omega
        · have x0 := LY.out.cell (j := 0) rfl; have z0 := A1.out.arg.cell (j := 0) rfl
          go_wp2_with fail
          go_roundw
          case rel => exact ⟨_, k + 1, true, us, rfl, rfl, rfl, HKN.out, by rw [HST.out]; simp, by have h1 := HUL.out; (try simp only [List.length_append, List.length_cons, List.length_nil]); omega, A1.out⟩
          case measure => simp [intOf]; have := HKN.out; omega
    · have hki : ¬ (k : Int) < (n : Int) := by omega
      have HUE : Hid (ms = us ++ (if put then [] else [⟨xn, xb⟩])) := Lib.hid (by rw [HUS.out, List.drop_of_length_le (by rw [← HN.out]; omega)]; rfl)
      cases put
      · have x0 := AT.out.arg.cell (j := 0) rfl; have x1 := AT.out.arg.cell (j := 1) rfl
        go_wp2_with (at_builtin; refine hold_mk ?_)
        refine hold_out ?_
        have hbz := below_al (o := .cells #[.string (kS xn), .string (kS xb)] 43) (Below.refl wr.heap.size wr)
        have AZ := Lib.hid (AT.out.next hbz)
        have hro := one_rowC wr ⟨xn, xb⟩
        refine wpPushC rfl _ _ rfl u5 us rfl rfl AZ.out.own AZ.out.size _ 1 ⟨xn, xb⟩ rfl hro (by have h1 := HUL.out; omega) ?_
        intro v9 w9 bt9 hg9
        have A9 := Lib.hid (AZ.out.push hg9 bt9)
        clear bt9 hg9 hbz hro x0 x1
        obtain ⟨V9, c9, rfl, _⟩ := own_form A9.out.own (by omega)
        go_wp2_with fail
        go_ret
        have hmm : m = us.length + 1 := by rw [HM.out, HUE.out]; simp
        have hO := A9.out.own
        rw [show (us ++ [(⟨xn, xb⟩ : Cl)]).length = us.length + 1 by simp] at hO
        rw [hmm]
        exact ⟨_, _, rfl, by rw [HUE.out]; exact own_baseO hO (Nat.le_succ _), A9.out.below⟩
      · obtain ⟨V9, c9, rfl, _⟩ := own_form AT.out.own (by omega)
        go_wp2_with fail
        go_ret
        have hmm : m = us.length := by rw [HM.out, HUE.out]; simp
        have hme : ms = us := by rw [HUE.out]; simp
        rw [hmm]
        exact ⟨_, _, rfl, by rw [hme]; exact own_baseO AT.out.own (Nat.le_succ _), AT.out.below⟩
end So
end Go.Proofs.Ytpjgdpdgfchhkaa
