/- A range over a function whose iterator may itself range over one: whose block is whose is told by a set. -/
import Derived.RangeFuncNested
import Derived.RangeFuncBound
import Derived.RangeFuncCalls
import Derived.RangeFuncLeaves
import Derived.RangeFuncBox
import Derived.WalkKit
namespace Go.Proofs.Ytgbklmncfajcgaa
open Go.RowKit
set_option linter.unusedVariables false
namespace Over
variable {F : Fence} {n : Nat} {P : Program} {α β : Type}

/-- From W to W' nobody but the owner of M has turned what lay: blocks of M alone, and new ones. -/
structure Mine (M : Nat → Prop) (W W' : World) : Prop where
  os : W'.os = W.os
  tape : W'.tape = W.tape
  output : W'.output = W.output
  size : W.heap.size ≤ W'.heap.size
  block : ∀ k, k < W.heap.size → ¬ M k → W'.heap[k]? = W.heap[k]?
/-- Below B, and in M, all lies as it lay. -/
structure Kept (B : Nat) (M : Nat → Prop) (W W' : World) : Prop where
  size : W.heap.size ≤ W'.heap.size
  block : ∀ k, k < W.heap.size → (k < B ∨ M k) → W'.heap[k]? = W.heap[k]?
/-- What the one side holds true stands while the other one turns its own blocks (and lays new ones, which are its own). -/
def Abide (J : (Nat → Prop) → β → World → Prop) : Prop :=
  ∀ M M' s W W', J M s W → Mine M W W' → (∀ k, M' k → M k ∨ (W.heap.size ≤ k ∧ k < W'.heap.size)) → J M' s W'

theorem Mine.refl (M : Nat → Prop) (W : World) : Mine M W W := ⟨rfl, rfl, rfl, Nat.le_refl _, fun _ _ _ => rfl⟩
theorem Mine.sub {M M' : Nat → Prop} {W W' : World} (h : Mine M W W') (hs : ∀ k, M k → M' k) : Mine M' W W' := ⟨h.os, h.tape, h.output, h.size, fun k hk hn => h.block k hk fun hm => hn (hs k hm)⟩
theorem Mine.trans {M : Nat → Prop} {X Y Z : World} (h : Mine M X Y) (k : Mine M Y Z) : Mine M X Z :=
  ⟨k.os.trans h.os, k.tape.trans h.tape, k.output.trans h.output, Nat.le_trans h.size k.size, fun i hi hn => (k.block i (Nat.lt_of_lt_of_le hi h.size) hn).trans (h.block i hi hn)⟩
theorem Mine.alloc (M : Nat → Prop) (W : World) (o : Obj) : Mine M W (W.alloc o) := ⟨rfl, rfl, rfl, by simp, fun k hk _ => Below.heap_alloc W o k hk⟩
theorem Mine.put {M : Nat → Prop} (W : World) {l : Nat} (o : Obj) (h : M l) : Mine M W (W.putObj l o) := ⟨rfl, rfl, rfl, by simp, fun k _ hn => World.putObj_heap_other fun e => hn (e ▸ h)⟩
theorem Mine.set {M : Nat → Prop} (W : World) {a : Addr} (v : Value) (h : M a.block) : Mine M W (W.setCell a v) :=
  ⟨rfl, rfl, rfl, by show W.heap.size ≤ (W.heap.modify _ _).size; rw [Array.size_modify]; exact Nat.le_refl _, fun k _ hn => Below.heap_setCell W a v k fun e => hn (e ▸ h)⟩
theorem Mine.of_below {M : Nat → Prop} {B : Nat} {W W' : World} (h : Below B W W') (hB : W.heap.size ≤ B) : Mine M W W' := ⟨h.os, h.tape, h.output, h.size, fun k hk _ => h.block k (by omega)⟩
theorem Kept.refl (B : Nat) (M : Nat → Prop) (W : World) : Kept B M W W := ⟨Nat.le_refl _, fun _ _ _ => rfl⟩
theorem Kept.trans {B : Nat} {M : Nat → Prop} {X Y Z : World} (h : Kept B M X Y) (k : Kept B M Y Z) : Kept B M X Z :=
  ⟨Nat.le_trans h.size k.size, fun i hi hm => (k.block i (Nat.lt_of_lt_of_le hi h.size) hm).trans (h.block i hi hm)⟩
theorem Kept.sub {B B' : Nat} {M M' : Nat → Prop} {W W' : World} (h : Kept B M W W') (hB : B' ≤ B) (hs : ∀ k, M' k → k < B ∨ M k) : Kept B' M' W W' :=
  ⟨h.size, fun k hk hm => h.block k hk (hm.elim (fun h => .inl (by omega)) (hs k))⟩
theorem Kept.alloc (B : Nat) (M : Nat → Prop) (W : World) (o : Obj) : Kept B M W (W.alloc o) := ⟨by simp, fun k hk _ => Below.heap_alloc W o k hk⟩
theorem Kept.put {B : Nat} {M : Nat → Prop} (W : World) {l : Nat} (o : Obj) (hB : B ≤ l) (hM : ¬ M l) : Kept B M W (W.putObj l o) :=
  ⟨by simp, fun k _ hm => World.putObj_heap_other fun e => by subst e; exact hm.elim (fun h => by omega) hM⟩
theorem Kept.set {B : Nat} {M : Nat → Prop} (W : World) {a : Addr} (v : Value) (hB : B ≤ a.block) (hM : ¬ M a.block) : Kept B M W (W.setCell a v) :=
  ⟨by show W.heap.size ≤ (W.heap.modify _ _).size; rw [Array.size_modify]; exact Nat.le_refl _,
   fun k _ hm => Below.heap_setCell W a v k fun e => by subst e; exact hm.elim (fun h => by omega) hM⟩
theorem Kept.grown {B : Nat} {M : Nat → Prop} {W W' : World} {row : Option Nat} (hg : W.grownBy W' row) (h : ∀ k, row = some k → B ≤ k ∧ ¬ M k) : Kept B M W W' :=
  ⟨hg.size, fun k hk hm => hg.block k hk fun e => hm.elim (fun h1 => by have := (h k e.symm).1; omega) (h k e.symm).2⟩
theorem Kept.box {B : Nat} {M : Nat → Prop} {W W' : World} (h : Kept B M W W') {k : Nat} {t : TypeId} {v : Value} (hb : Boxed W k t v) (hk : k < B ∨ M k) : Boxed W' k t v := (h.block k hb.lt hk).trans hb
theorem Mine.box {M : Nat → Prop} {W W' : World} (h : Mine M W W') {k : Nat} {t : TypeId} {v : Value} (hb : Boxed W k t v) (hk : ¬ M k) : Boxed W' k t v := (h.block k hb.lt hk).trans hb

/-- What an iterator's value is worth: called at whatever loop's yield, in whatever later world, with whatever the caller holds true: the elements come in their order, up to the round that has said 'no more'. -/
def Feeds (F : Fence) (n : Nat) (P : Program) (g : Nat) (lb : Array Value) (encs : α → Array Value) (xs : List α) (w : World) : Prop :=
  ∀ (l : Nat) (J Jx : (Nat → Prop) → List α → World → Prop) (M : Nat → Prop) (W : World), Below w.heap.size w W → Abide J → Abide Jx → (∀ k, M k → w.heap.size ≤ k ∧ k < W.heap.size) →
    (∀ (M : Nat → Prop) pre x rest W1, xs = pre ++ x :: rest → J M pre W1 → YieldAt F (n - 1) P l (encs x) W1 fun e W' =>
      (e = .returned (.bool true) ∧ J M (pre ++ [x]) W' ∨ e = .returned (.bool false) ∧ Jx M (pre ++ [x]) W') ∧ Kept w.heap.size M W1 W') →
    J M [] W →
    CallsIn F n P g (#[.func (.yield l) #[] #[]] ++ lb) W fun e W' => (∃ v, e = .returned v) ∧ (J M xs W' ∨ ∃ pre, pre <+: xs ∧ Jx M pre W')

/-- How a round's body may be left. -/
def leaves (B : Nat) (M : Nat → Prop) (I : (Nat → Prop) → List α → World → Prop) (Ix : Code → (Nat → Prop) → List α → World → Prop) (s : List α) (W : World) : Exit → Act → World → Prop
  | .normal, _, W' => I M s W' ∧ Kept B M W W'
  | .ret, _, W' => Ix .ret M s W' ∧ Kept B M W W'
  | .exit id, _, W' => Ix (.exit id) M s W' ∧ Kept B M W W'
  | .goto t, _, W' => Ix (.goto t) M s W' ∧ Kept B M W W'
  | .panic _, _, _ => False
  | .outgrown, _, _ => False

theorem range {g : Operand} {ps : Array Tmp} {assign body : Code} {Q : Exit → Act → World → Prop} {a : Act} {w : World}
    (hro : F.round = none) (hn : 1 ≤ n) {gf : Nat} {lb : Array Value} (hg : a.eval g = .func (.func gf) #[] lb) (hFg : F.fn gf) (eg : ∀ args w, (callFunc gf args).run P w = .ok (.enter gf args) w)
    {encs : α → Array Value} {xs : List α} {w0 : World} (hf : Feeds F (n - 1) P gf lb encs xs w0) (hb0 : Below w0.heap.size w0 w) (hps : ∀ x, (encs x).size = ps.size)
    (I : (Nat → Prop) → List α → World → Prop) (I2 : (Nat → Prop) → List α × α × Act → World → Prop) (Ix : Code → (Nat → Prop) → List α → World → Prop)
    (hI : Abide I) (hI2 : Abide I2) (hIx : ∀ c, Abide (Ix c)) (h0 : I (fun _ => False) [] w)
    (hassign : ∀ (l : Nat) (M : Nat → Prop) pre x rest W, xs = pre ++ x :: rest → I M pre W →
      assign.wpIn (F.inRound l) (n - 1 - 1) P (Exit.then (fun a' W' => I2 M (pre, x, a') W' ∧ Kept w0.heap.size M W W') (fun _ _ _ => False)) { tmps := (ps.zip (encs x)).foldl (fun t (p, v) => t.setIfInBounds p v) a.tmps, defers := [] } W)
    (hbody : ∀ (l : Nat) (M : Nat → Prop) pre x rest a' W, xs = pre ++ x :: rest → I2 M (pre, x, a') W → body.wpIn (F.inRound l) (n - 1 - 1) P (leaves w0.heap.size M I Ix (pre ++ [x]) W) a' W)
    (hdone : ∀ (D : Nat) (M : Nat → Prop) (W : World), M D → w.heap.size ≤ D → I M xs W → W.heap[D]? = some (.deferred (some [])) → Q .normal { a with defers := { target := .collected D, args := #[] } :: a.defers } W)
    (hstop : ∀ (D : Nat) (M : Nat → Prop) (c : Code) (pre : List α) (W : World), M D → w.heap.size ≤ D → pre <+: xs → Ix c M pre W → W.heap[D]? = some (.deferred (some [])) →
      c.wpIn F n P Q { a with defers := { target := .collected D, args := #[] } :: a.defers } W) :
    (Code.rangeFunc g ps assign body).wpIn F n P Q a w := by
  refine wpIn_rangeFunc fun fn hfn => ?_
  rw [hro]
  let rec_ : LoopState → Option Code → Loop := fun st pe => { state := st, pending := pe, fn, tmps := a.tmps, params := ps, assign, body, defers := w.heap.size }
  obtain ⟨W1, hW1⟩ : ∃ W1, (w.alloc (.deferred (some []))).alloc (.loop (rec_ .ready none)) = W1 := ⟨_, rfl⟩
  have hsz : W1.heap.size = w.heap.size + 2 := by rw [← hW1]; simp
  have hw1 : Below w.heap.size w W1 := by rw [← hW1]; exact ((Below.refl _ w).alloc (Nat.le_refl _) _).alloc (by simp) _
  have hL1 : W1.heap[w.heap.size + 1]? = some (.loop (rec_ .ready none)) := by
    have := World.alloc_heap_new (w.alloc (.deferred (some []))) (.loop (rec_ .ready none))
    rw [World.size_alloc, hW1] at this; exact this
  have hD1 : W1.heap[w.heap.size]? = some (.deferred (some [])) := by
    rw [← hW1]; exact (Below.heap_alloc _ _ _ (by simp)).trans (World.alloc_heap_new w _)
  let T : Nat → Prop := fun k => k = w.heap.size ∨ k = w.heap.size + 1
  have hTw : ∀ k, T k → w0.heap.size ≤ k := fun k hk => by have := hb0.size; rcases hk with rfl | rfl <;> omega
  -- what the law holds true beside the caller's own
  let J : (Nat → Prop) → List α → World → Prop := fun M s W => I (fun k => M k ∨ T k) s W ∧ W.heap[w.heap.size + 1]? = some (.loop (rec_ .ready none)) ∧ W.heap[w.heap.size]? = some (.deferred (some [])) ∧ ∀ k, M k → ¬ T k
  let Jx : (Nat → Prop) → List α → World → Prop := fun M s W => ∃ c, Ix c (fun k => M k ∨ T k) s W ∧ W.heap[w.heap.size + 1]? = some (.loop (rec_ .done (some c))) ∧ W.heap[w.heap.size]? = some (.deferred (some [])) ∧ ∀ k, M k → ¬ T k
  have hlt : ∀ {W : World} {k : Nat} {o : Obj}, W.heap[k]? = some o → k < W.heap.size := fun h => (Array.getElem?_eq_some_iff.1 h).1
  have grow : ∀ {M M' : Nat → Prop} {W W' : World}, (∀ k, M' k → M k ∨ (W.heap.size ≤ k ∧ k < W'.heap.size)) → ∀ k, (M' k ∨ T k) → (M k ∨ T k) ∨ (W.heap.size ≤ k ∧ k < W'.heap.size) :=
    fun h k hk => hk.elim (fun hk => (h k hk).elim (fun h1 => .inl (.inl h1)) .inr) fun hk => .inl (.inr hk)
  have apart : ∀ {M M' : Nat → Prop} {W W' : World} {o : Obj}, W.heap[w.heap.size + 1]? = some o → (∀ k, M k → ¬ T k) → (∀ k, M' k → M k ∨ (W.heap.size ≤ k ∧ k < W'.heap.size)) → ∀ k, M' k → ¬ T k :=
    fun hl hn h k hk ht => by
      have := hlt hl
      rcases h k hk with h1 | h1
      · exact hn k h1 ht
      · rcases ht with ht | ht <;> omega
  have hJ : Abide J := fun M M' s W W' h hm hs =>
    ⟨hI _ _ s W W' h.1 (hm.sub fun k => .inl) (grow hs), (hm.block _ (hlt h.2.1) fun hM => h.2.2.2 _ hM (.inr rfl)).trans h.2.1, (hm.block _ (hlt h.2.2.1) fun hM => h.2.2.2 _ hM (.inl rfl)).trans h.2.2.1, apart h.2.1 h.2.2.2 hs⟩
  have hJx : Abide Jx := fun M M' s W W' h hm hs => by
    obtain ⟨c, h1, h2, h3, h4⟩ := h
    exact ⟨c, hIx c _ _ s W W' h1 (hm.sub fun k => .inl) (grow hs), (hm.block _ (hlt h2) fun hM => h4 _ hM (.inr rfl)).trans h2, (hm.block _ (hlt h3) fun hM => h4 _ hM (.inl rfl)).trans h3, apart h2 h4 hs⟩
  have hI1 : I (fun k => False ∨ T k) [] W1 := hI _ _ [] w W1 h0 (Mine.of_below hw1 (Nat.le_refl _)) fun k hk => .inr (hk.elim False.elim fun h => by rcases h with rfl | rfl <;> omega)
  refine ⟨w.heap.size + 1, [{ target := .collected w.heap.size, args := #[] }], W1, { target := .fn (.func gf) lb, args := #[.func (.yield (w.heap.size + 1)) #[] #[]] }, W1, gf,
    #[.func (.yield (w.heap.size + 1)) #[] #[]] ++ lb, W1, ?_, ?_, ?_, ?_, fun _ => hn, ?_⟩
  · rw [← hW1]; exact run_enterLoop_outer _ _ _ _ _
  · simp only [resolve, hg]
    simp [go_sem]
  · intro f' hf'; simp [Target.leads] at hf'; subst hf'; exact hFg
  · simp [invoke, go_sem, eg]
  · refine (hf (w.heap.size + 1) J Jx (fun _ => False) W1 (hb0.trans (hw1.mono hb0.size)) hJ hJx (fun _ h => h.elim) ?_ ⟨hI1, hL1, hD1, fun _ h => h.elim⟩).mono ?_
    · rintro M pre x rest W hx ⟨hi, hl, hd, hno⟩
      have hy := run_yield (P := P) (args := encs x) hl (hps x)
      refine ⟨fn, _, assign, body, hy, roundIn_of_wpIn hfn (wpIn_mono (hassign (w.heap.size + 1) _ pre x rest W hx hi) ?_)⟩
      intro e a1 Wa hp
      cases e with
      | normal =>
        obtain ⟨hi2, hka⟩ := hp
        have hla : Wa.heap[w.heap.size + 1]? = some (.loop (rec_ .ready none)) := (hka.block _ (hlt hl) (.inr (.inr (.inr rfl)))).trans hl
        have hda : Wa.heap[w.heap.size]? = some (.deferred (some [])) := (hka.block _ (hlt hd) (.inr (.inr (.inl rfl)))).trans hd
        refine ⟨_, run_beginRound hla rfl, ?_⟩
        obtain ⟨Wb, hWb⟩ : ∃ Wb, Wa.putObj (w.heap.size + 1) (.loop { rec_ .ready none with state := .busy }) = Wb := ⟨_, rfl⟩
        rw [hWb]
        have hmb : Mine (fun k => M k ∨ T k) Wa Wb := by rw [← hWb]; exact Mine.put _ _ (.inr (.inr rfl))
        have hlb : Wb.heap[w.heap.size + 1]? = some (.loop (rec_ .busy none)) := by rw [← hWb]; exact World.putObj_heap_same (hlt hla)
        have hdb : Wb.heap[w.heap.size]? = some (.deferred (some [])) := by rw [← hWb]; exact (World.putObj_heap_other (by omega)).trans hda
        have hkb : Kept w0.heap.size M W Wb := (hka.sub (Nat.le_refl _) (fun k hk => .inr (.inl hk))).trans (by rw [← hWb]; exact Kept.put _ _ (hTw _ (.inr rfl)) fun hM => hno _ hM (.inr rfl))
        refine wpIn_mono (hbody (w.heap.size + 1) _ pre x rest a1 Wb hx (hI2 _ _ _ _ _ hi2 hmb fun k hk => .inl hk)) ?_
        have fin : ∀ (jump : Option Code) (Wc : World), Kept w0.heap.size (fun k => M k ∨ T k) Wb Wc →
            (Instr.endRound (w.heap.size + 1) jump).run P Wc = .ok (.bool jump.isNone) (Wc.putObj (w.heap.size + 1) (.loop (rec_ (if jump.isNone then .ready else .done) jump))) ∧
            Mine (fun k => M k ∨ T k) Wc (Wc.putObj (w.heap.size + 1) (.loop (rec_ (if jump.isNone then .ready else .done) jump))) ∧
            (Wc.putObj (w.heap.size + 1) (.loop (rec_ (if jump.isNone then .ready else .done) jump))).heap[w.heap.size + 1]? = some (.loop (rec_ (if jump.isNone then .ready else .done) jump)) ∧
            (Wc.putObj (w.heap.size + 1) (.loop (rec_ (if jump.isNone then .ready else .done) jump))).heap[w.heap.size]? = some (.deferred (some [])) ∧
            Kept w0.heap.size M W (Wc.putObj (w.heap.size + 1) (.loop (rec_ (if jump.isNone then .ready else .done) jump))) := fun jump Wc hk => by
          have hlc : Wc.heap[w.heap.size + 1]? = some (.loop (rec_ .busy none)) := (hk.block _ (hlt hlb) (.inr (.inr (.inr rfl)))).trans hlb
          have hdc : Wc.heap[w.heap.size]? = some (.deferred (some [])) := (hk.block _ (hlt hdb) (.inr (.inr (.inl rfl)))).trans hdb
          exact ⟨run_endRound jump hlc, Mine.put _ _ (.inr (.inr rfl)), World.putObj_heap_same (hlt hlc), (World.putObj_heap_other (by omega)).trans hdc,
            (hkb.trans (hk.sub (Nat.le_refl _) fun k hk => .inr (.inl hk))).trans (Kept.put _ _ (hTw _ (.inr rfl)) fun hM => hno _ hM (.inr rfl))⟩
        intro e ac Wc hq
        cases e with
        | normal =>
          obtain ⟨h1, h2⟩ := hq
          obtain ⟨f1, f2, f3, f4, f5⟩ := fin none Wc h2
          exact ⟨_, _, f1, .inl ⟨rfl, hI _ _ _ _ _ h1 f2 (fun k hk => .inl hk), f3, f4, hno⟩, f5⟩
        | ret =>
          obtain ⟨h1, h2⟩ := hq
          obtain ⟨f1, f2, f3, f4, f5⟩ := fin (some .ret) Wc h2
          exact ⟨_, _, f1, .inr ⟨rfl, _, hIx _ _ _ _ _ _ h1 f2 (fun k hk => .inl hk), f3, f4, hno⟩, f5⟩
        | exit id =>
          obtain ⟨h1, h2⟩ := hq
          obtain ⟨f1, f2, f3, f4, f5⟩ := fin (some (.exit id)) Wc h2
          exact ⟨_, _, f1, .inr ⟨rfl, _, hIx _ _ _ _ _ _ h1 f2 (fun k hk => .inl hk), f3, f4, hno⟩, f5⟩
        | goto t =>
          obtain ⟨h1, h2⟩ := hq
          obtain ⟨f1, f2, f3, f4, f5⟩ := fin (some (.goto t)) Wc h2
          exact ⟨_, _, f1, .inr ⟨rfl, _, hIx _ _ _ _ _ _ h1 f2 (fun k hk => .inl hk), f3, f4, hno⟩, f5⟩
        | panic _ => exact hq.elim
        | outgrown => exact hq.elim
      | ret => exact hp.elim
      | exit _ => exact hp.elim
      | goto _ => exact hp.elim
      | panic _ => exact hp.elim
      | outgrown => exact hp.elim
    · rintro e W2 ⟨⟨v, rfl⟩, hJ2 | ⟨pre, hpre, c, hi, hl, hd, _⟩⟩
      · obtain ⟨hi, hl, hd, _⟩ := hJ2
        refine ⟨none, _, run_endLoop hl (by simp [rec_]), hdone w.heap.size (fun k => False ∨ T k) _ (.inr (.inl rfl)) (Nat.le_refl _) (hI _ _ _ _ _ hi (Mine.put _ _ (.inr (.inr rfl))) fun k hk => .inl hk) ((World.putObj_heap_other (by omega)).trans hd)⟩
      · refine ⟨some c, _, run_endLoop hl (by simp [rec_]), hstop w.heap.size (fun k => False ∨ T k) c pre _ (.inr (.inl rfl)) (Nat.le_refl _) hpre (hIx c _ _ _ _ _ hi (Mine.put _ _ (.inr (.inr rfl))) fun k hk => .inl hk) ((World.putObj_heap_other (by omega)).trans hd)⟩
/-- The fence that lets all in, as a name. -/
structure Wide (F : Fence) : Prop where
  fn : ∀ k, F.fn k
  ro : F.round = none
  all : F = Fence.wide
theorem wide : Wide Fence.wide := ⟨fun _ => trivial, rfl, rfl⟩
theorem Wide.calls (h : Wide F) {f : FuncId} {args : Array Value} {w : World} {R : Ending → World → Prop} (hc : Calls P f args w R) : CallsIn F n P f args w R := by rw [h.all]; exact callsIn_wide.2 hc
theorem Wide.callsR (h : Wide F) (l : Nat) {f : FuncId} {args : Array Value} {w : World} {R : Ending → World → Prop} (hc : Calls P f args w R) : CallsIn (F.inRound l) n P f args w R := CallsIn.inRound l (h.calls hc)
theorem Wide.round (h : Wide F) {m : Nat} {l : Nat} {f : FuncId} {tmps : Array Value} {assign body : Code} {w : World} {R : Ending → World → Prop} (hr : RoundIn F n P l f tmps assign body w R) : RoundIn F m P l f tmps assign body w R := by
  have e := h.all
  subst e
  exact ⟨hr.1, fun c cs _ => hr.2 c cs (room_wide _)⟩
end Over
end Go.Proofs.Ytgbklmncfajcgaa
