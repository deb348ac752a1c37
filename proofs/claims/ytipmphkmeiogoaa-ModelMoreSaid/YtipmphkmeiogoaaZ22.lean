/- OverG, put together. -/
import Derived.Test.YtipmphkmeiogoaaZ15
/- A range over a function where what the iterator needs is told by a set K, and where what comes may itself hang on the world (an iterator over iterators); a range within a round. -/
namespace Go.Proofs.Ytipmphkmeiogoaa
open Go.RowKit
set_option linter.unusedVariables false
namespace OverG
open Over (Mine Abide)
variable {F : Fence} {n : Nat} {P : Program} {α β : Type}

/-- What K and M hold lies as it lay. -/
structure Kept (K M : Nat → Prop) (W W' : World) : Prop where
  size : W.heap.size ≤ W'.heap.size
  block : ∀ k, k < W.heap.size → (K k ∨ M k) → W'.heap[k]? = W.heap[k]?
theorem Kept.refl (K M : Nat → Prop) (W : World) : Kept K M W W := ⟨Nat.le_refl _, fun _ _ _ => rfl⟩
theorem Kept.trans {K M : Nat → Prop} {X Y Z : World} (h : Kept K M X Y) (k : Kept K M Y Z) : Kept K M X Z :=
  ⟨Nat.le_trans h.size k.size, fun i hi hm => (k.block i (Nat.lt_of_lt_of_le hi h.size) hm).trans (h.block i hi hm)⟩
theorem Kept.sub {K K' M M' : Nat → Prop} {W W' : World} (h : Kept K M W W') (hs : ∀ k, K' k ∨ M' k → K k ∨ M k) : Kept K' M' W W' :=
  ⟨h.size, fun k hk hm => h.block k hk (hs k hm)⟩
theorem Kept.alloc (K M : Nat → Prop) (W : World) (o : Obj) : Kept K M W (W.alloc o) := ⟨by simp, fun k hk _ => Below.heap_alloc W o k hk⟩
theorem Kept.put {K M : Nat → Prop} (W : World) {l : Nat} (o : Obj) (hK : ¬ K l) (hM : ¬ M l) : Kept K M W (W.putObj l o) :=
  ⟨by simp, fun k _ hm => World.putObj_heap_other fun e => by subst e; exact hm.elim hK hM⟩
theorem Kept.of_below {K M : Nat → Prop} {B : Nat} {W W' : World} (h : Below B W W') (hB : W.heap.size ≤ B) : Kept K M W W' := ⟨h.size, fun k hk _ => h.block k (by omega)⟩
/-- But for one block of the round's own. -/
theorem Kept.but {K M : Nat → Prop} {W W' : World} {D : Nat} (hs : W.heap.size ≤ W'.heap.size) (h : ∀ k, k < W.heap.size → k ≠ D → W'.heap[k]? = W.heap[k]?) (hK : ¬ K D) (hM : ¬ M D) : Kept K M W W' :=
  ⟨hs, fun k hk hm => h k hk fun e => by subst e; exact hm.elim hK hM⟩

/-- What an iterator's value is worth: it needs what K holds, as it lay in w; what comes for x is a value of which Enc speaks in the world then. -/
def Feeds (F : Fence) (n : Nat) (P : Program) (g : Nat) (lb : Array Value) (Enc : α → (Nat → Prop) → World → Array Value → Prop) (K : Nat → Prop) (xs : List α) (w : World) : Prop :=
  ∀ (l : Nat) (J Jx : (Nat → Prop) → List α → World → Prop) (M : Nat → Prop) (W : World), w.heap.size ≤ W.heap.size → (∀ k, K k → k < w.heap.size ∧ W.heap[k]? = w.heap[k]?) → Abide J → Abide Jx → (∀ k, M k → ¬ K k ∧ k < W.heap.size) →
    (∀ (M : Nat → Prop) pre x rest W1 vs, xs = pre ++ x :: rest → J M pre W1 → Enc x M W1 vs → YieldAt F (n - 1) P l vs W1 fun e W' =>
      (e = .returned (.bool true) ∧ J M (pre ++ [x]) W' ∨ e = .returned (.bool false) ∧ Jx M (pre ++ [x]) W') ∧ Kept K M W1 W') →
    J M [] W →
    CallsIn F n P g (#[.func (.yield l) #[] #[]] ++ lb) W fun e W' => (∃ v, e = .returned v) ∧ (J M xs W' ∨ ∃ pre, pre <+: xs ∧ Jx M pre W')

/-- How a round's body may be left. -/
def leaves (K : Nat → Prop) (M : Nat → Prop) (I : (Nat → Prop) → List α → World → Prop) (Ix : Code → (Nat → Prop) → List α → World → Prop) (s : List α) (W : World) : Exit → Act → World → Prop
  | .normal, _, W' => I M s W' ∧ Kept K M W W'
  | .ret, _, W' => Ix .ret M s W' ∧ Kept K M W W'
  | .exit id, _, W' => Ix (.exit id) M s W' ∧ Kept K M W W'
  | .goto t, _, W' => Ix (.goto t) M s W' ∧ Kept K M W W'
  | .panic _, _, _ => False
  | .outgrown, _, _ => False

/-- A range; a round's body is told of its own record. -/
theorem range {g : Operand} {ps : Array Tmp} {assign body : Code} {Q : Exit → Act → World → Prop} {a : Act} {w : World}
    (hro : F.round = none) (hn : 1 ≤ n) {gf : Nat} {lb : Array Value} (hg : a.eval g = .func (.func gf) #[] lb) (hFg : F.fn gf) (eg : ∀ args w, (callFunc gf args).run P w = .ok (.enter gf args) w)
    {Enc : α → (Nat → Prop) → World → Array Value → Prop} {K : Nat → Prop} {xs : List α} {w0 : World} (hf : Feeds F (n - 1) P gf lb Enc K xs w0) (hs0 : w0.heap.size ≤ w.heap.size) (hK0 : ∀ k, K k → k < w0.heap.size ∧ w.heap[k]? = w0.heap[k]?) (hps : ∀ x M W vs, Enc x M W vs → vs.size = ps.size)
    (I : (Nat → Prop) → List α → World → Prop) (I2 : (Nat → Prop) → List α × α × Act → World → Prop) (Ix : Code → (Nat → Prop) → List α → World → Prop)
    (hI : Abide I) (hI2 : Abide I2) (hIx : ∀ c, Abide (Ix c)) (h0 : I (fun _ => False) [] w)
    (hassign : ∀ (l : Nat) (M M0 : Nat → Prop) pre x rest W vs, xs = pre ++ x :: rest → I M pre W → (∀ k, M k → M0 k ∨ ∃ o, W.heap[k]? = some o ∧ o.isCells = false) → Enc x M0 W vs →
      assign.wpIn (F.inRound l) (n - 1 - 1) P (Exit.then (fun a' W' => I2 M (pre, x, a') W' ∧ Kept K M W W') (fun _ _ _ => False)) { tmps := (ps.zip vs).foldl (fun t (p, v) => t.setIfInBounds p v) a.tmps, defers := [] } W)
    (hbody : ∀ (l : Nat) (M : Nat → Prop) pre x rest a' W, xs = pre ++ x :: rest → I2 M (pre, x, a') W → M l → (∃ r, W.heap[l]? = some (.loop r)) → body.wpIn (F.inRound l) (n - 1 - 1) P (leaves K M I Ix (pre ++ [x]) W) a' W)
    (hdone : ∀ (D : Nat) (M : Nat → Prop) (W : World), M D → w.heap.size ≤ D → I M xs W → W.heap[D]? = some (.deferred (some [])) → Q .normal { a with defers := { target := .collected D, args := #[] } :: a.defers } W)
    (hstop : ∀ (D : Nat) (M : Nat → Prop) (c : Code) (pre : List α) (W : World), M D → w.heap.size ≤ D → pre <+: xs → Ix c M pre W → W.heap[D]? = some (.deferred (some [])) →
      c.wpIn F n P Q { a with defers := { target := .collected D, args := #[] } :: a.defers } W) :
    (Code.rangeFunc g ps assign body).wpIn F n P Q a w := by
  refine wpIn_rangeFunc fun fn hfn => ?_
  rw [hro]
  let rec_ : LoopState → Option Code → Loop := fun st pe => { state := st, pending := pe, fn, tmps := a.tmps, params := ps, assign, body, defers := w.heap.size }
  obtain ⟨W1, hW1⟩ : ∃ W1, (w.alloc (.deferred (some []))).alloc (.loop (rec_ .ready none)) = W1 := ⟨_, rfl⟩
  have hsz : W1.heap.size = w.heap.size + 2 := by rw [← hW1]; simp
  have hw1 : Below w.heap.size w W1 := by rw [← hW1]; exact ((Below.refl _ w).alloc (Nat.le_refl _) _).alloc (by simp) _
  have hL1 : W1.heap[w.heap.size + 1]? = some (.loop (rec_ .ready none)) := by
    have := World.alloc_heap_new (w.alloc (.deferred (some []))) (.loop (rec_ .ready none))
    rw [World.size_alloc, hW1] at this; exact this
  have hD1 : W1.heap[w.heap.size]? = some (.deferred (some [])) := by
    rw [← hW1]; exact (Below.heap_alloc _ _ _ (by simp)).trans (World.alloc_heap_new w _)
  let T : Nat → Prop := fun k => k = w.heap.size ∨ k = w.heap.size + 1
  have hTw : ∀ k, T k → ¬ K k := fun k hk hK => by have := (hK0 k hK).1; rcases hk with rfl | rfl <;> omega
  -- what the law holds true beside the caller's own
  let J : (Nat → Prop) → List α → World → Prop := fun M s W => I (fun k => M k ∨ T k) s W ∧ W.heap[w.heap.size + 1]? = some (.loop (rec_ .ready none)) ∧ W.heap[w.heap.size]? = some (.deferred (some [])) ∧ ∀ k, M k → ¬ T k
  let Jx : (Nat → Prop) → List α → World → Prop := fun M s W => ∃ c, Ix c (fun k => M k ∨ T k) s W ∧ W.heap[w.heap.size + 1]? = some (.loop (rec_ .done (some c))) ∧ W.heap[w.heap.size]? = some (.deferred (some [])) ∧ ∀ k, M k → ¬ T k
  have hlt : ∀ {W : World} {k : Nat} {o : Obj}, W.heap[k]? = some o → k < W.heap.size := fun h => (Array.getElem?_eq_some_iff.1 h).1
  have grow : ∀ {M M' : Nat → Prop} {W W' : World}, (∀ k, M' k → M k ∨ (W.heap.size ≤ k ∧ k < W'.heap.size)) → ∀ k, (M' k ∨ T k) → (M k ∨ T k) ∨ (W.heap.size ≤ k ∧ k < W'.heap.size) :=
    fun h k hk => hk.elim (fun hk => (h k hk).elim (fun h1 => .inl (.inl h1)) .inr) fun hk => .inl (.inr hk)
  have apart : ∀ {M M' : Nat → Prop} {W W' : World} {o : Obj}, W.heap[w.heap.size + 1]? = some o → (∀ k, M k → ¬ T k) → (∀ k, M' k → M k ∨ (W.heap.size ≤ k ∧ k < W'.heap.size)) → ∀ k, M' k → ¬ T k :=
    fun hl hn h k hk ht => by
      have := hlt hl
      rcases h k hk with h1 | h1
      · exact hn k h1 ht
      · rcases ht with ht | ht <;> omega
  have hJ : Abide J := fun M M' s W W' h hm hs =>
    ⟨hI _ _ s W W' h.1 (hm.sub fun k => .inl) (grow hs), (hm.block _ (hlt h.2.1) fun hM => h.2.2.2 _ hM (.inr rfl)).trans h.2.1, (hm.block _ (hlt h.2.2.1) fun hM => h.2.2.2 _ hM (.inl rfl)).trans h.2.2.1, apart h.2.1 h.2.2.2 hs⟩
  have hJx : Abide Jx := fun M M' s W W' h hm hs => by
    obtain ⟨c, h1, h2, h3, h4⟩ := h
    exact ⟨c, hIx c _ _ s W W' h1 (hm.sub fun k => .inl) (grow hs), (hm.block _ (hlt h2) fun hM => h4 _ hM (.inr rfl)).trans h2, (hm.block _ (hlt h3) fun hM => h4 _ hM (.inl rfl)).trans h3, apart h2 h4 hs⟩
  have hI1 : I (fun k => False ∨ T k) [] W1 := hI _ _ [] w W1 h0 (Mine.of_below hw1 (Nat.le_refl _)) fun k hk => .inr (hk.elim False.elim fun h => by rcases h with rfl | rfl <;> omega)
  refine ⟨w.heap.size + 1, [{ target := .collected w.heap.size, args := #[] }], W1, { target := .fn (.func gf) lb, args := #[.func (.yield (w.heap.size + 1)) #[] #[]] }, W1, gf,
    #[.func (.yield (w.heap.size + 1)) #[] #[]] ++ lb, W1, ?_, ?_, ?_, ?_, fun _ => hn, ?_⟩
  · rw [← hW1]; exact run_enterLoop_outer _ _ _ _ _
  · simp only [resolve, hg]
    simp [go_sem]
  · intro f' hf'; simp [Target.leads] at hf'; subst hf'; exact hFg
  · simp [invoke, go_sem, eg]
  · refine (hf (w.heap.size + 1) J Jx (fun _ => False) W1 (by omega) (fun k hk => ⟨(hK0 k hk).1, (hw1.block k (by have := (hK0 k hk).1; omega)).trans (hK0 k hk).2⟩) hJ hJx (fun _ h => h.elim) ?_ ⟨hI1, hL1, hD1, fun _ h => h.elim⟩).mono ?_
    · rintro M pre x rest W vs hx ⟨hi, hl, hd, hno⟩ hen
      have hy := run_yield (P := P) (args := vs) hl (hps x M W vs hen)
      refine ⟨fn, _, assign, body, hy, roundIn_of_wpIn hfn (wpIn_mono (hassign (w.heap.size + 1) (fun k => M k ∨ T k) M pre x rest W vs hx hi (fun k hk => hk.elim .inl fun ht => .inr (by rcases ht with rfl | rfl <;> exact ⟨_, by assumption, rfl⟩)) hen) ?_)⟩
      intro e a1 Wa hp
      cases e with
      | normal =>
        obtain ⟨hi2, hka⟩ := hp
        have hla : Wa.heap[w.heap.size + 1]? = some (.loop (rec_ .ready none)) := (hka.block _ (hlt hl) (.inr (.inr (.inr rfl)))).trans hl
        have hda : Wa.heap[w.heap.size]? = some (.deferred (some [])) := (hka.block _ (hlt hd) (.inr (.inr (.inl rfl)))).trans hd
        refine ⟨_, run_beginRound hla rfl, ?_⟩
        obtain ⟨Wb, hWb⟩ : ∃ Wb, Wa.putObj (w.heap.size + 1) (.loop { rec_ .ready none with state := .busy }) = Wb := ⟨_, rfl⟩
        rw [hWb]
        have hmb : Mine (fun k => M k ∨ T k) Wa Wb := by rw [← hWb]; exact Mine.put _ _ (.inr (.inr rfl))
        have hlb : Wb.heap[w.heap.size + 1]? = some (.loop (rec_ .busy none)) := by rw [← hWb]; exact World.putObj_heap_same (hlt hla)
        have hdb : Wb.heap[w.heap.size]? = some (.deferred (some [])) := by rw [← hWb]; exact (World.putObj_heap_other (by omega)).trans hda
        have hkb : Kept K M W Wb := (hka.sub (fun k hk => hk.elim .inl fun h => .inr (.inl h))).trans (by rw [← hWb]; exact Kept.put _ _ (hTw _ (.inr rfl)) fun hM => hno _ hM (.inr rfl))
        refine wpIn_mono (hbody (w.heap.size + 1) _ pre x rest a1 Wb hx (hI2 _ _ _ _ _ hi2 hmb fun k hk => .inl hk) (.inr (.inr rfl)) ⟨_, hlb⟩) ?_
        have fin : ∀ (jump : Option Code) (Wc : World), Kept K (fun k => M k ∨ T k) Wb Wc →
            (Instr.endRound (w.heap.size + 1) jump).run P Wc = .ok (.bool jump.isNone) (Wc.putObj (w.heap.size + 1) (.loop (rec_ (if jump.isNone then .ready else .done) jump))) ∧
            Mine (fun k => M k ∨ T k) Wc (Wc.putObj (w.heap.size + 1) (.loop (rec_ (if jump.isNone then .ready else .done) jump))) ∧
            (Wc.putObj (w.heap.size + 1) (.loop (rec_ (if jump.isNone then .ready else .done) jump))).heap[w.heap.size + 1]? = some (.loop (rec_ (if jump.isNone then .ready else .done) jump)) ∧
            (Wc.putObj (w.heap.size + 1) (.loop (rec_ (if jump.isNone then .ready else .done) jump))).heap[w.heap.size]? = some (.deferred (some [])) ∧
            Kept K M W (Wc.putObj (w.heap.size + 1) (.loop (rec_ (if jump.isNone then .ready else .done) jump))) := fun jump Wc hk => by
          have hlc : Wc.heap[w.heap.size + 1]? = some (.loop (rec_ .busy none)) := (hk.block _ (hlt hlb) (.inr (.inr (.inr rfl)))).trans hlb
          have hdc : Wc.heap[w.heap.size]? = some (.deferred (some [])) := (hk.block _ (hlt hdb) (.inr (.inr (.inl rfl)))).trans hdb
          exact ⟨run_endRound jump hlc, Mine.put _ _ (.inr (.inr rfl)), World.putObj_heap_same (hlt hlc), (World.putObj_heap_other (by omega)).trans hdc,
            (hkb.trans (hk.sub fun k hk => hk.elim .inl fun h => .inr (.inl h))).trans (Kept.put _ _ (hTw _ (.inr rfl)) fun hM => hno _ hM (.inr rfl))⟩
        intro e ac Wc hq
        cases e with
        | normal =>
          obtain ⟨h1, h2⟩ := hq
          obtain ⟨f1, f2, f3, f4, f5⟩ := fin none Wc h2
          exact ⟨_, _, f1, .inl ⟨rfl, hI _ _ _ _ _ h1 f2 (fun k hk => .inl hk), f3, f4, hno⟩, f5⟩
        | ret =>
          obtain ⟨h1, h2⟩ := hq
          obtain ⟨f1, f2, f3, f4, f5⟩ := fin (some .ret) Wc h2
          exact ⟨_, _, f1, .inr ⟨rfl, _, hIx _ _ _ _ _ _ h1 f2 (fun k hk => .inl hk), f3, f4, hno⟩, f5⟩
        | exit id =>
          obtain ⟨h1, h2⟩ := hq
          obtain ⟨f1, f2, f3, f4, f5⟩ := fin (some (.exit id)) Wc h2
          exact ⟨_, _, f1, .inr ⟨rfl, _, hIx _ _ _ _ _ _ h1 f2 (fun k hk => .inl hk), f3, f4, hno⟩, f5⟩
        | goto t =>
          obtain ⟨h1, h2⟩ := hq
          obtain ⟨f1, f2, f3, f4, f5⟩ := fin (some (.goto t)) Wc h2
          exact ⟨_, _, f1, .inr ⟨rfl, _, hIx _ _ _ _ _ _ h1 f2 (fun k hk => .inl hk), f3, f4, hno⟩, f5⟩
        | panic _ => exact hq.elim
        | outgrown => exact hq.elim
      | ret => exact hp.elim
      | exit _ => exact hp.elim
      | goto _ => exact hp.elim
      | panic _ => exact hp.elim
      | outgrown => exact hp.elim
    · rintro e W2 ⟨⟨v, rfl⟩, hJ2 | ⟨pre, hpre, c, hi, hl, hd, _⟩⟩
      · obtain ⟨hi, hl, hd, _⟩ := hJ2
        refine ⟨none, _, run_endLoop hl (by simp [rec_]), hdone w.heap.size (fun k => False ∨ T k) _ (.inr (.inl rfl)) (Nat.le_refl _) (hI _ _ _ _ _ hi (Mine.put _ _ (.inr (.inr rfl))) fun k hk => .inl hk) ((World.putObj_heap_other (by omega)).trans hd)⟩
      · refine ⟨some c, _, run_endLoop hl (by simp [rec_]), hstop w.heap.size (fun k => False ∨ T k) c pre _ (.inr (.inl rfl)) (Nat.le_refl _) hpre (hIx c _ _ _ _ _ hi (Mine.put _ _ (.inr (.inr rfl))) fun k hk => .inl hk) ((World.putObj_heap_other (by omega)).trans hd)⟩

/-- A range within a round of the loop l₀: one block is laid, no mark. -/
theorem rangeIn {g : Operand} {ps : Array Tmp} {assign body : Code} {Q : Exit → Act → World → Prop} {a : Act} {w : World} {l₀ : Nat} {r₀ : Loop}
    (hro : F.round = some l₀) (hl₀ : w.heap[l₀]? = some (.loop r₀)) (hn : 1 ≤ n) {gf : Nat} {lb : Array Value} (hg : a.eval g = .func (.func gf) #[] lb) (hFg : F.fn gf) (eg : ∀ args w, (callFunc gf args).run P w = .ok (.enter gf args) w)
    {Enc : α → (Nat → Prop) → World → Array Value → Prop} {K : Nat → Prop} {xs : List α} {w0 : World} (hf : Feeds F (n - 1) P gf lb Enc K xs w0) (hs0 : w0.heap.size ≤ w.heap.size) (hK0 : ∀ k, K k → k < w0.heap.size ∧ w.heap[k]? = w0.heap[k]?) (hps : ∀ x M W vs, Enc x M W vs → vs.size = ps.size)
    (I : (Nat → Prop) → List α → World → Prop) (I2 : (Nat → Prop) → List α × α × Act → World → Prop) (Ix : Code → (Nat → Prop) → List α → World → Prop)
    (hI : Abide I) (hI2 : Abide I2) (hIx : ∀ c, Abide (Ix c)) (h0 : I (fun _ => False) [] w)
    (hassign : ∀ (l : Nat) (M M0 : Nat → Prop) pre x rest W vs, xs = pre ++ x :: rest → I M pre W → (∀ k, M k → M0 k ∨ ∃ o, W.heap[k]? = some o ∧ o.isCells = false) → Enc x M0 W vs →
      assign.wpIn (F.inRound l) (n - 1 - 1) P (Exit.then (fun a' W' => I2 M (pre, x, a') W' ∧ Kept K M W W') (fun _ _ _ => False)) { tmps := (ps.zip vs).foldl (fun t (p, v) => t.setIfInBounds p v) a.tmps, defers := [] } W)
    (hbody : ∀ (l : Nat) (M : Nat → Prop) pre x rest a' W, xs = pre ++ x :: rest → I2 M (pre, x, a') W → M l → (∃ r, W.heap[l]? = some (.loop r)) → body.wpIn (F.inRound l) (n - 1 - 1) P (leaves K M I Ix (pre ++ [x]) W) a' W)
    (hdone : ∀ (M : Nat → Prop) (W : World), I M xs W → Q .normal a W)
    (hstop : ∀ (M : Nat → Prop) (c : Code) (pre : List α) (W : World), pre <+: xs → Ix c M pre W → c.wpIn F n P Q a W) :
    (Code.rangeFunc g ps assign body).wpIn F n P Q a w := by
  refine wpIn_rangeFunc fun fn hfn => ?_
  rw [hro]
  let rec_ : LoopState → Option Code → Loop := fun st pe => { state := st, pending := pe, fn, tmps := a.tmps, params := ps, assign, body, defers := r₀.defers }
  obtain ⟨W1, hW1⟩ : ∃ W1, w.alloc (.loop (rec_ .ready none)) = W1 := ⟨_, rfl⟩
  have hsz : W1.heap.size = w.heap.size + 1 := by rw [← hW1]; simp
  have hw1 : Below w.heap.size w W1 := by rw [← hW1]; exact (Below.refl _ w).alloc (Nat.le_refl _) _
  have hL1 : W1.heap[w.heap.size]? = some (.loop (rec_ .ready none)) := by rw [← hW1]; exact World.alloc_heap_new w _
  let T : Nat → Prop := fun k => k = w.heap.size
  have hTw : ∀ k, T k → ¬ K k := fun k hk hK => by have := (hK0 k hK).1; have hk' : k = w.heap.size := hk; omega
  let J : (Nat → Prop) → List α → World → Prop := fun M s W => I (fun k => M k ∨ T k) s W ∧ W.heap[w.heap.size]? = some (.loop (rec_ .ready none)) ∧ ∀ k, M k → ¬ T k
  let Jx : (Nat → Prop) → List α → World → Prop := fun M s W => ∃ c, Ix c (fun k => M k ∨ T k) s W ∧ W.heap[w.heap.size]? = some (.loop (rec_ .done (some c))) ∧ ∀ k, M k → ¬ T k
  have hlt : ∀ {W : World} {k : Nat} {o : Obj}, W.heap[k]? = some o → k < W.heap.size := fun h => (Array.getElem?_eq_some_iff.1 h).1
  have grow : ∀ {M M' : Nat → Prop} {W W' : World}, (∀ k, M' k → M k ∨ (W.heap.size ≤ k ∧ k < W'.heap.size)) → ∀ k, (M' k ∨ T k) → (M k ∨ T k) ∨ (W.heap.size ≤ k ∧ k < W'.heap.size) :=
    fun h k hk => hk.elim (fun hk => (h k hk).elim (fun h1 => .inl (.inl h1)) .inr) fun hk => .inl (.inr hk)
  have apart : ∀ {M M' : Nat → Prop} {W W' : World} {o : Obj}, W.heap[w.heap.size]? = some o → (∀ k, M k → ¬ T k) → (∀ k, M' k → M k ∨ (W.heap.size ≤ k ∧ k < W'.heap.size)) → ∀ k, M' k → ¬ T k :=
    fun hl hn h k hk ht => by
      have := hlt hl
      rcases h k hk with h1 | h1
      · exact hn k h1 ht
      · have ht' : k = w.heap.size := ht
        omega
  have hJ : Abide J := fun M M' s W W' h hm hs =>
    ⟨hI _ _ s W W' h.1 (hm.sub fun k => .inl) (grow hs), (hm.block _ (hlt h.2.1) fun hM => h.2.2 _ hM rfl).trans h.2.1, apart h.2.1 h.2.2 hs⟩
  have hJx : Abide Jx := fun M M' s W W' h hm hs => by
    obtain ⟨c, h1, h2, h4⟩ := h
    exact ⟨c, hIx c _ _ s W W' h1 (hm.sub fun k => .inl) (grow hs), (hm.block _ (hlt h2) fun hM => h4 _ hM rfl).trans h2, apart h2 h4 hs⟩
  have hI1 : I (fun k => False ∨ T k) [] W1 := hI _ _ [] w W1 h0 (Mine.of_below hw1 (Nat.le_refl _)) fun k hk => .inr (hk.elim False.elim fun h => by have h' : k = w.heap.size := h; omega)
  refine ⟨w.heap.size, [], W1, { target := .fn (.func gf) lb, args := #[.func (.yield w.heap.size) #[] #[]] }, W1, gf,
    #[.func (.yield w.heap.size) #[] #[]] ++ lb, W1, ?_, ?_, ?_, ?_, fun _ => hn, ?_⟩
  · rw [← hW1]; exact run_enterLoop_inner hl₀ _ _ _ _ _
  · simp only [resolve, hg]
    simp [go_sem]
  · intro f' hf'; simp [Target.leads] at hf'; subst hf'; exact hFg
  · simp [invoke, go_sem, eg]
  · refine (hf w.heap.size J Jx (fun _ => False) W1 (by omega) (fun k hk => ⟨(hK0 k hk).1, (hw1.block k (by have := (hK0 k hk).1; omega)).trans (hK0 k hk).2⟩) hJ hJx (fun _ h => h.elim) ?_ ⟨hI1, hL1, fun _ h => h.elim⟩).mono ?_
    · rintro M pre x rest W vs hx ⟨hi, hl, hno⟩ hen
      have hy := run_yield (P := P) (args := vs) hl (hps x M W vs hen)
      refine ⟨fn, _, assign, body, hy, roundIn_of_wpIn hfn (wpIn_mono (hassign w.heap.size (fun k => M k ∨ T k) M pre x rest W vs hx hi (fun k hk => hk.elim .inl fun ht => .inr (by have ht' : k = w.heap.size := ht; subst ht'; exact ⟨_, hl, rfl⟩)) hen) ?_)⟩
      intro e a1 Wa hp
      cases e with
      | normal =>
        obtain ⟨hi2, hka⟩ := hp
        have hla : Wa.heap[w.heap.size]? = some (.loop (rec_ .ready none)) := (hka.block _ (hlt hl) (.inr (.inr rfl))).trans hl
        refine ⟨_, run_beginRound hla rfl, ?_⟩
        obtain ⟨Wb, hWb⟩ : ∃ Wb, Wa.putObj w.heap.size (.loop { rec_ .ready none with state := .busy }) = Wb := ⟨_, rfl⟩
        rw [hWb]
        have hmb : Mine (fun k => M k ∨ T k) Wa Wb := by rw [← hWb]; exact Mine.put _ _ (.inr rfl)
        have hlb : Wb.heap[w.heap.size]? = some (.loop (rec_ .busy none)) := by rw [← hWb]; exact World.putObj_heap_same (hlt hla)
        have hkb : Kept K M W Wb := (hka.sub (fun k hk => hk.elim .inl fun h => .inr (.inl h))).trans (by rw [← hWb]; exact Kept.put _ _ (hTw _ rfl) fun hM => hno _ hM rfl)
        refine wpIn_mono (hbody w.heap.size _ pre x rest a1 Wb hx (hI2 _ _ _ _ _ hi2 hmb fun k hk => .inl hk) (.inr rfl) ⟨_, hlb⟩) ?_
        have fin : ∀ (jump : Option Code) (Wc : World), Kept K (fun k => M k ∨ T k) Wb Wc →
            (Instr.endRound w.heap.size jump).run P Wc = .ok (.bool jump.isNone) (Wc.putObj w.heap.size (.loop (rec_ (if jump.isNone then .ready else .done) jump))) ∧
            Mine (fun k => M k ∨ T k) Wc (Wc.putObj w.heap.size (.loop (rec_ (if jump.isNone then .ready else .done) jump))) ∧
            (Wc.putObj w.heap.size (.loop (rec_ (if jump.isNone then .ready else .done) jump))).heap[w.heap.size]? = some (.loop (rec_ (if jump.isNone then .ready else .done) jump)) ∧
            Kept K M W (Wc.putObj w.heap.size (.loop (rec_ (if jump.isNone then .ready else .done) jump))) := fun jump Wc hk => by
          have hlc : Wc.heap[w.heap.size]? = some (.loop (rec_ .busy none)) := (hk.block _ (hlt hlb) (.inr (.inr rfl))).trans hlb
          exact ⟨run_endRound jump hlc, Mine.put _ _ (.inr rfl), World.putObj_heap_same (hlt hlc),
            (hkb.trans (hk.sub fun k hk => hk.elim .inl fun h => .inr (.inl h))).trans (Kept.put _ _ (hTw _ rfl) fun hM => hno _ hM rfl)⟩
        intro e ac Wc hq
        cases e with
        | normal =>
          obtain ⟨h1, h2⟩ := hq
          obtain ⟨f1, f2, f3, f5⟩ := fin none Wc h2
          exact ⟨_, _, f1, .inl ⟨rfl, hI _ _ _ _ _ h1 f2 (fun k hk => .inl hk), f3, hno⟩, f5⟩
        | ret =>
          obtain ⟨h1, h2⟩ := hq
          obtain ⟨f1, f2, f3, f5⟩ := fin (some .ret) Wc h2
          exact ⟨_, _, f1, .inr ⟨rfl, _, hIx _ _ _ _ _ _ h1 f2 (fun k hk => .inl hk), f3, hno⟩, f5⟩
        | exit id =>
          obtain ⟨h1, h2⟩ := hq
          obtain ⟨f1, f2, f3, f5⟩ := fin (some (.exit id)) Wc h2
          exact ⟨_, _, f1, .inr ⟨rfl, _, hIx _ _ _ _ _ _ h1 f2 (fun k hk => .inl hk), f3, hno⟩, f5⟩
        | goto t =>
          obtain ⟨h1, h2⟩ := hq
          obtain ⟨f1, f2, f3, f5⟩ := fin (some (.goto t)) Wc h2
          exact ⟨_, _, f1, .inr ⟨rfl, _, hIx _ _ _ _ _ _ h1 f2 (fun k hk => .inl hk), f3, hno⟩, f5⟩
        | panic _ => exact hq.elim
        | outgrown => exact hq.elim
      | ret => exact hp.elim
      | exit _ => exact hp.elim
      | goto _ => exact hp.elim
      | panic _ => exact hp.elim
      | outgrown => exact hp.elim
    · rintro e W2 ⟨⟨v, rfl⟩, hJ2 | ⟨pre, hpre, c, hi, hl, _⟩⟩
      · obtain ⟨hi, hl, _⟩ := hJ2
        refine ⟨none, _, run_endLoop hl (by simp [rec_]), hdone (fun k => False ∨ T k) _ (hI _ _ _ _ _ hi (Mine.put _ _ (.inr rfl)) fun k hk => .inl hk)⟩
      · refine ⟨some c, _, run_endLoop hl (by simp [rec_]), hstop (fun k => False ∨ T k) c pre _ hpre (hIx c _ _ _ _ _ hi (Mine.put _ _ (.inr rfl)) fun k hk => .inl hk)⟩
end OverG
end Go.Proofs.Ytipmphkmeiogoaa
