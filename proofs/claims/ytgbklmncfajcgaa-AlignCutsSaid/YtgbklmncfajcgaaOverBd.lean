/- A range over a method value: an iterator whose first arguments are bound. -/
import Derived.Test.YtgbklmncfajcgaaOver
namespace Go.Proofs.Ytgbklmncfajcgaa
open Go.RowKit
set_option linter.unusedVariables false
namespace OverBd
open Over (Mine Kept Abide leaves)
variable {F : Fence} {n : Nat} {P : Program} {α β : Type}
/-- What an iterator's value is worth, whose first arguments are bound (a method value): called at whatever loop's yield, in whatever later world, with whatever the caller holds true: the elements come in their order, up to the round that has said 'no more'. -/
def Feeds (F : Fence) (n : Nat) (P : Program) (g : Nat) (bd : Array Value) (encs : α → Array Value) (xs : List α) (w : World) : Prop :=
  ∀ (l : Nat) (J Jx : (Nat → Prop) → List α → World → Prop) (M : Nat → Prop) (W : World), Below w.heap.size w W → Abide J → Abide Jx → (∀ k, M k → w.heap.size ≤ k ∧ k < W.heap.size) →
    (∀ (M : Nat → Prop) pre x rest W1, xs = pre ++ x :: rest → J M pre W1 → YieldAt F (n - 1) P l (encs x) W1 fun e W' =>
      (e = .returned (.bool true) ∧ J M (pre ++ [x]) W' ∨ e = .returned (.bool false) ∧ Jx M (pre ++ [x]) W') ∧ Kept w.heap.size M W1 W') →
    J M [] W →
    CallsIn F n P g (bd ++ #[.func (.yield l) #[] #[]]) W fun e W' => (∃ v, e = .returned v) ∧ (J M xs W' ∨ ∃ pre, pre <+: xs ∧ Jx M pre W')

theorem range {g : Operand} {ps : Array Tmp} {assign body : Code} {Q : Exit → Act → World → Prop} {a : Act} {w : World}
    (hro : F.round = none) (hn : 1 ≤ n) {gf : Nat} {bd : Array Value} (hg : a.eval g = .func (.func gf) bd #[]) (hFg : F.fn gf) (eg : ∀ args w, (callFunc gf args).run P w = .ok (.enter gf args) w)
    {encs : α → Array Value} {xs : List α} {w0 : World} (hf : Feeds F (n - 1) P gf bd encs xs w0) (hb0 : Below w0.heap.size w0 w) (hps : ∀ x, (encs x).size = ps.size)
    (I : (Nat → Prop) → List α → World → Prop) (I2 : (Nat → Prop) → List α × α × Act → World → Prop) (Ix : Code → (Nat → Prop) → List α → World → Prop)
    (hI : Abide I) (hI2 : Abide I2) (hIx : ∀ c, Abide (Ix c)) (h0 : I (fun _ => False) [] w)
    (hassign : ∀ (l : Nat) (M : Nat → Prop) pre x rest W, xs = pre ++ x :: rest → I M pre W →
      assign.wpIn (F.inRound l) (n - 1 - 1) P (Exit.then (fun a' W' => I2 M (pre, x, a') W' ∧ Kept w0.heap.size M W W') (fun _ _ _ => False)) { tmps := (ps.zip (encs x)).foldl (fun t (p, v) => t.setIfInBounds p v) a.tmps, defers := [] } W)
    (hbody : ∀ (l : Nat) (M : Nat → Prop) pre x rest a' W, xs = pre ++ x :: rest → I2 M (pre, x, a') W → body.wpIn (F.inRound l) (n - 1 - 1) P (leaves w0.heap.size M I Ix (pre ++ [x]) W) a' W)
    (hdone : ∀ (D : Nat) (M : Nat → Prop) (W : World), M D → w.heap.size ≤ D → I M xs W → W.heap[D]? = some (.deferred (some [])) → Q .normal { a with defers := { target := .collected D, args := #[] } :: a.defers } W)
    (hstop : ∀ (D : Nat) (M : Nat → Prop) (c : Code) (pre : List α) (W : World), M D → w.heap.size ≤ D → pre <+: xs → Ix c M pre W → W.heap[D]? = some (.deferred (some [])) →
      c.wpIn F n P Q { a with defers := { target := .collected D, args := #[] } :: a.defers } W) :
    (Code.rangeFunc g ps assign body).wpIn F n P Q a w := by
  refine wpIn_rangeFunc fun fn hfn => ?_
  rw [hro]
  let rec_ : LoopState → Option Code → Loop := fun st pe => { state := st, pending := pe, fn, tmps := a.tmps, params := ps, assign, body, defers := w.heap.size }
  obtain ⟨W1, hW1⟩ : ∃ W1, (w.alloc (.deferred (some []))).alloc (.loop (rec_ .ready none)) = W1 := ⟨_, rfl⟩
  have hsz : W1.heap.size = w.heap.size + 2 := by rw [← hW1]; simp
  have hw1 : Below w.heap.size w W1 := by rw [← hW1]; exact ((Below.refl _ w).alloc (Nat.le_refl _) _).alloc (by simp) _
  have hL1 : W1.heap[w.heap.size + 1]? = some (.loop (rec_ .ready none)) := by
    have := World.alloc_heap_new (w.alloc (.deferred (some []))) (.loop (rec_ .ready none))
    rw [World.size_alloc, hW1] at this; exact this
  have hD1 : W1.heap[w.heap.size]? = some (.deferred (some [])) := by
    rw [← hW1]; exact (Below.heap_alloc _ _ _ (by simp)).trans (World.alloc_heap_new w _)
  let T : Nat → Prop := fun k => k = w.heap.size ∨ k = w.heap.size + 1
  have hTw : ∀ k, T k → w0.heap.size ≤ k := fun k hk => by have := hb0.size; rcases hk with rfl | rfl <;> omega
  -- what the law holds true beside the caller's own
  let J : (Nat → Prop) → List α → World → Prop := fun M s W => I (fun k => M k ∨ T k) s W ∧ W.heap[w.heap.size + 1]? = some (.loop (rec_ .ready none)) ∧ W.heap[w.heap.size]? = some (.deferred (some [])) ∧ ∀ k, M k → ¬ T k
  let Jx : (Nat → Prop) → List α → World → Prop := fun M s W => ∃ c, Ix c (fun k => M k ∨ T k) s W ∧ W.heap[w.heap.size + 1]? = some (.loop (rec_ .done (some c))) ∧ W.heap[w.heap.size]? = some (.deferred (some [])) ∧ ∀ k, M k → ¬ T k
  have hlt : ∀ {W : World} {k : Nat} {o : Obj}, W.heap[k]? = some o → k < W.heap.size := fun h => (Array.getElem?_eq_some_iff.1 h).1
  have grow : ∀ {M M' : Nat → Prop} {W W' : World}, (∀ k, M' k → M k ∨ (W.heap.size ≤ k ∧ k < W'.heap.size)) → ∀ k, (M' k ∨ T k) → (M k ∨ T k) ∨ (W.heap.size ≤ k ∧ k < W'.heap.size) :=
    fun h k hk => hk.elim (fun hk => (h k hk).elim (fun h1 => .inl (.inl h1)) .inr) fun hk => .inl (.inr hk)
  have apart : ∀ {M M' : Nat → Prop} {W W' : World} {o : Obj}, W.heap[w.heap.size + 1]? = some o → (∀ k, M k → ¬ T k) → (∀ k, M' k → M k ∨ (W.heap.size ≤ k ∧ k < W'.heap.size)) → ∀ k, M' k → ¬ T k :=
    fun hl hn h k hk ht => by
      have := hlt hl
      rcases h k hk with h1 | h1
      · exact hn k h1 ht
      · rcases ht with ht | ht <;> omega
  have hJ : Abide J := fun M M' s W W' h hm hs =>
    ⟨hI _ _ s W W' h.1 (hm.sub fun k => .inl) (grow hs), (hm.block _ (hlt h.2.1) fun hM => h.2.2.2 _ hM (.inr rfl)).trans h.2.1, (hm.block _ (hlt h.2.2.1) fun hM => h.2.2.2 _ hM (.inl rfl)).trans h.2.2.1, apart h.2.1 h.2.2.2 hs⟩
  have hJx : Abide Jx := fun M M' s W W' h hm hs => by
    obtain ⟨c, h1, h2, h3, h4⟩ := h
    exact ⟨c, hIx c _ _ s W W' h1 (hm.sub fun k => .inl) (grow hs), (hm.block _ (hlt h2) fun hM => h4 _ hM (.inr rfl)).trans h2, (hm.block _ (hlt h3) fun hM => h4 _ hM (.inl rfl)).trans h3, apart h2 h4 hs⟩
  have hI1 : I (fun k => False ∨ T k) [] W1 := hI _ _ [] w W1 h0 (Mine.of_below hw1 (Nat.le_refl _)) fun k hk => .inr (hk.elim False.elim fun h => by rcases h with rfl | rfl <;> omega)
  refine ⟨w.heap.size + 1, [{ target := .collected w.heap.size, args := #[] }], W1, { target := .fn (.func gf) #[], args := bd ++ #[.func (.yield (w.heap.size + 1)) #[] #[]] }, W1, gf,
    bd ++ #[.func (.yield (w.heap.size + 1)) #[] #[]], W1, ?_, ?_, ?_, ?_, fun _ => hn, ?_⟩
  · rw [← hW1]; exact run_enterLoop_outer _ _ _ _ _
  · simp only [resolve, hg]
    simp [go_sem]
  · intro f' hf'; simp [Target.leads] at hf'; subst hf'; exact hFg
  · simp [invoke, go_sem, eg]
  · refine (hf (w.heap.size + 1) J Jx (fun _ => False) W1 (hb0.trans (hw1.mono hb0.size)) hJ hJx (fun _ h => h.elim) ?_ ⟨hI1, hL1, hD1, fun _ h => h.elim⟩).mono ?_
    · rintro M pre x rest W hx ⟨hi, hl, hd, hno⟩
      have hy := run_yield (P := P) (args := encs x) hl (hps x)
      refine ⟨fn, _, assign, body, hy, roundIn_of_wpIn hfn (wpIn_mono (hassign (w.heap.size + 1) _ pre x rest W hx hi) ?_)⟩
      intro e a1 Wa hp
      cases e with
      | normal =>
        obtain ⟨hi2, hka⟩ := hp
        have hla : Wa.heap[w.heap.size + 1]? = some (.loop (rec_ .ready none)) := (hka.block _ (hlt hl) (.inr (.inr (.inr rfl)))).trans hl
        have hda : Wa.heap[w.heap.size]? = some (.deferred (some [])) := (hka.block _ (hlt hd) (.inr (.inr (.inl rfl)))).trans hd
        refine ⟨_, run_beginRound hla rfl, ?_⟩
        obtain ⟨Wb, hWb⟩ : ∃ Wb, Wa.putObj (w.heap.size + 1) (.loop { rec_ .ready none with state := .busy }) = Wb := ⟨_, rfl⟩
        rw [hWb]
        have hmb : Mine (fun k => M k ∨ T k) Wa Wb := by rw [← hWb]; exact Mine.put _ _ (.inr (.inr rfl))
        have hlb : Wb.heap[w.heap.size + 1]? = some (.loop (rec_ .busy none)) := by rw [← hWb]; exact World.putObj_heap_same (hlt hla)
        have hdb : Wb.heap[w.heap.size]? = some (.deferred (some [])) := by rw [← hWb]; exact (World.putObj_heap_other (by omega)).trans hda
        have hkb : Kept w0.heap.size M W Wb := (hka.sub (Nat.le_refl _) (fun k hk => .inr (.inl hk))).trans (by rw [← hWb]; exact Kept.put _ _ (hTw _ (.inr rfl)) fun hM => hno _ hM (.inr rfl))
        refine wpIn_mono (hbody (w.heap.size + 1) _ pre x rest a1 Wb hx (hI2 _ _ _ _ _ hi2 hmb fun k hk => .inl hk)) ?_
        have fin : ∀ (jump : Option Code) (Wc : World), Kept w0.heap.size (fun k => M k ∨ T k) Wb Wc →
            (Instr.endRound (w.heap.size + 1) jump).run P Wc = .ok (.bool jump.isNone) (Wc.putObj (w.heap.size + 1) (.loop (rec_ (if jump.isNone then .ready else .done) jump))) ∧
            Mine (fun k => M k ∨ T k) Wc (Wc.putObj (w.heap.size + 1) (.loop (rec_ (if jump.isNone then .ready else .done) jump))) ∧
            (Wc.putObj (w.heap.size + 1) (.loop (rec_ (if jump.isNone then .ready else .done) jump))).heap[w.heap.size + 1]? = some (.loop (rec_ (if jump.isNone then .ready else .done) jump)) ∧
            (Wc.putObj (w.heap.size + 1) (.loop (rec_ (if jump.isNone then .ready else .done) jump))).heap[w.heap.size]? = some (.deferred (some [])) ∧
            Kept w0.heap.size M W (Wc.putObj (w.heap.size + 1) (.loop (rec_ (if jump.isNone then .ready else .done) jump))) := fun jump Wc hk => by
          have hlc : Wc.heap[w.heap.size + 1]? = some (.loop (rec_ .busy none)) := (hk.block _ (hlt hlb) (.inr (.inr (.inr rfl)))).trans hlb
          have hdc : Wc.heap[w.heap.size]? = some (.deferred (some [])) := (hk.block _ (hlt hdb) (.inr (.inr (.inl rfl)))).trans hdb
          exact ⟨run_endRound jump hlc, Mine.put _ _ (.inr (.inr rfl)), World.putObj_heap_same (hlt hlc), (World.putObj_heap_other (by omega)).trans hdc,
            (hkb.trans (hk.sub (Nat.le_refl _) fun k hk => .inr (.inl hk))).trans (Kept.put _ _ (hTw _ (.inr rfl)) fun hM => hno _ hM (.inr rfl))⟩
        intro e ac Wc hq
        cases e with
        | normal =>
          obtain ⟨h1, h2⟩ := hq
          obtain ⟨f1, f2, f3, f4, f5⟩ := fin none Wc h2
          exact ⟨_, _, f1, .inl ⟨rfl, hI _ _ _ _ _ h1 f2 (fun k hk => .inl hk), f3, f4, hno⟩, f5⟩
        | ret =>
          obtain ⟨h1, h2⟩ := hq
          obtain ⟨f1, f2, f3, f4, f5⟩ := fin (some .ret) Wc h2
          exact ⟨_, _, f1, .inr ⟨rfl, _, hIx _ _ _ _ _ _ h1 f2 (fun k hk => .inl hk), f3, f4, hno⟩, f5⟩
        | exit id =>
          obtain ⟨h1, h2⟩ := hq
          obtain ⟨f1, f2, f3, f4, f5⟩ := fin (some (.exit id)) Wc h2
          exact ⟨_, _, f1, .inr ⟨rfl, _, hIx _ _ _ _ _ _ h1 f2 (fun k hk => .inl hk), f3, f4, hno⟩, f5⟩
        | goto t =>
          obtain ⟨h1, h2⟩ := hq
          obtain ⟨f1, f2, f3, f4, f5⟩ := fin (some (.goto t)) Wc h2
          exact ⟨_, _, f1, .inr ⟨rfl, _, hIx _ _ _ _ _ _ h1 f2 (fun k hk => .inl hk), f3, f4, hno⟩, f5⟩
        | panic _ => exact hq.elim
        | outgrown => exact hq.elim
      | ret => exact hp.elim
      | exit _ => exact hp.elim
      | goto _ => exact hp.elim
      | panic _ => exact hp.elim
      | outgrown => exact hp.elim
    · rintro e W2 ⟨⟨v, rfl⟩, hJ2 | ⟨pre, hpre, c, hi, hl, hd, _⟩⟩
      · obtain ⟨hi, hl, hd, _⟩ := hJ2
        refine ⟨none, _, run_endLoop hl (by simp [rec_]), hdone w.heap.size (fun k => False ∨ T k) _ (.inr (.inl rfl)) (Nat.le_refl _) (hI _ _ _ _ _ hi (Mine.put _ _ (.inr (.inr rfl))) fun k hk => .inl hk) ((World.putObj_heap_other (by omega)).trans hd)⟩
      · refine ⟨some c, _, run_endLoop hl (by simp [rec_]), hstop w.heap.size (fun k => False ∨ T k) c pre _ (.inr (.inl rfl)) (Nat.le_refl _) hpre (hIx c _ _ _ _ _ hi (Mine.put _ _ (.inr (.inr rfl))) fun k hk => .inl hk) ((World.putObj_heap_other (by omega)).trans hd)⟩
end OverBd
end Go.Proofs.Ytgbklmncfajcgaa
