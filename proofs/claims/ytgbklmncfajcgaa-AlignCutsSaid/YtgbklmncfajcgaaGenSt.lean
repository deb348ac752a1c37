/- A region in whatever order, with a condition on the world that hangs on what has come up: a load may be taken first although a later store of the region turns its cell. -/
import Derived.Deep.RegionHeld3
namespace Go.Proofs.Ytgbklmncfajcgaa
set_option linter.unusedVariables false
namespace Gst
section
variable {P : Program} {ops : Array Oper} {Q : Exit → Act → World → Prop} {md : Region.Mode} {S : Array Bool → World → Prop}
/-- All orders, from what is listed on; behind each step S of the list then. -/
def Any (P : Program) (md : Region.Mode) (ops : Array Oper) (Q : Exit → Act → World → Prop) (S : Array Bool → World → Prop) : Nat → Array Bool → Act → World → Prop
  | 0, ls, act, W => Region.ready md ops ls = [] ∧ Q .normal act W
  | m + 1, ls, act, W => (Region.ready md ops ls = [] → Q .normal act W) ∧
      ∀ k, k ∈ Region.ready md ops ls → wpOp P ops Q k (fun act2 W2 => S (ls.setIfInBounds k true) W2 ∧ Any P md ops Q S m (ls.setIfInBounds k true) act2 W2) act W
theorem any_wp (m : Nat) : ∀ (ls : Array Bool) (act : Act) (W : World), Any P md ops Q S m ls act W → wpAny P md ops Q m ls act W := by
  induction m with
  | zero => exact fun _ _ _ h => h
  | succ m ih => exact fun ls act W h => ⟨h.1, fun k hk => wpOp_mono (fun act2 W2 h2 => ih _ act2 W2 h2.2) (h.2 k hk)⟩
/-- Number i is taken first: as long as it has not come up the list keeps Z, and in a world that S of such a list tells of it yields v. -/
theorem first {i : Nat} {oi : Oper} {v : Value} {Fc : World → Prop} {Z : Array Bool → Prop} (hi : ops[i]? = some oi) (hsel : ∀ (k : Nat) (o : Oper) cs b, ops[k]? = some o → o.op ≠ .select cs b)
    (hQ : ∀ c act W, Q (.panic c) (act.put oi.dst v) W → Q (.panic c) act W) (hSi : ∀ ls W, S (ls.setIfInBounds i true) W ↔ S ls W)
    (hZ : ∀ ls k ok, Z ls → ops[k]? = some ok → (∀ e ∈ ok.after, Region.binds md e = true → e.on ≠ i) → Z (ls.setIfInBounds k true)) (hF : ∀ ls W, Z ls → S ls W → Fc W) (m : Nat) :
    ∀ (ls : Array Bool) (act : Act) (W : World), (∀ k ok, ops[k]? = some ok → k ≠ i → ls.getD k true = false → (∀ e ∈ ok.after, Region.binds md e = true → e.on ≠ i) → oi.apart ops ok = true) →
      i ∈ Region.ready md ops ls → YieldsIf P ops Fc oi v act → Z ls → S ls W → Any P md ops Q S m (ls.setIfInBounds i true) (act.put oi.dst v) W → Any P md ops Q S (m + 1) ls act W := by
  induction m with
  | zero =>
    intro ls act W _ hr hy hz hs h
    refine ⟨fun e => absurd hr (by rw [e]; exact List.not_mem_nil), fun k hk => ?_⟩
    rcases Classical.em (k = i) with rfl | hne
    · exact hy.wpOp hi (hF ls W hz hs) ⟨(hSi ls W).2 hs, h⟩
    · exact absurd (ready_mono hk hne) (by rw [h.1]; exact List.not_mem_nil)
  | succ m ih =>
    intro ls act W hap hr hy hz hs h
    refine ⟨fun e => absurd hr (by rw [e]; exact List.not_mem_nil), fun k hk => ?_⟩
    rcases Classical.em (k = i) with rfl | hne
    · exact hy.wpOp hi (hF ls W hz hs) ⟨(hSi ls W).2 hs, h⟩
    · obtain ⟨un, ok, hok, hafter⟩ := mem_ready.1 hk
      have hi0 := (mem_ready.1 hr).1
      have hfar : ∀ e ∈ ok.after, Region.binds md e = true → e.on ≠ i := by
        intro e he hb e1
        have h2 := hafter e he hb
        rw [e1] at h2
        by_cases hl : i < ls.size
        · simp only [Array.getD_eq_getD_getElem?, Array.getElem?_eq_getElem hl, Option.getD_some] at hi0 h2
          rw [hi0] at h2
          cases h2
        · simp only [Array.getD_eq_getD_getElem?, Array.getElem?_eq_none (Nat.le_of_not_lt hl), Option.getD_none] at hi0 h2
          first | cases hi0 | cases h2
      have h3 := wpOp_putIf hok (hap k ok hok hne un hfar) (fun cs b => hsel i oi cs b hi) (fun cs b => hsel k ok cs b hok) hQ hy (h.2 k (ready_mono hk hne))
      refine wpOp_mono (fun act2 W2 ⟨h4, h5, h6⟩ => ?_) h3
      have e2 : (ls.setIfInBounds i true).setIfInBounds k true = (ls.setIfInBounds k true).setIfInBounds i true := Array.setIfInBounds_comm _ _ (Ne.symm hne)
      rw [e2] at h5 h6
      have h7 := (hSi _ W2).1 h5
      refine ⟨h7, ih (ls.setIfInBounds k true) act2 W2 (fun q oq hq hqi hun hno => ?_) (ready_mono hr (Ne.symm hne)) h4 (hZ ls k ok hz hok hfar) h7 h6⟩
      refine hap q oq hq hqi ?_ hno
      rcases Classical.em (k = q) with rfl | hkq
      · exact un
      · rwa [getD_set_ne true hkq] at hun
/-- What two loads read, each until its own store. -/
structure Two (k1 k2 : Nat) (F1 F2 : World → Prop) (ls : Array Bool) (W : World) : Prop where
  f1 : ls.getD k1 true = false → F1 W
  f2 : ls.getD k2 true = false → F2 W
theorem two_set {k1 k2 i : Nat} {F1 F2 : World → Prop} (h1 : i ≠ k1) (h2 : i ≠ k2) (ls : Array Bool) (W : World) : Two k1 k2 F1 F2 (ls.setIfInBounds i true) W ↔ Two k1 k2 F1 F2 ls W := by
  constructor
  · intro h
    exact ⟨fun e => h.f1 (by rw [getD_set_ne true h1]; exact e), fun e => h.f2 (by rw [getD_set_ne true h2]; exact e)⟩
  · intro h
    exact ⟨fun e => h.f1 (by rw [getD_set_ne true h1] at e; exact e), fun e => h.f2 (by rw [getD_set_ne true h2] at e; exact e)⟩
theorem gone {l : Array Bool} {k : Nat} {p : Prop} (h : l.getD k true = true) (e : l.getD k true = false) : p := absurd (h.symm.trans e) (by decide)
/-- Whether the operation with number k waits for i. -/
def waits (md : Region.Mode) (ops : Array Oper) (k i : Nat) : Bool := match ops[k]? with
  | none => true
  | some o => o.after.any fun e => Region.binds md e && (e.on == i)
theorem waits_spec {k i : Nat} (h : waits md ops k i = true) {q : Nat} {oq : Oper} (hq : ops[q]? = some oq) (hno : ∀ e ∈ oq.after, Region.binds md e = true → e.on ≠ i) : q ≠ k := by
  intro e
  subst e
  unfold waits at h
  rw [hq] at h
  simp only [Array.any_eq_true'] at h
  obtain ⟨e, he, h2⟩ := h
  rw [Bool.and_eq_true, beq_iff_eq] at h2
  exact hno e he h2.1 h2.2
section
variable {k1 k2 : Nat} {F1 F2 : World → Prop}
/-- An operation that yields in whatever world. -/
theorem take {i : Nat} {oi : Oper} {v : Value} {m : Nat} {ls : Array Bool} {act : Act} {W : World} (hi : ops[i]? = some oi) (hs : Region.noSelect ops = true) (hf : Region.free md ops ls i = true) (hr : (Region.ready md ops ls).contains i = true) (hk : (i != k1 && i != k2) = true)
    (hQ : ∀ c act W, Q (.panic c) (act.put oi.dst v) W → Q (.panic c) act W) (hy : YieldsIf P ops (fun _ => True) oi v act) (hS : Two k1 k2 F1 F2 ls W)
    (h : Any P md ops Q (Two k1 k2 F1 F2) m (ls.setIfInBounds i true) (act.put oi.dst v) W) : Any P md ops Q (Two k1 k2 F1 F2) (m + 1) ls act W := by
  rw [Bool.and_eq_true, bne_iff_ne, bne_iff_ne] at hk
  exact first (Z := fun _ => True) hi (Region.noSelect_spec hs) hQ (two_set hk.1 hk.2) (fun _ _ _ _ _ _ => trivial) (fun _ _ _ _ => trivial) m ls act W (Region.free_spec hi hf) (by simpa using hr) hy trivial hS h
/-- The first load. -/
theorem take1 {i : Nat} {oi : Oper} {v : Value} {m : Nat} {ls : Array Bool} {act : Act} {W : World} (hi : ops[i]? = some oi) (hs : Region.noSelect ops = true) (hf : Region.free md ops ls i = true) (hr : (Region.ready md ops ls).contains i = true) (hk : (i != k1 && i != k2) = true) (hw : waits md ops k1 i = true) (hu : ls.getD k1 true = false)
    (hQ : ∀ c act W, Q (.panic c) (act.put oi.dst v) W → Q (.panic c) act W) (hy : YieldsIf P ops F1 oi v act) (hS : Two k1 k2 F1 F2 ls W)
    (h : Any P md ops Q (Two k1 k2 F1 F2) m (ls.setIfInBounds i true) (act.put oi.dst v) W) : Any P md ops Q (Two k1 k2 F1 F2) (m + 1) ls act W := by
  rw [Bool.and_eq_true, bne_iff_ne, bne_iff_ne] at hk
  exact first (Z := fun l => l.getD k1 true = false) hi (Region.noSelect_spec hs) hQ (two_set hk.1 hk.2) (fun l q oq hz hq hno => by rw [getD_set_ne true (waits_spec hw hq hno)]; exact hz) (fun l W hz h => h.f1 hz) m ls act W (Region.free_spec hi hf) (by simpa using hr) hy hu hS h
/-- The second load. -/
theorem take2 {i : Nat} {oi : Oper} {v : Value} {m : Nat} {ls : Array Bool} {act : Act} {W : World} (hi : ops[i]? = some oi) (hs : Region.noSelect ops = true) (hf : Region.free md ops ls i = true) (hr : (Region.ready md ops ls).contains i = true) (hk : (i != k1 && i != k2) = true) (hw : waits md ops k2 i = true) (hu : ls.getD k2 true = false)
    (hQ : ∀ c act W, Q (.panic c) (act.put oi.dst v) W → Q (.panic c) act W) (hy : YieldsIf P ops F2 oi v act) (hS : Two k1 k2 F1 F2 ls W)
    (h : Any P md ops Q (Two k1 k2 F1 F2) m (ls.setIfInBounds i true) (act.put oi.dst v) W) : Any P md ops Q (Two k1 k2 F1 F2) (m + 1) ls act W := by
  rw [Bool.and_eq_true, bne_iff_ne, bne_iff_ne] at hk
  exact first (Z := fun l => l.getD k2 true = false) hi (Region.noSelect_spec hs) hQ (two_set hk.1 hk.2) (fun l q oq hz hq hno => by rw [getD_set_ne true (waits_spec hw hq hno)]; exact hz) (fun l W hz h => h.f2 hz) m ls act W (Region.free_spec hi hf) (by simpa using hr) hy hu hS h
end
theorem done {ls : Array Bool} {act : Act} {W : World} (hr : Region.ready md ops ls = []) (h : Q .normal act W) (m : Nat) : Any P md ops Q S m ls act W := by
  cases m with
  | zero => exact ⟨hr, h⟩
  | succ m => exact ⟨fun _ => h, fun k hk => absurd hk (by rw [hr]; exact List.not_mem_nil)⟩
/-- Each of these comes up next. -/
def All (P : Program) (md : Region.Mode) (ops : Array Oper) (Q : Exit → Act → World → Prop) (S : Array Bool → World → Prop) (m : Nat) (ls : Array Bool) (act : Act) (W : World) (rs : List Nat) : Prop :=
  ∀ k ∈ rs, wpOp P ops Q k (fun act2 W2 => S (ls.setIfInBounds k true) W2 ∧ Any P md ops Q S m (ls.setIfInBounds k true) act2 W2) act W
theorem All.nil {m : Nat} {ls : Array Bool} {act : Act} {W : World} : All P md ops Q S m ls act W [] := fun _ hk => absurd hk List.not_mem_nil
theorem All.cons {m : Nat} {ls : Array Bool} {act : Act} {W : World} {k : Nat} {o : Oper} {rs : List Nat} (ho : ops[k]? = some o)
    (h : ∀ K2 : Act → World → Prop, Shut (∀ act2 W2, S (ls.setIfInBounds k true) W2 → (S (ls.setIfInBounds k true) W2 → Any P md ops Q S m (ls.setIfInBounds k true) act2 W2) → K2 act2 W2) →
      if Region.wanted o (yielded ops act.tmps) = true then Oper.wp P o act W K2 Q else K2 (act.put o.dst undef) W)
    (hs : All P md ops Q S m ls act W rs) : All P md ops Q S m ls act W (k :: rs) := by
  intro q hq
  rcases List.mem_cons.1 hq with e | hq
  · subst e
    exact wpOp_step ho fun K2 hK => h K2 fun act2 W2 h1 h2 => hK act2 W2 ⟨h1, h2 h1⟩
  · exact hs q hq
theorem ready {rs : List Nat} {m : Nat} {ls : Array Bool} {act : Act} {W : World} (hr : Region.ready md ops ls = rs) (hne : rs ≠ []) (h : All P md ops Q S m ls act W rs) : Any P md ops Q S (m + 1) ls act W :=
  ⟨fun e => absurd (hr.symm.trans e) hne, fun k hk => h k (by rw [← hr]; exact hk)⟩
theorem region {id : Nat} {act : Act} {W : World} (hm : P.follows .mixedOrders = true) (hS : S (Array.replicate ops.size false) W.drew)
    (h : S (Array.replicate ops.size false) W.drew → Any P .any ops Q S ops.size (Array.replicate ops.size false) act W.drew) : (Code.region id ops true).wp P Q act W :=
  wp_region_any hm (any_wp _ _ _ _ (h hS))
end
end Gst
end Go.Proofs.Ytgbklmncfajcgaa
