/- A store at a key that is there, in a round of a range over that map (the kit's Range has it not): who is still to come stays. -/
import Derived.Test.YtgoapkbpcfbipaaGen
import Derived.Maps.RangeWalk
namespace Go.Proofs.Ytgoapkbpcfbipaa
open Go.ChangeShapes Go.WideShapes Go.MapKept Go.ChangeMaps Go.RowKit Go.Maps
open Go.WideElems (Fit rd rg pl rd_key rd_val rg_of other_key)
set_option linter.unusedVariables false
namespace Gen
theorem mem_set_or {α : Type} {l : List α} {j : Nat} {a b x : α} (hj : l[j]? = some a) (hx : x ∈ l) : x = a ∨ x ∈ l.set j b := by
  obtain ⟨i, hi⟩ := List.getElem?_of_mem hx
  by_cases e : j = i
  · subst e
    rw [hj] at hi
    exact .inl (Option.some.inj hi).symm
  · exact .inr (List.mem_of_getElem? (i := i) (by rw [List.getElem?_set_ne e]; exact hi))
theorem set_same {α : Type} {l : List α} {j : Nat} {x : α} (h : l[j]? = some x) : l.set j x = l := by
  obtain ⟨hj, rfl⟩ := List.getElem?_eq_some_iff.1 h
  exact List.set_getElem_self hj
theorem filter_len_map {α β : Type} (f : α → β) (p : β → Bool) (l : List α) : (l.filter fun x => p (f x)).length = ((l.map f).filter p).length := by
  rw [List.filter_map, List.length_map]
  rfl
section
variable {H : Type} {P : Program} {k : TypeId} {R : Value → Option (DataW H × List MemPlace)} {w : World} {b r n : Nat} {D : DataW H} {left : Lit → Bool} {cnt : Nat}
theorem left_size (es : Array MapEntry) (seen : Array Nat) : (leftOf es seen).size = ((es.toList.map (·.born)).filter fun x => !seen.contains x).length := by
  unfold leftOf
  rw [← filter_len_map, ← Array.toList_filter, Array.length_toList]
theorem ranges_store {t e : TypeId} (h : w.ranges P k R b r n D left cnt) (K : Keyed P k) (ht : P.underlying t = some (.map k e)) (hn : n < maxLen) {key val : Value} {kl : Lit} {d : DataW H} {ps : List MemPlace}
    (hkey : keyOf P k key = some kl) (hin : Maps.has D kl = true) (hv : R val = some (d, ps)) :
    ∃ w', (Instr.mapUpdate t (.map (some b)) key val).run P w = .ok () w' ∧ w'.ranges P k R b r n (D.put kl d) left cnt ∧ w.grownBy w' (some b) ∧ w'.heap.size = w.heap.size := by
  have hne := h.ne
  obtain ⟨es, clock, since, seen, c0, hb, F, hs, rfl, hr, hold, hc, hl1, hl2, hsc, hsk⟩ := h
  obtain ⟨es', clock', hrun, F', hput, _⟩ := Maps.fit_store (R' := R) K ht hb F (Nat.lt_of_le_of_lt hs hn) (fun _ _ _ _ hz => hz) hkey hv
  obtain ⟨p, hp, hpk⟩ := List.any_eq_true.1 hin
  obtain ⟨x0, hx0, rfl⟩ := List.mem_map.1 (mem_sorted.1 hp)
  have hx0k : x0.key = key := by
    obtain ⟨y, hy⟩ := F.reads x0 hx0
    have e1 := WideAt.sameKey_eq hpk
    rw [rg_of hy] at e1
    exact K.inj (by rw [← e1]; exact rd_key hy) hkey
  have key1 : ∀ {x : MapEntry} {R' : Value → Option (DataW H × List MemPlace)}, (∃ y, rd P k R' x = some y) → x.key = key → (rg P k R' x).1 = kl := fun {x R'} hx hk => by
    obtain ⟨y, hy⟩ := hx
    have h1 := rd_key hy
    rw [hk, hkey] at h1
    rw [rg_of hy]
    exact (Option.some.inj h1).symm
  rcases K.find w hkey es.toList F.keys with ⟨h1, h2⟩ | ⟨j, e0, h1, h2, h3⟩
  · exact absurd hx0k (h2 x0 hx0)
  · have hj : es[j]? = some e0 := by simpa using h2
    have hrun2 : (Instr.mapUpdate t (.map (some b)) key val).run P w = .ok () (setBlock w b (.map (es.modify j (fun e' => { e' with key := key, val := val })) clock)) := by
      simp [Instr.mapUpdate, run_underlying ht, MapKept.run_getObj_map hb, K.check w false hkey, h1, hj, h3, K.stays w hkey, MapKept.run_setObj_map _ hb, Result.andThen, setBlock]
    have hlist : (es.modify j (fun e' => { e' with key := key, val := val })).toList = es.toList.set j { e0 with key := key, val := val } := by rw [Array.toList_modify, modify_eq_set _ _ _ _ h2]
    have heq : es' = es.modify j (fun e' => { e' with key := key, val := val }) ∧ clock' = clock := by
      rw [hrun] at hrun2
      have e1 : setBlock w b (.map es' clock') = setBlock w b (.map (es.modify j (fun e' => { e' with key := key, val := val })) clock) := by injection hrun2
      have e2 := heap_setBlock_same hb (.map es' clock')
      rw [e1, heap_setBlock_same hb] at e2
      injection e2 with e2
      injection e2 with e2 e3
      exact ⟨e2.symm, e3.symm⟩
    obtain ⟨rfl, rfl⟩ := heq
    obtain ⟨e1, he1⟩ : ∃ e1 : MapEntry, e1 = { e0 with key := key, val := val } := ⟨_, rfl⟩
    rw [← he1] at hlist
    have hb1 : e1.born = e0.born := by rw [he1]
    have hk1 : e1.key = key := by rw [he1]
    have hjl : j < es.toList.length := (List.getElem?_eq_some_iff.1 h2).1
    have hm0 : e0 ∈ es.toList := List.mem_of_getElem? h2
    have hm1 : e1 ∈ (es.modify j (fun e' => { e' with key := key, val := val })).toList := by
      rw [hlist]
      exact List.mem_of_getElem? (i := j) (by rw [List.getElem?_set_self hjl])
    have hborn : (es.modify j (fun e' => { e' with key := key, val := val })).toList.map (·.born) = es.toList.map (·.born) := by
      rw [hlist, List.map_set, hb1]
      exact set_same (by rw [List.getElem?_map, h2]; rfl)
    refine ⟨_, hrun, ⟨_, _, since, seen, c0, heap_setBlock_same hb _, F', by simpa using hs, by rw [DataW.put_eq, hput], (heap_setBlock_other hb _ hne).trans hr, fun x hx => ?_, ?_, fun x hx => ?_, fun k0 hk0 => ?_, hsc, hsk⟩, ⟨rfl, rfl, rfl, by simp [setBlock], fun i _ hi => heap_setBlock_other hb _ (fun e => hi (by rw [e]))⟩, by simp [setBlock]⟩
    · rw [hlist] at hx
      rcases List.mem_or_eq_of_mem_set hx with h | rfl
      · exact hold x h
      · rw [hb1]; exact hold e0 hm0
    · rw [left_size, hborn, ← left_size]; exact hc
    · have hx' := hx
      rw [hlist] at hx
      rcases List.mem_or_eq_of_mem_set hx with h | rfl
      · exact hl1 x h
      · rw [key1 (F'.reads x hx') hk1, hb1, ← hl1 e0 hm0, key1 (F.reads e0 hm0) h3]
    · obtain ⟨x, hx, rfl⟩ := hl2 k0 hk0
      rcases mem_set_or (b := e1) h2 hx with rfl | h
      · exact ⟨e1, hm1, by rw [key1 (F'.reads e1 hm1) hk1, key1 (F.reads x hm0) h3]⟩
      · exact ⟨x, by rw [hlist]; exact h, rfl⟩
/-- 'm[k] = v' at the operation, k a key that is there, in a round of a range over m. -/
theorem wpList_store_ranges (w : World) {ops : Array Oper} {rest : List Oper} {o : Oper} {a : Act} {Q : Exit → Act → World → Prop}
    (hg : o.guard = none) (m x v : Operand) (t : TypeId) (hop : o.op = Op.mapUpdate t m x v)
    (k e : TypeId) (K : Keyed P k) (ht : P.underlying t = some (.map k e)) (R : Value → Option (DataW H × List MemPlace)) (b r n : Nat) (D : DataW H) (left : Lit → Bool) (cnt : Nat)
    (hm : a.eval m = .map (some b)) (h : w.ranges P k R b r n D left cnt) (hn : n < maxLen) (key val : Value) (kl : Lit) (hx : a.eval x = key) (hv : a.eval v = val) (hkey : keyOf P k key = some kl) (hin : Maps.has D kl = true)
    (d : DataW H) (ps : List MemPlace) (hval : R val = some (d, ps))
    (hK : ∀ w', w'.ranges P k R b r n (D.put kl d) left cnt → w.grownBy w' (some b) → w'.heap.size = w.heap.size → wpList P ops Q rest (a.put o.dst undef) w') :
    wpList P ops Q (o :: rest) a w := by
  refine wpList_plain hg fun K' hK' => ?_
  obtain ⟨w', hrun, r1, r2, r3⟩ := ranges_store h K ht hn hkey hin hval
  unfold Oper.wp
  simp [execOp, hop, hm, hx, hv, hrun, Result.andThen]
  exact hK' _ _ (hK w' r1 r2 r3)
end
end Gen
end Go.Proofs.Ytgoapkbpcfbipaa
