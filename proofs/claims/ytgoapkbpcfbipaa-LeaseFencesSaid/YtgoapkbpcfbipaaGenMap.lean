/- A map of counts: an entry that is fetched and stored ('m[k]++', 'm[k]--'). -/
import Derived.Test.YtgoapkbpcfbipaaGen
import Derived.Maps.RangeWalk
namespace Go.Proofs.Ytgoapkbpcfbipaa
open Go.ChangeShapes Go.WideShapes Go.MapKept Go.ChangeMaps Go.WideElems Go.RowKit Go.Maps
set_option linter.unusedVariables false
namespace Gen
section
variable {H : Type} {P : Program} {w : World} {t k e : TypeId} {b n : Nat} {D : DataW H}
theorem run_entry_none (K : WideMaps.KeyLaw P k) (ht : P.underlying t = some (.map k e)) {z : Value} (hz : ∀ u : World, (zeroValue e).run P u = .ok z u) {es : Array MapEntry} {clock : Nat} (hb : w.heap[b]? = some (.map es clock))
    {key : Value} {kl : Lit} (hkey : keyOf P k key = some kl) (h1 : (Instr.findKey k key es.toList).run P w = .ok none w) :
    (Instr.mapEntry t (.map (some b)) key).run P w = .ok (.tuple #[z, goInt clock]) (setBlock w b (.map (es.push ⟨key, z, clock⟩) (clock + 1))) ∧
    (Instr.mapUpdate t (.map (some b)) key z).run P w = .ok () (setBlock w b (.map (es.push ⟨key, z, clock⟩) (clock + 1))) := by
  constructor
  · simp [Instr.mapEntry, run_underlying ht, MapKept.run_getObj_map hb, K.check w false hkey, h1, hz, MapKept.run_setObj_map _ hb, Result.andThen, setBlock]
  · simp [Instr.mapUpdate, run_underlying ht, MapKept.run_getObj_map hb, K.check w false hkey, h1, MapKept.run_setObj_map _ hb, Result.andThen, setBlock]
theorem run_entry_some (K : WideMaps.KeyLaw P k) (ht : P.underlying t = some (.map k e)) {es : Array MapEntry} {clock : Nat} (hb : w.heap[b]? = some (.map es clock))
    {key : Value} {kl : Lit} (hkey : keyOf P k key = some kl) {j : Nat} {e0 : MapEntry} (h1 : (Instr.findKey k key es.toList).run P w = .ok (some (j, e0.val)) w) (h2 : es.toList[j]? = some e0) (h3 : e0.key = key) :
    (Instr.mapEntry t (.map (some b)) key).run P w = .ok (.tuple #[e0.val, goInt e0.born]) (setBlock w b (.map es clock)) := by
  have hj : es[j]? = some e0 := by simpa using h2
  have hsame : es.modify j (fun e => { e with key := key }) = es := by
    apply Array.ext'
    rw [Array.toList_modify, modify_eq_set _ _ _ _ h2]
    have : ({ e0 with key := key } : MapEntry) = e0 := by rw [← h3]
    rw [this]
    exact set_self _ _ _ h2
  simp [Instr.mapEntry, run_underlying ht, MapKept.run_getObj_map hb, K.check w false hkey, h1, hj, h3, K.stays w hkey, hsame, MapKept.run_setObj_map _ hb, Result.andThen, setBlock]
/-- An entry of a map of counts, fetched and stored; what is looked up ahead of that or between. -/
theorem entry_turn (K : WideMaps.KeyLaw P k) (ht : P.underlying t = some (.map k e)) (he : P.underlying e = some (.int .i64)) (hz : ∀ u : World, (zeroValue e).run P u = .ok (.int .i64 0) u)
    (h : w.ownsMap P k (plainElem P e) b n D) (hn : n < maxLen) {key : Value} {kl : Lit} (hkey : keyOf P k key = some kl) :
    ∃ (c : Int) (st : Nat) (w1 : World), D.atKey kl (.lit (.int .i64 0)) = .lit (.int .i64 c) ∧ (Instr.lookup t (.map (some b)) key false).run P w = .ok (.int .i64 c) w ∧
      (Instr.mapEntry t (.map (some b)) key).run P w = .ok (.tuple #[.int .i64 c, goInt st]) w1 ∧ (Instr.lookup t (.map (some b)) key false).run P w1 = .ok (.int .i64 c) w1 ∧ w.grownBy w1 (some b) ∧
      ∀ x : Int, (Lit.int .i64 x).wf = true → ∃ w2, (Instr.entryStore t (.map (some b)) (goInt st) (.int .i64 x)).run P w1 = .ok () w2 ∧ w2.ownsMap P k (plainElem P e) b (n + 1) (D.put kl (.lit (.int .i64 x))) ∧ w.grownBy w2 (some b) := by
  have KD := Keyed.of_law K
  obtain ⟨c, hlook, hat, hwc⟩ := h.lookup_int KD ht he (hz w) hkey
  have hup := fun (x : Int) (hx : (Lit.int .i64 x).wf = true) => h.update KD ht hn (val := .int .i64 x) hkey (plainElem_int he hx)
  obtain ⟨es, clock, hb, F, hs, hD⟩ := id h
  obtain ⟨v0, st0, es1, clock1, hrun, _, hstore⟩ := entry_then_store K ht hz hb F hkey
  have hg : w.grownBy (setBlock w b (.map es1 clock1)) (some b) := ⟨rfl, rfl, rfl, by simp [setBlock], fun i _ hi => heap_setBlock_other hb _ (fun e => hi (by rw [e]))⟩
  have hb1 : (setBlock w b (.map es1 clock1)).heap[b]? = some (.map es1 clock1) := heap_setBlock_same hb _
  have fin : ∀ x : Int, (Lit.int .i64 x).wf = true → ∃ w2, (Instr.entryStore t (.map (some b)) (goInt st0) (.int .i64 x)).run P (setBlock w b (.map es1 clock1)) = .ok () w2 ∧ w2.ownsMap P k (plainElem P e) b (n + 1) (D.put kl (.lit (.int .i64 x))) ∧ w.grownBy w2 (some b) := by
    intro x hx
    obtain ⟨es', clock', hr, hm⟩ := hstore (setBlock w b (.map es1 clock1)) (.int .i64 x) hb1
    obtain ⟨w', hr', ho, hg'⟩ := hup x hx
    rw [hm] at hr'
    have e1 : setBlock w b (.map es' clock') = w' := by injection hr'
    subst e1
    refine ⟨_, hr, ?_, ⟨rfl, rfl, rfl, by simp [setBlock], fun i _ hi => ?_⟩⟩
    · obtain ⟨es2, c2, h1, h2⟩ := ho
      have e2 := heap_setBlock_same hb (.map es' clock')
      rw [e2] at h1
      injection h1 with h1
      injection h1 with h1 h3
      subst h1 h3
      exact ⟨_, _, heap_setBlock_same hb1 _, h2⟩
    · exact (heap_setBlock_other hb1 _ (fun e => hi (by rw [e]))).trans (hg.block i (by assumption) hi)
  rcases K.find w hkey es.toList F.keys with ⟨h1, h2⟩ | ⟨j, e0, h1, h2, h3⟩
  · obtain ⟨r1, r2⟩ := run_entry_none K ht hz hb hkey h1
    rw [r1] at hrun
    have hc : c = 0 := by
      have hl2 : (Instr.lookup t (.map (some b)) key false).run P w = .ok (.int .i64 0) w := by simp [Instr.lookup, run_underlying ht, MapKept.run_getObj_map hb, KD.check w _ hkey, h1, hz, Result.andThen]
      rw [hl2] at hlook
      injection hlook with hlook
      injection hlook with _ hlook
      exact hlook.symm
    subst hc
    injection hrun with e1 e2
    have e3 : (Value.int .i64 0) = v0 ∧ goInt clock = goInt st0 := by simpa using e1
    obtain ⟨w', hr', ho, _⟩ := hup 0 (by decide)
    rw [r2] at hr'
    have e4 : setBlock w b (.map (es.push ⟨key, .int .i64 0, clock⟩) (clock + 1)) = w' := by injection hr'
    have ho1 : (setBlock w b (.map es1 clock1)).ownsMap P k (plainElem P e) b (n + 1) (D.put kl (.lit (.int .i64 0))) := by rw [← e2, e4]; exact ho
    obtain ⟨c2, hl2, hat2, _⟩ := ho1.lookup_int KD ht he (hz _) hkey
    rw [atKey_put_same h.isMap (KD.key hkey)] at hat2
    have hc2 : c2 = 0 := by
      injection hat2 with hat2
      injection hat2 with _ hat2
      exact hat2.symm
    subst hc2
    exact ⟨0, st0, _, hat, hlook, by rw [r1, e2, e3.2], hl2, hg, fin⟩
  · have r1 := run_entry_some K ht hb hkey h1 h2 h3
    rw [r1] at hrun
    have hc : e0.val = .int .i64 c := by
      have hl2 : (Instr.lookup t (.map (some b)) key false).run P w = .ok e0.val w := by simp [Instr.lookup, run_underlying ht, MapKept.run_getObj_map hb, KD.check w _ hkey, h1, Result.andThen]
      rw [hl2] at hlook
      injection hlook
    injection hrun with e1 e2
    have e3 : e0.val = v0 ∧ goInt e0.born = goInt st0 := by simpa using e1
    have ho1 : (setBlock w b (.map es1 clock1)).ownsMap P k (plainElem P e) b n D := by rw [← e2]; exact ⟨es, clock, heap_setBlock_same hb _, F, hs, hD⟩
    obtain ⟨c2, hl2, hat2, _⟩ := ho1.lookup_int KD ht he (hz _) hkey
    rw [hat] at hat2
    have hc2 : c = c2 := by
      injection hat2 with hat2
      injection hat2
    subst hc2
    exact ⟨c, st0, _, hat, hlook, by rw [r1, e2, e3.2, hc], hl2, hg, fin⟩
end
end Gen
end Go.Proofs.Ytgoapkbpcfbipaa
