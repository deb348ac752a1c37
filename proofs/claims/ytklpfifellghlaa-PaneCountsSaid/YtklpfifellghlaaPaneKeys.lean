/- Places as keys of a map: how many there are. -/
import Derived.Test.YtklpfifellghlaaPaneVals
import Derived.Test.YtklpfifellghlaaPaneOne
import Derived.Maps.OwnSet
import Derived.DeepKeys4
namespace Go.Proofs.Ytklpfifellghlaa
open Go.RowKit Go.Maps
open Pan
set_option linter.unusedVariables false
abbrev plV (p : Pl) : Value := .agg #[.string (kS p.key), .int .i64 p.lo, .int .i64 p.hi]
def plK (p : Pl) : Lit := .string (keyBytes [.string p.key, .int .i64 p.lo, .int .i64 p.hi])
theorem lawPl : Keyed Try.prog 58 := Keyed.of_law (deep_law_laid (P := Try.prog) (m := 9) (by kernel_rfl) (by omega) (of_decide_eq_true (by kernel_rfl)) (by kernel_rfl) (by kernel_rfl))
theorem i64_wf {n : Int} (h1 : -9223372036854775808 ≤ n) (h2 : n ≤ 9223372036854775807) : (Lit.int .i64 n).wf = true := by
  simp [Lit.wf, IntKind.min, IntKind.max, IntKind.bits, IntKind.signed]
  omega
theorem keyOf_pl {p : Pl} (h : plOk p = true) : keyOf Try.prog 58 (plV p) = some (plK p) := by
  have h' := of_decide_eq_true h
  obtain ⟨h1, h2, h3, h4, h5⟩ := h'
  have w1 : (Lit.int .i64 p.lo).wf = true := i64_wf (by omega) (by omega)
  have w2 : (Lit.int .i64 p.hi).wf = true := i64_wf (by omega) (by omega)
  have w3 : (kS p.key).size ≤ maxLen := by rw [kS_size]; unfold maxLen; omega
  have hd : (kS p.key).data.toList = p.key := by unfold kS; rfl
  have hkt : Try.prog.keyType 58 = true := by kernel_rfl
  have hcl : Try.prog.cellsOf 58 = 3 := by kernel_rfl
  have hcw : Try.prog.cellsOf 24 = 2 := by kernel_rfl
  have hcs : Try.prog.cellsOf 9 = 1 := by kernel_rfl
  have hci : Try.prog.cellsOf 2 = 1 := by kernel_rfl
  obtain ⟨m, hm⟩ : ∃ m, Try.prog.types.size = m + 2 := ⟨Try.prog.types.size - 2, by have : 2 ≤ Try.prog.types.size := by decide +kernel
                                                                                    omega⟩
  unfold keyOf
  rw [Try.underlying58, hm]
  simp [hkt, Value.formed, hcl, Try.underlying58, Program.keyLits, Try.underlying9, Try.underlying24, Try.underlying2, hcs, hcw, hci, w1, w2, w3, hd, Value.cells, plK]
  rw [if_pos (by intro i hi; match i, hi with | 0, _ => simp | 1, _ => simp)]
  rfl
theorem plK_key (p : Pl) : WideAt.IsKeyLit (plK p) := trivial
theorem plK_inj {p q : Pl} (hp : plOk p = true) (hq : plOk q = true) (h : plK p = plK q) : p = q := by
  have h1 := keyOf_pl hp
  have h2 := keyOf_pl hq
  rw [h] at h1
  have h3 := lawPl.inj h1 h2
  simp only [plV, Value.agg.injEq, Array.mk.injEq, List.cons.injEq, Value.string.injEq, Value.int.injEq, true_and, and_true] at h3
  obtain ⟨e1, e2, e3⟩ := h3
  have e4 : p.key = q.key := by have := congrArg ByteArray.toList e1; rwa [kS_list, kS_list] at this
  cases p; cases q; simp_all
theorem same_iff {p q : Pl} (hp : plOk p = true) (hq : plOk q = true) : (plK p).sameKey (plK q) = decide (p = q) := by
  by_cases e : p = q
  · subst e; rw [decide_eq_true rfl]; exact WideAt.sameKey_self (plK_key p)
  · rw [decide_eq_false e]
    cases h : (plK p).sameKey (plK q)
    · rfl
    · exact absurd (plK_inj hp hq (WideAt.sameKey_eq h)) e
/-- The set of the first places. -/
def plS (vs : List (Pl × Int)) : DataW Unit := setOf (.lit (.bool true)) (vs.map fun v => plK v.1)
theorem plS_push (l : List (Pl × Int)) (v : Pl × Int) : plS (l ++ [v]) = (plS l).put (plK v.1) (.lit (.bool true)) := by
  unfold plS
  rw [List.map_append, List.map_singleton, setOf_snoc]
theorem plS_next {vs : List (Pl × Int)} {j : Nat} {v : Pl × Int} (h : vs[j]? = some v) : plS (vs.take (j + 1)) = (plS (vs.take j)).put (plK v.1) (.lit (.bool true)) := by
  rw [List.take_add_one, h]
  exact plS_push _ _
theorem plS_tidy (l : List (Pl × Int)) : Tidy (plS l) := tidy_setOf _ _ fun x hx => by
  obtain ⟨v, _, rfl⟩ := List.mem_map.1 hx
  exact plK_key _
namespace Pan
theorem ins_len {k : Int} {x : Pn} : ∀ {l : List Pn}, Ord l → (ins k x l).length = if get l x.p = none then l.length + 1 else l.length
  | [], _ => by simp [ins, get]
  | a :: l, h => by
    obtain ⟨ha, hl⟩ := List.pairwise_cons.1 h
    rw [ins, get]
    by_cases e : a.p = x.p
    · rw [if_pos e, if_pos e, if_neg (by simp)]; rfl
    · rw [if_neg e, if_neg e]
      by_cases h2 : ahead x.p a.p = true
      · rw [if_pos h2, get_ahead fun b hb => ahead_trans h2 (ha b hb), if_pos rfl]; rfl
      · rw [if_neg h2, List.length_cons, List.length_cons, ins_len hl]
        split <;> rfl
end Pan
/-- As many panes as places. -/
theorem plS_size {k : Int} (h : 1 ≤ k ∧ k ≤ 5) : ∀ (vs : List (Pl × Int)), (∀ v ∈ vs, plOk v.1 = true) → Maps.size (plS vs) = (adds k vs).length := by
  refine list_snoc (by intro _; rfl) fun l v ih hv => ?_
  have ih := ih fun x hx => hv x (by simp [hx])
  have hvv := hv v (by simp)
  rw [plS_push, size_put (plS_tidy l) (.lit (.bool true)), ih, adds_push, ins_len (adds_ord k l), get_adds h]
  have hh : Maps.has (plS l) (plK v.1) = decide (vals v.1 l ≠ []) := by
    unfold plS
    rw [has_setOf _ _ _ (fun x hx => by obtain ⟨v, _, rfl⟩ := List.mem_map.1 hx; exact plK_key _), List.any_map]
    by_cases e : vals v.1 l = []
    · rw [decide_eq_false (fun h => h e), List.any_eq_false]
      intro x hx
      have hx1 : x.1 ≠ v.1 := fun he => by
        have : x ∈ l.filter fun y => decide (y.1 = v.1) := List.mem_filter.2 ⟨hx, decide_eq_true he⟩
        unfold vals at e
        rw [List.map_eq_nil_iff] at e
        rw [e] at this; cases this
      simp only [Function.comp]
      rw [same_iff (hv x (by simp [hx])) hvv, decide_eq_false hx1]
      simp
    · rw [decide_eq_true e, List.any_eq_true]
      obtain ⟨u, hu⟩ := List.exists_mem_of_ne_nil _ e
      unfold vals at hu
      obtain ⟨x, hx, _⟩ := List.mem_map.1 hu
      obtain ⟨hx1, hx2⟩ := List.mem_filter.1 hx
      refine ⟨x, hx1, ?_⟩
      simp only [Function.comp]
      rw [same_iff (hv x (by simp [hx1])) hvv]
      exact hx2
  rw [hh]
  by_cases e : vals v.1 l = []
  · simp [e]
  · simp [e]
end Go.Proofs.Ytklpfifellghlaa
