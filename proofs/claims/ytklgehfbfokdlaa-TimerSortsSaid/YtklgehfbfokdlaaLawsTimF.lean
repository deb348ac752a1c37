/- The walk of the law TimerSorts. -/
import Derived.Test.YtklgehfbfokdlaaLawsTimB
import Derived.Test.YtklgehfbfokdlaaTimKeys
namespace Go.Proofs.Ytklgehfbfokdlaa
open Go.ChangeShapes Go.WideShapes Go.ChangeAt Go.RowKit Go.Maps
set_option linter.unusedVariables false
namespace Tim
/-- A timer that may be a key. -/
def tmOk (t : Tm) : Prop := (Lit.int .i64 t.at_).wf = true ∧ t.name.length ≤ maxLen
def tmK (t : Tm) : Lit := .string (keyBytes [.int .i64 t.at_, .string t.name])
theorem lawTm : WideMaps.KeyLaw Try.prog 27 := deep_law_laid (P := Try.prog) (m := 9) (by kernel_rfl) (by omega) (of_decide_eq_true (by kernel_rfl)) (by kernel_rfl) (by kernel_rfl)
theorem keyOf_tm {t : Tm} (h : tmOk t) : keyOf Try.prog 27 (tmV t) = some (tmK t) := by
  obtain ⟨w1, h2⟩ := h
  have w3 : (kS t.name).size ≤ maxLen := by rw [kS_size]; exact h2
  have hd : (kS t.name).data.toList = t.name := by unfold kS; rfl
  have hkt : Try.prog.keyType 27 = true := by kernel_rfl
  obtain ⟨m, hm⟩ : ∃ m, Try.prog.types.size = m + 2 := ⟨Try.prog.types.size - 2, by have : 2 ≤ Try.prog.types.size := by decide +kernel
                                                                                    omega⟩
  unfold keyOf
  rw [Try.underlying27, hm]
  simp [hkt, Value.formed, tcells_tm, Try.underlying27, Program.keyLits, Try.underlying9, Try.underlying2, tcells_str, tcells_i64, w1, w3, hd, Value.cells, tmK]
theorem tmK_key (t : Tm) : WideAt.IsKeyLit (tmK t) := trivial
theorem tmK_inj {p q : Tm} (hp : tmOk p) (hq : tmOk q) (h : tmK p = tmK q) : p = q := by
  have h1 := keyOf_tm hp
  have h2 := keyOf_tm hq
  rw [h] at h1
  have h3 := lawTm.inj h1 h2
  simp only [Value.agg.injEq, Array.mk.injEq, List.cons.injEq, Value.string.injEq, Value.int.injEq, true_and, and_true] at h3
  obtain ⟨e1, e2⟩ := h3
  have e4 : p.name = q.name := by have := congrArg ByteArray.toList e2; rwa [kS_list, kS_list] at this
  cases p; cases q; simp_all
/-- What the map of counts holds. -/
def CountAt (D : DataW Unit) (f : Tm → Nat) : Prop := ∀ t, tmOk t → D.atKey (tmK t) (.lit (.int .i64 0)) = .lit (.int .i64 (f t))
theorem count_start (f : Tm → Nat) (h : ∀ t, f t = 0) : CountAt (.map []) f := fun t _ => by rw [h t]; rfl
theorem count_put {D : DataW Unit} {f g : Tm → Nat} {x : Tm} (hD : IsMap D) (hx : tmOk x) (h : CountAt D f) (hg : ∀ t, t ≠ x → g t = f t) : CountAt (D.put (tmK x) (.lit (.int .i64 (g x)))) g := by
  intro t ht
  by_cases e : t = x
  · subst e
    rw [atKey_put_same hD (tmK_key t)]
  · rw [atKey_put_other (fun e2 => e (tmK_inj ht hx e2)), h t ht, hg t e]
theorem lit_inj {a b : Int} (h : (DataW.lit (.int .i64 a) : DataW Unit) = .lit (.int .i64 b)) : a = b := by
  injection h with h
  injection h
theorem count_wf {n : Nat} (h : n ≤ 1000) : (Lit.int .i64 (n : Int)).wf = true := by
  simp [Lit.wf, IntKind.min, IntKind.max, IntKind.bits, IntKind.signed]
  omega
theorem zeroInt (u : World) : (zeroValue 3).run Try.prog u = .ok (.int .i64 0) u := by kernel_rfl
theorem ownsMap_block {H : Type} {P : Program} {k : TypeId} {R : Value → Option (DataW H × List MemPlace)} {w w' : World} {b n : Nat} {D : DataW H} (h : w.ownsMap P k R b n D) (hb : w'.heap[b]? = w.heap[b]?) : w'.ownsMap P k R b n D := by
  obtain ⟨es, clock, h1, h2⟩ := h
  exact ⟨es, clock, hb.trans h1, h2⟩
abbrev Cnt (w : World) (b n : Nat) (D : DataW Unit) : Prop := w.ownsMap Try.prog 27 (plainElem (H := Unit) Try.prog 3) b n D
/-- A turn of a block beside the Heap. -/
theorem One.far {w0 w w' : World} {M : Nat → Prop} {h b : Nat} {l : List Tm} (H : One w0 w M h l) (hm : Mine (· = b) w w') (h1 : ¬ M b) (hb : w0.heap.size ≤ b) : One w0 w' M h l :=
  ⟨H.holds.mine hm fun k hk e => h1 (e ▸ hk), H.base, Mine.below H.below hm (fun k hk => by subst hk; exact hb) H.below.size⟩
theorem Mine.grown_one {w w' : World} {b : Nat} (hg : w.grownBy w' (some b)) : Mine (· = b) w w' := Mine.grown hg fun k hk => (Option.some.inj hk).symm
section
variable {H : Type} {enc : TypeId × Value → H} {w : World} {base : Nat} {spare : Nat → Bool} {held : Bool}
theorem ttrod_ok {fuel : Nat} {c0 c1 : Value} {x : DataW H × List MemPlace} (h : DataW.trod enc Try.prog w base spare held fuel 27 [c0, c1] = some x) : ∃ t : Tm, [c0, c1] = tL t ∧ tmOk t := by
  obtain ⟨xs, n, _, _, _, hlen, hg⟩ := DataW.trod_struct Try.underlying27 h
  have hl : xs.length = 2 := hlen
  match xs, hl with
  | [y0, y1], _ =>
    obtain ⟨a, e1, _, w1⟩ := DataW.trod_int (x := y0) Try.underlying2 (by simpa [tcells_i64] using hg 0 _ rfl)
    obtain ⟨s, e2, _, w2⟩ := DataW.trod_string (x := y1) Try.underlying9 (by simpa [tcells_str] using hg 1 _ rfl)
    have e1' : c0 = .int .i64 a := by simpa using e1
    have e2' : c1 = .string s := by simpa using e2
    subst e1' e2'
    refine ⟨⟨a, s.toList⟩, by simp [tL, kS_of], w1, ?_⟩
    show s.toList.length ≤ maxLen
    rw [ByteArray.toList_eq]
    simpa using w2
instance : Inhabited {t : Tm // tmOk t} := ⟨⟨⟨0, []⟩, by decide, Nat.zero_le _⟩⟩
theorem openOk {v : Value} {d : DataW H} {ps : List MemPlace} {r : Reach} {b0 : Nat} (hval : Value.okWide Try.prog w r b0 25 v) (h : DataW.Trod enc Try.prog w base spare held 25 v d ps) :
    ∃ (A : Option Addr) (c : Nat) (xs : List Tm), v = .slice A xs.length c ∧ xs.length ≤ c ∧ c ≤ maxLen ∧ Row w A (tc xs) ∧ ∀ t ∈ xs, tmOk t := by
  obtain ⟨A, c, xs, h1, h2, h3, h4⟩ := openRow (f := fun p : {t : Tm // tmOk t} => tL p.1) Try.underlying25 tcells_tm (by omega) (fun _ => rfl) (fun fuel cs x hl hx => by
    match cs, hl with
    | [c0, c1], _ =>
      obtain ⟨t, e, ht⟩ := ttrod_ok hx
      exact ⟨⟨t, ht⟩, e⟩) hval h
  refine ⟨A, c, xs.map (·.1), by rw [List.length_map]; exact h1, by rw [List.length_map]; exact h2, h3, ?_, fun t ht => ?_⟩
  · unfold tc
    rw [List.flatMap_map]
    exact h4
  · obtain ⟨p, _, rfl⟩ := List.mem_map.1 ht
    exact p.2
end
end Tim
end Go.Proofs.Ytklgehfbfokdlaa
