/- The law's own lists beside the sinks (SinkOnce): what they are, how they turn. -/
import Derived.Test.YtmkbdlailffjeaaSinkA
import Derived.Test.YtmkbdlailffjeaaSinkO
import Derived.Test.YtmkbdlailffjeaaGenTail
import Derived.Test.YtmkbdlailffjeaaGenApp
namespace Go.Proofs.Ytmkbdlailffjeaa
open Go.ChangeShapes Go.WideShapes Go.ChangeAt Go.RowKit
set_option linter.unusedVariables false
set_option maxRecDepth 8000
namespace Sk
open Gen (TellsB TellsI row_one flat_len flat_get Mine ownsTail)
theorem InfoT : (Try.prog.info? 45).map (fun i => (i.zero, i.size, i.bytes)) = some (some (.agg #[.int .i64 0, .slice none 0 0]), 2, 32) := by kernel_rfl
theorem re_st : (29 : TypeId) ≠ 45 := by decide
theorem re_sk : (29 : TypeId) ≠ 25 := by decide
theorem st_sk : (45 : TypeId) ≠ 25 := by decide
/-- The blocks that the law turns: its boxes (X), its three lists. -/
def Mx (X : Nat → Prop) (vO vU vT : Value) (k : Nat) : Prop := X k ∨ vO.ownBlock = some k ∨ vU.ownBlock = some k ∨ vT.ownBlock = some k
/-- The law's own lists. -/
structure Own3 (w0 : World) (X : Nat → Prop) (vO vU vT : Value) (op : List Re) (st : List Pg) (out : List Re) (tg : List Sg) (w : World) : Prop where
  oo : w.ownsRow w0.heap.size 29 5 vO op.length (rec_ op)
  ou : w.ownsRow w0.heap.size 29 5 vU out.length (rec_ out)
  ot : ownsTail w w0.heap.size 45 2 vT st.length (sgc tg)
  oe : ∀ x ∈ tg, Row w x.2.1 (rec_ x.2.2.2)
  off : ∀ x ∈ tg, OffR (Mx X vO vU vT) x.2.1 (rec_ x.2.2.2)
  aou : ∀ q, vO.ownBlock = some q → vU.ownBlock ≠ some q
  map : tg.map pgOf = st
  bx : ∀ b, X b → ∃ C, Lies b C 25 w
  xlo : ∀ b, X b → w0.heap.size ≤ b
theorem own_tail {w : World} {B size n : Nat} {e : TypeId} {v : Value} {xs : List Value} (h : w.ownsRow B e size v n xs) : ownsTail w B e size v n xs := by
  obtain ⟨hl, ⟨rfl, e0⟩ | ⟨g, cap, cur, rfl, hb, hh, hn, hm, hc, hx⟩⟩ := h
  · exact ⟨hl, .inl ⟨rfl, e0⟩⟩
  · exact ⟨hl, .inr ⟨g, 0, cap, cur, rfl, hb, hh, hn, hm, by omega, by simpa using hx⟩⟩
theorem SkM.turn {M M' : Nat → Prop} {w w' : World} {s : Si} {no ns nu : Nat} {O : Option Addr} {cO : Nat} {S : Option Addr} {cS : Nat} {U : Option Addr} {cU : Nat} (h : SkM M w s no ns nu O cO S cS U cU) (hm : Mine M w w') (hM : ∀ k, M' k → M k ∨ w.heap.size ≤ k) : SkM M' w' s no ns nu O cO S cS U cU := by
  have h1 := h.more (M' := fun k => M k ∨ M' k) fun k hk => hk.elim .inl (hM k)
  have h2 := h1.mine (hm.sub fun k hk => .inl hk)
  exact h2.more fun k hk => .inl (.inr hk)
section
variable {w0 w w' : World} {X : Nat → Prop} {vO vU vT : Value} {op : List Re} {st : List Pg} {out : List Re} {tg : List Sg}
theorem Own3.lt (h : Own3 w0 X vO vU vT op st out tg w) : ∀ k, Mx X vO vU vT k → w0.heap.size ≤ k ∧ k < w.heap.size := by
  rintro k (h1 | h1 | h1 | h1)
  · obtain ⟨C, hc⟩ := h.bx k h1
    exact ⟨h.xlo k h1, lt_of_block hc⟩
  · exact h.oo.lt k h1
  · exact h.ou.lt k h1
  · exact Gen.tail_lt h.ot k h1
theorem Own3.next (h : Own3 w0 X vO vU vT op st out tg w) (hb : Below w.heap.size w w') : Own3 w0 X vO vU vT op st out tg w' :=
  ⟨own_up h.oo hb, own_up h.ou hb, Gen.tail_below h.ot hb, fun x hx => (h.oe x hx).below hb, h.off, h.aou, h.map, fun b hx => by obtain ⟨C, hc⟩ := h.bx b hx; exact ⟨C, hc.below hb⟩, h.xlo⟩
/-- One box more. -/
theorem Own3.more (h : Own3 w0 X vO vU vT op st out tg w) {X' : Nat → Prop} (hX : ∀ b, X' b → X b ∨ w.heap.size ≤ b) (hb : Below w.heap.size w w') (hbx : ∀ b, X' b → ∃ C, Lies b C 25 w') (hlo : ∀ b, X' b → w0.heap.size ≤ b) : Own3 w0 X' vO vU vT op st out tg w' :=
  ⟨own_up h.oo hb, own_up h.ou hb, Gen.tail_below h.ot hb, fun x hx => (h.oe x hx).below hb, fun x hx => (h.off x hx).more (h.oe x hx) (by
    rintro k (h1 | h1)
    · exact (hX k h1).imp .inl id
    · exact .inl (.inr h1)), h.aou, h.map, hbx, hlo⟩
/-- A box is stored into. -/
theorem Own3.box (h : Own3 w0 X vO vU vT op st out tg w) {b : Nat} (hX : X b) (o : Nat) (v : Value) : Own3 w0 X vO vU vT op st out tg (w.setCell ⟨b, o, none⟩ v) := by
  obtain ⟨C, hc⟩ := h.bx b hX
  have hm : Mine (Mx X vO vU vT) w (w.setCell ⟨b, o, none⟩ v) := Mine.set w (a := ⟨b, o, none⟩) v (.inl hX)
  refine ⟨own_set h.oo _ (own_lies h.oo hc re_sk) v, own_set h.ou _ (own_lies h.ou hc re_sk) v, Gen.tail_block h.ot fun k hk _ => Below.heap_setCell w ⟨b, o, none⟩ v k fun e => Gen.tail_ne h.ot hc st_sk (by rw [← show k = b from e]; exact hk), fun x hx => (h.off x hx).row hm (h.oe x hx), h.off, h.aou, h.map, fun b' hb' => ?_, h.xlo⟩
  obtain ⟨C', hc'⟩ := h.bx b' hb'
  by_cases e : b' = b
  · subst e; exact ⟨_, hc'.set o v⟩
  · exact ⟨C', hc'.other e _ _⟩
/-- A result more is open. -/
theorem Own3.pushO (h : Own3 w0 X vO vU vT op st out tg w) {v' : Value} {r : Re} (hg : w.grownBy w' vO.ownBlock) (ho : w'.ownsRow w0.heap.size 29 5 v' (op.length + 1) (rec_ (op ++ [r]))) (hl : v'.ownBlock = vO.ownBlock ∨ v'.ownBlock = some w.heap.size) : Own3 w0 X v' vU vT (op ++ [r]) st out tg w' := by
  have hm : Mine (Mx X vO vU vT) w w' := Mine.grown hg fun k hk => .inr (.inl hk)
  refine ⟨by rw [List.length_append]; exact ho, own_grown h.ou hg (fun q h1 h2 => h.aou q h2 h1), Gen.tail_block h.ot fun k hk hlt => hg.block k hlt (fun e => Gen.tail_apart h.ot (own_tail h.oo) (Ne.symm re_st) k hk e.symm), fun x hx => (h.off x hx).row hm (h.oe x hx), fun x hx => (h.off x hx).more (h.oe x hx) ?_, fun q h1 h2 => ?_, h.map, fun b hb => ?_, h.xlo⟩
  · rintro k (h1 | h1 | h1)
    · exact .inl (.inl h1)
    · rcases hl with e | e
      · exact .inl (.inr (.inl (by rw [← e]; exact h1)))
      · rw [e] at h1; cases h1; exact .inr (Nat.le_refl _)
    · exact .inl (.inr (.inr h1))
  · rcases hl with e | e
    · exact h.aou q (by rw [← e]; exact h1) h2
    · rw [e] at h1; cases h1; exact absurd (h.ou.lt _ h2).2 (Nat.lt_irrefl _)
  · obtain ⟨C, hc⟩ := h.bx b hb
    exact ⟨C, lies_grown hc hg (own_lies h.oo hc re_sk)⟩
/-- The open ones are set apart. -/
theorem Own3.pushT {A : Option Addr} {m c : Nat} (h : Own3 w0 X (.slice A m c) vU vT op st out tg w) {v' : Value} {n : Int} (hg : w.grownBy w' vT.ownBlock) (ho : ownsTail w' w0.heap.size 45 2 v' (st.length + 1) (sgc (tg ++ [(n, A, c, op)]))) (hl : v'.ownBlock = vT.ownBlock ∨ v'.ownBlock = some w.heap.size) :
    Own3 w0 X (.slice none 0 0) vU v' [] (st ++ [(n, op)]) out (tg ++ [(n, A, c, op)]) w' := by
  have hm : Mine (Mx X (.slice A m c) vU vT) w w' := Mine.grown hg fun k hk => .inr (.inr (.inr hk))
  have hmo : m = op.length := by
    obtain ⟨A', c', e, _⟩ := own_form h.oo (by omega)
    cases e; rfl
  subst hmo
  have hrow := (own_rowR h.oo).1
  have hoo : w'.ownsRow w0.heap.size 29 5 (.slice A op.length c) op.length (rec_ op) := own_grown h.oo hg fun q h1 h2 => Gen.tail_apart h.ot (own_tail h.oo) (Ne.symm re_st) q h2 h1
  refine ⟨own_none, own_grown h.ou hg fun q h1 h2 => Gen.tail_apart h.ot (own_tail h.ou) (Ne.symm re_st) q h2 h1, by rw [List.length_append]; exact ho, fun x hx => ?_, fun x hx => ?_, fun q h1 => (by cases h1), by rw [List.map_append, h.map]; rfl, fun b hb => ?_, h.xlo⟩
  · rcases List.mem_append.1 hx with hx | hx
    · exact (h.off x hx).row hm (h.oe x hx)
    · cases List.mem_singleton.1 hx; exact (own_rowR hoo).1
  · rcases List.mem_append.1 hx with hx | hx
    · refine (h.off x hx).more (h.oe x hx) ?_
      rintro k (h1 | h1 | h1 | h1)
      · exact .inl (.inl h1)
      · cases h1
      · exact .inl (.inr (.inr (.inl h1)))
      · rcases hl with e | e
        · exact .inl (.inr (.inr (.inr (by rw [← e]; exact h1))))
        · rw [e] at h1; cases h1; exact .inr (Nat.le_refl _)
    · cases List.mem_singleton.1 hx
      by_cases h0 : rec_ op = []
      · exact .inl h0
      right
      rintro ⟨xb, xo, xs⟩ hA
      have hA : A = some ⟨xb, xo, xs⟩ := hA
      subst hA
      have hk : (Value.slice (some ⟨xb, xo, xs⟩) op.length c).ownBlock = some xb := rfl
      have hlt := (h.oo.lt xb hk).2
      rintro (h1 | h1 | h1 | h1)
      · obtain ⟨C, hc⟩ := h.bx xb h1
        exact own_lies h.oo hc re_sk hk
      · cases h1
      · exact h.aou xb hk h1
      · rcases hl with e | e
        · rw [e] at h1
          exact Gen.tail_apart h.ot (own_tail h.oo) (Ne.symm re_st) xb h1 hk
        · rw [e] at h1; cases h1; exact absurd hlt (Nat.lt_irrefl _)
  · obtain ⟨C, hc⟩ := h.bx b hb
    exact ⟨C, lies_grown hc hg (Gen.tail_ne h.ot hc st_sk)⟩
/-- The first stage's results count, and it is let go. -/
theorem Own3.take_ {g o : Nat} {N : Int} {l : List Re} {A : Option Addr} {cA cT : Nat} {r : List Pg} {tr : List Sg} (h : Own3 w0 X vO vU (.slice (some ⟨g, o, none⟩) (r.length + 1) cT) op ((N, l) :: r) out ((N, A, cA, l) :: tr) w) {v' : Value} {o2 : Nat} (ho2 : o2 = o + 2 ∨ cT = 1 ∧ o2 = o)
    (hg : w.grownBy w' vU.ownBlock) (ho : w'.ownsRow w0.heap.size 29 5 v' (out.length + l.length) (rec_ out ++ rec_ l)) (hl : v'.ownBlock = vU.ownBlock ∨ v'.ownBlock = some w.heap.size) : Own3 w0 X vO v' (.slice (some ⟨g, o2, none⟩) r.length (cT - 1)) op r (out ++ l) tr w' := by
  have hm : Mine (Mx X vO vU (.slice (some ⟨g, o, none⟩) (r.length + 1) cT)) w w' := Mine.grown hg fun k hk => .inr (.inr (.inl hk))
  have ht : ownsTail w' w0.heap.size 45 2 (.slice (some ⟨g, o, none⟩) (r.length + 1) cT) (r.length + 1) (sgc ((N, A, cA, l) :: tr)) := Gen.tail_block h.ot fun k hk hlt => hg.block k hlt (fun e => Gen.tail_apart h.ot (own_tail h.ou) (Ne.symm re_st) k hk e.symm)
  have ht2 := Gen.tail_cut ht o2 ho2
  refine ⟨own_grown h.oo hg h.aou, by rw [List.length_append, appR]; exact ho, ht2, fun x hx => (h.off x (List.mem_cons_of_mem _ hx)).row hm (h.oe x (List.mem_cons_of_mem _ hx)), fun x hx => (h.off x (List.mem_cons_of_mem _ hx)).more (h.oe x (List.mem_cons_of_mem _ hx)) ?_, apart_up h.aou (own_lt_ h.oo) hl, ?_, fun b hb => ?_, h.xlo⟩
  · rintro k (h1 | h1 | h1 | h1)
    · exact .inl (.inl h1)
    · exact .inl (.inr (.inl h1))
    · rcases hl with e | e
      · exact .inl (.inr (.inr (.inl (by rw [← e]; exact h1))))
      · rw [e] at h1; cases h1; exact .inr (Nat.le_refl _)
    · exact .inl (.inr (.inr (.inr h1)))
  · have := h.map
    simp only [List.map_cons, List.cons.injEq] at this
    exact this.2
  · obtain ⟨C, hc⟩ := h.bx b hb
    exact ⟨C, lies_grown hc hg (own_lies h.ou hc re_sk)⟩
/-- The open ones, the stages are let go. -/
theorem Own3.drop_ (h : Own3 w0 X vO vU vT op st out tg w) : Own3 w0 X (.slice none 0 0) vU (.slice none 0 0) [] [] out [] w :=
  ⟨own_none, h.ou, Gen.tail_nil, fun x hx => (by cases hx), fun x hx => (by cases hx), fun q h1 => (by cases h1), rfl, h.bx, h.xlo⟩
end
theorem mx_O {X : Nat → Prop} {v' vO vU vT : Value} {z : Nat} (hl : v'.ownBlock = vO.ownBlock ∨ v'.ownBlock = some z) : ∀ k, Mx X v' vU vT k → Mx X vO vU vT k ∨ z ≤ k := by
  rintro k (h1 | h1 | h1)
  · exact .inl (.inl h1)
  · rcases hl with e | e
    · exact .inl (.inr (.inl (by rw [← e]; exact h1)))
    · rw [e] at h1; cases h1; exact .inr (Nat.le_refl _)
  · exact .inl (.inr (.inr h1))
theorem mx_U {X : Nat → Prop} {v' vO vU vT vT' : Value} {z : Nat} (hT : vT'.ownBlock = vT.ownBlock) (hl : v'.ownBlock = vU.ownBlock ∨ v'.ownBlock = some z) : ∀ k, Mx X vO v' vT' k → Mx X vO vU vT k ∨ z ≤ k := by
  rintro k (h1 | h1 | h1 | h1)
  · exact .inl (.inl h1)
  · exact .inl (.inr (.inl h1))
  · rcases hl with e | e
    · exact .inl (.inr (.inr (.inl (by rw [← e]; exact h1))))
    · rw [e] at h1; cases h1; exact .inr (Nat.le_refl _)
  · exact .inl (.inr (.inr (.inr (by rw [← hT]; exact h1))))
theorem mx_T {X : Nat → Prop} {v' vO vU vT : Value} {z : Nat} (hl : v'.ownBlock = vT.ownBlock ∨ v'.ownBlock = some z) : ∀ k, Mx X (.slice none 0 0) vU v' k → Mx X vO vU vT k ∨ z ≤ k := by
  rintro k (h1 | h1 | h1 | h1)
  · exact .inl (.inl h1)
  · cases h1
  · exact .inl (.inr (.inr (.inl h1)))
  · rcases hl with e | e
    · exact .inl (.inr (.inr (.inr (by rw [← e]; exact h1))))
    · rw [e] at h1; cases h1; exact .inr (Nat.le_refl _)
theorem mx_drop {X : Nat → Prop} {vO vU vT : Value} {z : Nat} : ∀ k, Mx X (.slice none 0 0) vU (.slice none 0 0) k → Mx X vO vU vT k ∨ z ≤ k := by
  rintro k (h1 | h1 | h1 | h1)
  · exact .inl (.inl h1)
  · cases h1
  · exact .inl (.inr (.inr (.inl h1)))
  · cases h1
/-- Between two acts. -/
structure OnAt (w0 : World) (b3 : Nat) (s : Si) (no ns nu : Nat) (O : Option Addr) (cO : Nat) (S : Option Addr) (cS : Nat) (U : Option Addr) (cU : Nat) (vO vU vT : Value) (tg : List Sg) (w : World) : Prop where
  l3 : Lies b3 (skC O no cO S ns cS s.last U nu cU) 25 w
  sk : SkM (Mx (· = b3) vO vU vT) w s no ns nu O cO S cS U cU
  ow : Own3 w0 (· = b3) vO vU vT s.op s.st s.out tg w
  ri : rightS s = true
  below : Below w0.heap.size w0 w
abbrev B2 (b3 b9 : Nat) (k : Nat) : Prop := k = b3 ∨ k = b9
/-- In an act: the sink, what came of it, the lists. -/
structure MeAt (w0 : World) (b3 b9 : Nat) (s : Si) (no ns nu : Nat) (O : Option Addr) (cO : Nat) (S : Option Addr) (cS : Nat) (U : Option Addr) (cU : Nat) (s2 : Si) (no2 ns2 nu2 : Nat) (O2 : Option Addr) (cO2 : Nat) (S2 : Option Addr) (cS2 : Nat) (U2 : Option Addr) (cU2 : Nat) (vO vU vT : Value) (op : List Re) (st : List Pg) (out : List Re) (tg : List Sg) (w : World) : Prop where
  l3 : Lies b3 (skC O no cO S ns cS s.last U nu cU) 25 w
  l9 : Lies b9 (skC O2 no2 cO2 S2 ns2 cS2 s2.last U2 nu2 cU2) 25 w
  sk : SkM (Mx (B2 b3 b9) vO vU vT) w s no ns nu O cO S cS U cU
  sk2 : SkM (Mx (B2 b3 b9) vO vU vT) w s2 no2 ns2 nu2 O2 cO2 S2 cS2 U2 cU2
  ow : Own3 w0 (B2 b3 b9) vO vU vT op st out tg w
  ne : b9 ≠ b3
  below : Below w0.heap.size w0 w
section
variable {w0 w w' : World} {b3 b9 : Nat} {s s2 : Si} {no ns nu : Nat} {O : Option Addr} {cO : Nat} {S : Option Addr} {cS : Nat} {U : Option Addr} {cU : Nat} {no2 ns2 nu2 : Nat} {O2 : Option Addr} {cO2 : Nat} {S2 : Option Addr} {cS2 : Nat} {U2 : Option Addr} {cU2 : Nat}
  {vO vU vT vO' vU' vT' : Value} {op op' : List Re} {st st' : List Pg} {out out' : List Re} {tg tg' : List Sg}
theorem OnAt.next (h : OnAt w0 b3 s no ns nu O cO S cS U cU vO vU vT tg w) (hb : Below w.heap.size w w') : OnAt w0 b3 s no ns nu O cO S cS U cU vO vU vT tg w' := ⟨h.l3.below hb, h.sk.below hb, h.ow.next hb, h.ri, below_next h.below hb⟩
theorem MeAt.next (h : MeAt w0 b3 b9 s no ns nu O cO S cS U cU s2 no2 ns2 nu2 O2 cO2 S2 cS2 U2 cU2 vO vU vT op st out tg w) (hb : Below w.heap.size w w') : MeAt w0 b3 b9 s no ns nu O cO S cS U cU s2 no2 ns2 nu2 O2 cO2 S2 cS2 U2 cU2 vO vU vT op st out tg w' := ⟨h.l3.below hb, h.l9.below hb, h.sk.below hb, h.sk2.below hb, h.ow.next hb, h.ne, below_next h.below hb⟩
theorem OnAt.open_ (h : OnAt w0 b3 s no ns nu O cO S cS U cU vO vU vT tg w) : MeAt w0 b3 w.heap.size s no ns nu O cO S cS U cU zS 0 0 0 none 0 none 0 none 0 vO vU vT s.op s.st s.out tg (w.alloc (.cells (skC none 0 0 none 0 0 0 none 0 0) 25)) := by
  have hb := below_al (o := .cells (skC none 0 0 none 0 0 0 none 0 0) 25) (Below.refl w.heap.size w)
  have h3 := lt_of_block h.l3
  have hl := Lies.new w (skC none 0 0 none 0 0 0 none 0 0) 25
  refine ⟨h.l3.below hb, hl, (h.sk.more ?_).below hb, zero_at _ _, h.ow.more ?_ hb ?_ ?_, by omega, below_next h.below hb⟩
  · rintro k ((h1 | h1) | h1)
    · exact .inl (.inl h1)
    · exact .inr (by omega)
    · exact .inl (.inr h1)
  · rintro k (h1 | h1)
    · exact .inl h1
    · exact .inr (by omega)
  · rintro b (rfl | rfl)
    · exact ⟨_, h.l3.below hb⟩
    · exact ⟨_, hl⟩
  · rintro b (rfl | rfl)
    · exact h.ow.xlo b rfl
    · exact h.below.size
theorem MeAt.lt (h : MeAt w0 b3 b9 s no ns nu O cO S cS U cU s2 no2 ns2 nu2 O2 cO2 S2 cS2 U2 cU2 vO vU vT op st out tg w) : ∀ k, Mx (B2 b3 b9) vO vU vT k → k < w.heap.size := fun k hk => (h.ow.lt k hk).2
/-- What has come is laid into its box. -/
theorem MeAt.got {sx : Si} {nox nsx nux : Nat} {Ox : Option Addr} {cOx : Nat} {Sx : Option Addr} {cSx : Nat} {Ux : Option Addr} {cUx : Nat} (h : MeAt w0 b3 b9 s no ns nu O cO S cS U cU sx nox nsx nux Ox cOx Sx cSx Ux cUx vO vU vT op st out tg w) (hb : Below w.heap.size w w') (h2 : SkM (Mx (B2 b3 b9) vO vU vT) w' s2 no2 ns2 nu2 O2 cO2 S2 cS2 U2 cU2) :
    MeAt w0 b3 b9 s no ns nu O cO S cS U cU s2 no2 ns2 nu2 O2 cO2 S2 cS2 U2 cU2 vO vU vT op st out tg (set4K w' b9 (.slice O2 no2 cO2) (.slice S2 ns2 cS2) (.int .i64 s2.last) (.slice U2 nu2 cU2)) := by
  have H := h.next hb
  have hX : B2 b3 b9 b9 := .inr rfl
  have hm : Mine (Mx (B2 b3 b9) vO vU vT) w' (set4K w' b9 (.slice O2 no2 cO2) (.slice S2 ns2 cS2) (.int .i64 s2.last) (.slice U2 nu2 cU2)) :=
    (((Mine.set w' (a := ⟨b9, 0, none⟩) _ (.inl hX)).trans (Mine.set _ (a := ⟨b9, 1, none⟩) _ (.inl hX))).trans (Mine.set _ (a := ⟨b9, 2, none⟩) _ (.inl hX))).trans (Mine.set _ (a := ⟨b9, 3, none⟩) _ (.inl hX))
  exact ⟨lies_other4 H.l3 (Ne.symm h.ne) _ _ _ _, lies_set4K H.l9 _ _ _ _, H.sk.mine hm, h2.mine hm, (((H.ow.box hX 0 _).box hX 1 _).box hX 2 _).box hX 3 _, h.ne, below_set4K H.below (h.ow.xlo b9 hX) _ _ _ _⟩
theorem MeAt.turn (h : MeAt w0 b3 b9 s no ns nu O cO S cS U cU s2 no2 ns2 nu2 O2 cO2 S2 cS2 U2 cU2 vO vU vT op st out tg w) (hm : Mine (Mx (B2 b3 b9) vO vU vT) w w') (h3 : Lies b3 (skC O no cO S ns cS s.last U nu cU) 25 w → Lies b3 (skC O no cO S ns cS s.last U nu cU) 25 w') (h9 : Lies b9 (skC O2 no2 cO2 S2 ns2 cS2 s2.last U2 nu2 cU2) 25 w → Lies b9 (skC O2 no2 cO2 S2 ns2 cS2 s2.last U2 nu2 cU2) 25 w')
    (hM : ∀ k, Mx (B2 b3 b9) vO' vU' vT' k → Mx (B2 b3 b9) vO vU vT k ∨ w.heap.size ≤ k) (ho : Own3 w0 (B2 b3 b9) vO' vU' vT' op' st' out' tg' w') : MeAt w0 b3 b9 s no ns nu O cO S cS U cU s2 no2 ns2 nu2 O2 cO2 S2 cS2 U2 cU2 vO' vU' vT' op' st' out' tg' w' :=
  ⟨h3 h.l3, h9 h.l9, h.sk.turn hm hM, h.sk2.turn hm hM, ho, h.ne, Mine.below h.below hm (fun k hk => (h.ow.lt k hk).1) h.below.size⟩
theorem MeAt.pushO (h : MeAt w0 b3 b9 s no ns nu O cO S cS U cU s2 no2 ns2 nu2 O2 cO2 S2 cS2 U2 cU2 vO vU vT op st out tg w) {v' : Value} {r : Re} (hg : w.grownBy w' vO.ownBlock) (ho : w'.ownsRow w0.heap.size 29 5 v' (op.length + 1) (rec_ (op ++ [r]))) (hl : v'.ownBlock = vO.ownBlock ∨ v'.ownBlock = some w.heap.size) :
    MeAt w0 b3 b9 s no ns nu O cO S cS U cU s2 no2 ns2 nu2 O2 cO2 S2 cS2 U2 cU2 v' vU vT (op ++ [r]) st out tg w' :=
  h.turn (Mine.grown hg fun k hk => .inr (.inl hk)) (fun l => lies_grown l hg (own_lies h.ow.oo l re_sk)) (fun l => lies_grown l hg (own_lies h.ow.oo l re_sk)) (mx_O hl) (h.ow.pushO hg ho hl)
theorem MeAt.pushT {A : Option Addr} {m c : Nat} (h : MeAt w0 b3 b9 s no ns nu O cO S cS U cU s2 no2 ns2 nu2 O2 cO2 S2 cS2 U2 cU2 (.slice A m c) vU vT op st out tg w) {v' : Value} {n : Int} (hg : w.grownBy w' vT.ownBlock) (ho : ownsTail w' w0.heap.size 45 2 v' (st.length + 1) (sgc (tg ++ [(n, A, c, op)]))) (hl : v'.ownBlock = vT.ownBlock ∨ v'.ownBlock = some w.heap.size) :
    MeAt w0 b3 b9 s no ns nu O cO S cS U cU s2 no2 ns2 nu2 O2 cO2 S2 cS2 U2 cU2 (.slice none 0 0) vU v' [] (st ++ [(n, op)]) out (tg ++ [(n, A, c, op)]) w' :=
  h.turn (Mine.grown hg fun k hk => .inr (.inr (.inr hk))) (fun l => lies_grown l hg (Gen.tail_ne h.ow.ot l st_sk)) (fun l => lies_grown l hg (Gen.tail_ne h.ow.ot l st_sk)) (mx_T hl) (h.ow.pushT hg ho hl)
theorem MeAt.take_ {g o : Nat} {N : Int} {l : List Re} {A : Option Addr} {cA cT : Nat} {r : List Pg} {tr : List Sg} (h : MeAt w0 b3 b9 s no ns nu O cO S cS U cU s2 no2 ns2 nu2 O2 cO2 S2 cS2 U2 cU2 vO vU (.slice (some ⟨g, o, none⟩) (r.length + 1) cT) op ((N, l) :: r) out ((N, A, cA, l) :: tr) w) {v' : Value} {o2 : Nat} (ho2 : o2 = o + 2 ∨ cT = 1 ∧ o2 = o)
    (hg : w.grownBy w' vU.ownBlock) (ho : w'.ownsRow w0.heap.size 29 5 v' (out.length + l.length) (rec_ out ++ rec_ l)) (hl : v'.ownBlock = vU.ownBlock ∨ v'.ownBlock = some w.heap.size) :
    MeAt w0 b3 b9 s no ns nu O cO S cS U cU s2 no2 ns2 nu2 O2 cO2 S2 cS2 U2 cU2 vO v' (.slice (some ⟨g, o2, none⟩) r.length (cT - 1)) op r (out ++ l) tr w' :=
  h.turn (Mine.grown hg fun k hk => .inr (.inr (.inl hk))) (fun k => lies_grown k hg (own_lies h.ow.ou k re_sk)) (fun k => lies_grown k hg (own_lies h.ow.ou k re_sk)) (mx_U rfl hl) (h.ow.take_ ho2 hg ho hl)
theorem MeAt.drop_ (h : MeAt w0 b3 b9 s no ns nu O cO S cS U cU s2 no2 ns2 nu2 O2 cO2 S2 cS2 U2 cU2 vO vU vT op st out tg w) : MeAt w0 b3 b9 s no ns nu O cO S cS U cU s2 no2 ns2 nu2 O2 cO2 S2 cS2 U2 cU2 (.slice none 0 0) vU (.slice none 0 0) [] [] out [] w :=
  h.turn (Mine.refl _ _) id id mx_drop h.ow.drop_
/-- It was refused. -/
theorem MeAt.back (h : MeAt w0 b3 b9 s no ns nu O cO S cS U cU s2 no2 ns2 nu2 O2 cO2 S2 cS2 U2 cU2 vO vU vT s.op s.st s.out tg w) (hr : rightS s = true) : OnAt w0 b3 s no ns nu O cO S cS U cU vO vU vT tg w :=
  ⟨h.l3, h.sk.more fun k hk => .inl (hk.imp .inl id), h.ow.more (fun k hk => .inl (.inl hk)) (Below.refl _ _) (fun b hb => by subst hb; exact ⟨_, h.l3⟩) (fun b hb => h.ow.xlo b (.inl hb)), hr, h.below⟩
/-- It is the sink now. -/
theorem MeAt.close (h : MeAt w0 b3 b9 s no ns nu O cO S cS U cU s2 no2 ns2 nu2 O2 cO2 S2 cS2 U2 cU2 vO vU vT s2.op s2.st s2.out tg w) (hr : rightS s2 = true) :
    OnAt w0 b3 s2 no2 ns2 nu2 O2 cO2 S2 cS2 U2 cU2 vO vU vT tg (set4K w b3 (.slice O2 no2 cO2) (.slice S2 ns2 cS2) (.int .i64 s2.last) (.slice U2 nu2 cU2)) := by
  have hX : B2 b3 b9 b3 := .inl rfl
  have hm : Mine (Mx (B2 b3 b9) vO vU vT) w (set4K w b3 (.slice O2 no2 cO2) (.slice S2 ns2 cS2) (.int .i64 s2.last) (.slice U2 nu2 cU2)) :=
    (((Mine.set w (a := ⟨b3, 0, none⟩) _ (.inl hX)).trans (Mine.set _ (a := ⟨b3, 1, none⟩) _ (.inl hX))).trans (Mine.set _ (a := ⟨b3, 2, none⟩) _ (.inl hX))).trans (Mine.set _ (a := ⟨b3, 3, none⟩) _ (.inl hX))
  have hl := lies_set4K h.l3 (.slice O2 no2 cO2) (.slice S2 ns2 cS2) (.int .i64 s2.last) (.slice U2 nu2 cU2)
  have ho := (((h.ow.box hX 0 (.slice O2 no2 cO2)).box hX 1 (.slice S2 ns2 cS2)).box hX 2 (.int .i64 s2.last)).box hX 3 (.slice U2 nu2 cU2)
  exact ⟨hl, (h.sk2.mine hm).more fun k hk => .inl (hk.imp .inl id), ho.more (fun k hk => .inl (.inl hk)) (Below.refl _ _) (fun b hb => by subst hb; exact ⟨_, hl⟩) (fun b hb => h.ow.xlo b (.inl hb)), hr, below_set4K h.below (h.ow.xlo b3 hX) _ _ _ _⟩
end
end Sk
end Go.Proofs.Ytmkbdlailffjeaa
