/- The code's finish: all have arrived. -/
import Derived.Test.YtgbklmncfajcgaaAlignCg
import Derived.Test.YtgbklmncfajcgaaAlignCc
import Derived.Test.YtgbklmncfajcgaaAlignM
namespace Go.Proofs.Ytgbklmncfajcgaa
open Go.ChangeShapes Go.WideShapes Go.ChangeAt Go.RowKit
set_option linter.unusedVariables false
set_option maxRecDepth 8000
namespace Aln
open Gen (TellsB TellsI row_one flat_len flat_get Mine)
open Itm
/-- As AgAt, but its rows may lie together. -/
structure AfAt (w0 : World) (b : Nat) (n : Int) (gs : List Bool) (hs : List Hd) (ng : Nat) (G : Option Addr) (cG : Nat) (H : Option Addr) (cH : Nat) (pass : Bool) (wh : Int) (vL : Value) (w : World) : Prop where
  st : Lies b (agC n G ng cG H ng cH pass wh vL) 72 w
  own : OwnA w w0.heap.size gs hs ng G cG H cH
  low : w0.heap.size ≤ b
  below : Below w0.heap.size w0 w
theorem AgAt.fin {w0 : World} {b : Nat} {n : Int} {gs : List Bool} {hs : List Hd} {ng : Nat} {G : Option Addr} {cG : Nat} {H : Option Addr} {cH : Nat} {pass : Bool} {wh : Int} {vL : Value} {w : World} (h : AgAt w0 b n gs hs ng G cG H cH pass wh vL w) : AfAt w0 b n gs hs ng G cG H cH pass wh vL w :=
  ⟨h.st, ⟨h.got, h.nest.outer, h.nest.each⟩, h.low, h.below⟩
theorem AfAt.next {w0 : World} {b : Nat} {n : Int} {gs : List Bool} {hs : List Hd} {ng : Nat} {G : Option Addr} {cG : Nat} {H : Option Addr} {cH : Nat} {pass : Bool} {wh : Int} {vL : Value} {w w' : World} (h : AfAt w0 b n gs hs ng G cG H cH pass wh vL w) (hb : Below w.heap.size w w') : AfAt w0 b n gs hs ng G cG H cH pass wh vL w' :=
  ⟨h.st.below hb, h.own.next hb, h.low, below_next h.below hb⟩
/-- A field is stored. -/
theorem AgAt.set {w0 : World} {b : Nat} {n : Int} {gs : List Bool} {hs : List Hd} {ng : Nat} {G : Option Addr} {cG : Nat} {H : Option Addr} {cH : Nat} {pass : Bool} {wh : Int} {vL : Value} {w : World} (h : AgAt w0 b n gs hs ng G cG H cH pass wh vL w) (k : Nat) (v : Value) (n' : Int) (pass' : Bool) (wh' : Int) (vL' : Value)
    (hC : (agC n G ng cG H ng cH pass wh vL).setIfInBounds k v = agC n' G ng cG H ng cH pass' wh' vL') : AgAt w0 b n' gs hs ng G cG H cH pass' wh' vL' (w.setCell ⟨b, k, none⟩ v) := by
  refine ⟨by have := h.st.set k v; rw [hC] at this; exact this, own_setA h.got ⟨b, k, none⟩ (Gen.own_apart h.got h.st (by decide)) _, ⟨own_setA h.nest.outer ⟨b, k, none⟩ (Gen.own_apart h.nest.outer h.st (by decide)) _, fun x hx => own_setA (h.nest.each x hx) ⟨b, k, none⟩ (Gen.own_apart (h.nest.each x hx) h.st (by decide)) _, h.nest.apart⟩, h.low, h.below.setCell (p := ⟨b, k, none⟩) h.low _⟩
theorem ckLate {w0 : World} {b : Nat} {n : Int} {gs : List Bool} {hs : List Hd} {ng : Nat} {G : Option Addr} {cG : Nat} {H : Option Addr} {cH : Nat} {pass : Bool} {wh : Int} {vL : Value} {w : World} (h : AgAt w0 b n gs hs ng G cG H cH pass wh vL w) (h8 : ng ≤ 8) (hl : ∀ x ∈ hs, x.2.2.length ≤ 17) :
    Calls Try.prog 52 #[.func (.func 53) #[.pointer (some ⟨b, 0, none⟩)] #[]] w (GivesLt (lateOf 0 (hs.map (fun x => x.2.2))) w) := by
  have hlen := h.nest.len
  refine ckCollect Fence.wide Over.wide 10 (by omega) 53 _ (fun args w => by first | rfl | simp [go_sem] | kernel_rfl) _ ?_ w w
    (wait_feeds Fence.wide Over.wide 9 (by omega) b (agC n G ng cG H ng cH pass wh vL) H ng cH hs _ w ⟨h.st, rfl, ⟨(own_rowH h.nest.outer).1, fun x hx => (own_rowI (h.nest.each x hx)).1⟩, rfl, by rw [List.length_map]; exact hlen, by omega, fun x hx => by have := hl x hx; omega⟩) (Below.refl _ _)
  have h1 := late_len (hs.map (fun x => x.2.2)) 0 17 (fun m hm => by obtain ⟨x, hx, rfl⟩ := List.mem_map.1 hm; exact hl x hx)
  rw [List.length_map] at h1
  have h2 : hs.length * 17 ≤ 8 * 17 := Nat.mul_le_mul_right 17 (by omega)
  omega
/-- What finish makes. -/
def GivesFi (w0 : World) (b : Nat) (n : Int) (hs : List Hd) (ng : Nat) (pass : Bool) (e : Ending) (w' : World) : Prop :=
  e = .returned (.tuple #[]) ∧ ∃ (hs' : List Hd) (G : Option Addr) (cG : Nat) (H : Option Addr) (cH : Nat) (L : Option Addr) (cL : Nat), hs'.map (fun x => x.2.2) = List.replicate ng [] ∧
    AfAt w0 b 0 (List.replicate ng false) hs' ng G cG H cH pass n (.slice L (lateOf 0 (hs.map (fun x => x.2.2))).length cL) w' ∧
    w'.ownsRow w0.heap.size 58 12 (.slice L (lateOf 0 (hs.map (fun x => x.2.2))).length cL) (lateOf 0 (hs.map (fun x => x.2.2))).length (ltc (lateOf 0 (hs.map (fun x => x.2.2))))
/-- Between: what waited is stored. -/
structure MidFi (w0 : World) (b : Nat) (n : Int) (gs : List Bool) (hs : List Hd) (ng : Nat) (G : Option Addr) (cG : Nat) (H : Option Addr) (cH : Nat) (pass : Bool) (m : Nat) (late : List Lt) (vL : Value) (w : World) : Prop where
  ag : AgAt w0 b n gs hs ng G cG H cH pass n vL w
  lt : w.ownsRow w0.heap.size 58 12 vL m (ltc late)
theorem AgAt.late {w0 : World} {b : Nat} {n : Int} {gs : List Bool} {hs : List Hd} {ng : Nat} {G : Option Addr} {cG : Nat} {H : Option Addr} {cH : Nat} {pass : Bool} {wh : Int} {vL : Value} {w : World} (h : AgAt w0 b n gs hs ng G cG H cH pass wh vL w) {m : Nat} {late : List Lt} {v : Value} (o : w.ownsRow w0.heap.size 58 12 v m (ltc late)) :
    MidFi w0 b n gs hs ng G cG H cH pass m late v ((w.setCell ⟨b, 4, none⟩ (.int .i64 n)).setCell ⟨b, 5, none⟩ v) ∧ MidFi w0 b n gs hs ng G cG H cH pass m late v ((w.setCell ⟨b, 5, none⟩ v).setCell ⟨b, 4, none⟩ (.int .i64 n)) := by
  have ho := Gen.own_apart o h.st (by decide)
  exact ⟨⟨(h.set 4 (.int .i64 n) n pass n vL rfl).set 5 v n pass n v rfl, own_setA (own_setA o ⟨b, 4, none⟩ ho _) ⟨b, 5, none⟩ ho _⟩, ⟨(h.set 5 v n pass wh v rfl).set 4 (.int .i64 n) n pass n v rfl, own_setA (own_setA o ⟨b, 5, none⟩ ho _) ⟨b, 4, none⟩ ho _⟩⟩
theorem MidFi.close {w0 : World} {b : Nat} {n : Int} {gs : List Bool} {hs : List Hd} {ng : Nat} {G : Option Addr} {cG : Nat} {H : Option Addr} {cH : Nat} {pass : Bool} {m : Nat} {late : List Lt} {vL : Value} {w w1 : World} (h : MidFi w0 b n gs hs ng G cG H cH pass m late vL w) (hb : Below w.heap.size w w1) {gs' : List Bool} {hs' : List Hd} {G' : Option Addr} {cG' : Nat} {H' : Option Addr} {cH' : Nat} (ho : OwnA w1 w.heap.size gs' hs' ng G' cG' H' cH') (n' : Int) :
    AfAt w0 b n' gs' hs' ng G' cG' H' cH' pass n vL (set3A w1 b (.int .i64 n') (.slice G' ng cG') (.slice H' ng cH')) ∧ (set3A w1 b (.int .i64 n') (.slice G' ng cG') (.slice H' ng cH')).ownsRow w0.heap.size 58 12 vL m (ltc late) := by
  have h1 := h.ag.next hb
  have hbl := lt_of_block h.ag.st
  have o1 := own_upA h.lt hb
  refine ⟨⟨?_, (((ho.set ⟨b, 0, none⟩ hbl _).set ⟨b, 1, none⟩ hbl _).set ⟨b, 2, none⟩ hbl _).base h.ag.below.size, h1.low, below_set3A h1.below h1.low _ _ _⟩, own_set3A o1 (Gen.own_apart o1 h1.st (by decide)) _ _ _⟩
  have := ((h1.st.set 0 (.int .i64 n')).set 1 (.slice G' ng cG')).set 2 (.slice H' ng cH')
  unfold set3A
  simpa using this
set_option maxRecDepth 100000 in
set_option maxHeartbeats 2000000 in
theorem ckFinish {w0 : World} {b : Nat} {n : Int} {gs : List Bool} {hs : List Hd} {ng : Nat} {G : Option Addr} {cG : Nat} {H : Option Addr} {cH : Nat} {pass : Bool} {wh : Int} {vL : Value} {w : World} (h : AgAt w0 b n gs hs ng G cG H cH pass wh vL w) (h8 : ng ≤ 8) (hl : ∀ x ∈ hs, x.2.2.length ≤ 17) :
    Calls Try.prog 51 #[.pointer (some ⟨b, 0, none⟩)] w (GivesFi w0 b n hs ng pass) := by
  have hmf : ∀ (fn : Fn) (first cap : Array Value) (w : World), (Instr.makeFunc fn first cap).run Try.prog w = .ok (.func fn first cap) w := fun _ _ _ _ => rfl
  have AG := Lib.hid (h.next (below_drewOf (Below.refl w.heap.size w)))
  have AW := Lib.hid h
  have HC := Lib.hid (fun w' (hh : AgAt w0 b n gs hs ng G cG H cH pass wh vL w') => ckLate hh h8 hl)
  have HI := Lib.hid (fun w' => ckIdle ng h8 w')
  obtain ⟨late, hlate⟩ : ∃ l, l = lateOf 0 (hs.map (fun x => x.2.2)) := ⟨_, rfl⟩
  rw [← hlate] at HC
  have HLT := Lib.hid hlate
  have x0 := AG.out.st.cell (j := 0) rfl
  clear h h8 hl hlate
  go_enter Try.func51, Try.ntmps51
  go_upto_region 0 with fail
  go_region_with (go_at_call 52; refine (HC.out _ AG.out).mono ?_; rintro e5 w5 ⟨v, rfl, o5, hb5⟩; obtain ⟨L5, c5, rfl, _⟩ := own_form o5 (by omega); have O5 := Lib.hid (own_baseA o5 (show w0.heap.size ≤ _ from AG.out.below.size)); have A5 := Lib.hid (AG.out.next hb5); have x0 := A5.out.st.cell (j := 0) rfl; have x4 := A5.out.st.cell (j := 4) rfl; have x5 := A5.out.st.cell (j := 5) rfl; have f4 := A5.out.st.free 4; have f5 := A5.out.st.free 5; clear o5 hb5)
  all_goals (
    have MD := Lib.hid (A5.out.late O5.out).1
    obtain ⟨W6, hW6⟩ : ∃ W, W = (w5.setCell ⟨b, 4, none⟩ (.int .i64 n)).setCell ⟨b, 5, none⟩ (.slice L5 late.length c5) := ⟨_, rfl⟩
    rw [← hW6] at MD ⊢
    clear hW6 A5 O5 x0 x4 x5 f4 f5 AG AW HC
    have x1 := MD.out.ag.st.cell (j := 1) rfl
    go_wp2_with fail
    refine (HI.out _).mono ?_
    rintro e w7 ⟨G', cG', H', cH', hs', rfl, g1, g2, g3⟩
    have CL := Lib.hid (MD.out.close g3 g1 0)
    have HS' := Lib.hid g2
    have S7 := Lib.hid (MD.out.ag.st.below g3)
    clear g1 g2 g3 x1
    have x0 := S7.out.cell (j := 0) rfl; have x1 := S7.out.cell (j := 1) rfl; have x2 := S7.out.cell (j := 2) rfl
    have f0 := S7.out.free 0; have f1 := S7.out.free 1; have f2 := S7.out.free 2
    unfold set3A at CL
    go_wp2_with fail
    go_end0
    refine ⟨rfl, hs', G', cG', H', cH', L5, c5, HS'.out, ?_⟩
    rw [← HLT.out]
    exact CL.out)
end Aln
end Go.Proofs.Ytgbklmncfajcgaa
