/- The code's begin: an aligner with rows of its own behind a pointer. -/
import Derived.Test.YtgbklmncfajcgaaAlignCe
import Derived.Test.YtgbklmncfajcgaaAlignNs
namespace Go.Proofs.Ytgbklmncfajcgaa
open Go.ChangeShapes Go.WideShapes Go.ChangeAt Go.RowKit
set_option linter.unusedVariables false
set_option maxRecDepth 8000
namespace Aln
open Gen (TellsB TellsI row_one flat_len flat_get Mine)
open Itm
abbrev agC (n : Int) (G : Option Addr) (ng cG : Nat) (H : Option Addr) (nh cH : Nat) (pass : Bool) (wh : Int) (vL : Value) : Array Value := #[.int .i64 n, .slice G ng cG, .slice H nh cH, .bool pass, .int .i64 wh, vL]
/-- The code's aligner behind a pointer, its rows its own. -/
structure AgAt (w0 : World) (b : Nat) (n : Int) (gs : List Bool) (hs : List Hd) (ng : Nat) (G : Option Addr) (cG : Nat) (H : Option Addr) (cH : Nat) (pass : Bool) (wh : Int) (vL : Value) (w : World) : Prop where
  st : Lies b (agC n G ng cG H ng cH pass wh vL) 72 w
  got : w.ownsRow w0.heap.size 4 1 (.slice G ng cG) ng (gcs gs)
  nest : Nest w w0.heap.size (.slice H ng cH) ng hs
  low : w0.heap.size ≤ b
  below : Below w0.heap.size w0 w
theorem AgAt.next {w0 : World} {b : Nat} {n : Int} {gs : List Bool} {hs : List Hd} {ng : Nat} {G : Option Addr} {cG : Nat} {H : Option Addr} {cH : Nat} {pass : Bool} {wh : Int} {vL : Value} {w w' : World} (h : AgAt w0 b n gs hs ng G cG H cH pass wh vL w) (hb : Below w.heap.size w w') : AgAt w0 b n gs hs ng G cG H cH pass wh vL w' :=
  ⟨h.st.below hb, own_upA h.got hb, h.nest.next hb, h.low, below_next h.below hb⟩
/-- Ahead of the pointer: the box of the argument with the rows that are copied so far. -/
structure BnAt (w0 : World) (b : Nat) (n : Int) (gs : List Bool) (us : List Hd) (hs : List Hd) (k : Nat) (ng : Nat) (G : Option Addr) (cG g cH : Nat) (w : World) : Prop where
  st : Lies b (alC n G ng cG (some ⟨g, 0, none⟩) ng cH) 25 w
  got : w.ownsRow w0.heap.size 4 1 (.slice G ng cG) ng (gcs gs)
  outer : w.ownsRow w0.heap.size 30 1 (.slice (some ⟨g, 0, none⟩) ng cH) ng (hsc us)
  len : us.length = hs.length
  new : ∀ (i : Nat) (x y : Hd), i < k → us[i]? = some x → hs[i]? = some y → OwnI w w0.heap.size x ∧ x.2.2 = y.2.2
  old : ∀ (i : Nat), k ≤ i → us[i]? = hs[i]?
  apart : ∀ (i j : Nat) (x y : Hd), i < k → j < k → i ≠ j → us[i]? = some x → us[j]? = some y → ∀ q, (hv x).ownBlock = some q → (hv y).ownBlock ≠ some q
  low : w0.heap.size ≤ b
  below : Below w0.heap.size w0 w
theorem BnAt.next {w0 : World} {b : Nat} {n : Int} {gs : List Bool} {us hs : List Hd} {k ng : Nat} {G : Option Addr} {cG g cH : Nat} {w w' : World} (h : BnAt w0 b n gs us hs k ng G cG g cH w) (hb : Below w.heap.size w w') : BnAt w0 b n gs us hs k ng G cG g cH w' :=
  ⟨h.st.below hb, own_upA h.got hb, own_upA h.outer hb, h.len, fun i x y hi hx hy => ⟨own_upA (h.new i x y hi hx hy).1 hb, (h.new i x y hi hx hy).2⟩, h.old, h.apart, h.low, below_next h.below hb⟩
theorem hsc_set {hs : List Hd} {i : Nat} {y : Hd} : (hsc hs).set i (hv y) = hsc (hs.set i y) := by
  induction hs generalizing i with
  | nil => rfl
  | cons a r ih =>
    cases i with
    | zero => rfl
    | succ i =>
      show (hsL a ++ hsc r).set (i + 1) _ = hsL a ++ hsc (r.set i y)
      rw [← ih]
      rfl
theorem own_itSet {w : World} {B : Nat} {x : Hd} (h : OwnI w B x) {g : Nat} {B2 n c : Nat} {hs : List Hd} (ho : w.ownsRow B2 30 1 (.slice (some ⟨g, 0, none⟩) n c) n (hsc hs)) (i : Nat) (v : Value) : OwnI (w.setCell ⟨g, i, none⟩ v) B x :=
  own_setA h ⟨g, i, none⟩ (fun e => own_kindA h ho it_rows g e rfl) v
/-- One more is copied. -/
theorem BnAt.put {w0 : World} {b : Nat} {n : Int} {gs : List Bool} {us hs : List Hd} {k ng : Nat} {G : Option Addr} {cG g cH : Nat} {w w1 : World} {x y : Hd} (h : BnAt w0 b n gs us hs k ng G cG g cH w) (hb : Below w.heap.size w w1) (hk : hs[k]? = some x) (hy : OwnI w1 w.heap.size y) (hxy : y.2.2 = x.2.2) :
    BnAt w0 b n gs (us.set k y) hs (k + 1) ng G cG g cH (w1.setCell ⟨g, k, none⟩ (hv y)) := by
  have h1 := h.next hb
  have ho := h1.outer
  have hku : k < us.length := by rw [h.len]; exact (List.getElem?_eq_some_iff.1 hk).1
  have ho2 := (ho.stored k (hv y)).1
  rw [hsc_set] at ho2
  have hgb : g ≠ b := fun e => by
    subst e
    exact Gen.own_apart ho h1.st (by decide) rfl
  have hgl : w0.heap.size ≤ g := (ho.lt g rfl).1
  have hyf : ∀ q, (hv y).ownBlock = some q → w.heap.size ≤ q := fun q hq => (hy.lt q hq).1
  have hold : ∀ (i : Nat) (z : Hd), i < k → us[i]? = some z → ∀ q, (hv z).ownBlock = some q → q < w.heap.size := fun i z hi hz q hq => by
    obtain ⟨z2, hz2⟩ : ∃ z2, hs[i]? = some z2 := ⟨_, List.getElem?_eq_getElem (by rw [← h.len]; exact (List.getElem?_eq_some_iff.1 hz).1)⟩
    exact ((h.new i z z2 hi hz hz2).1.lt q hq).2
  refine ⟨h1.st.other (Ne.symm hgb) _ _, own_setA h1.got ⟨g, k, none⟩ (fun e => own_kindA h1.got ho bool_rows g e rfl) _, ho2, by rw [List.length_set]; exact h.len, fun i p q hi hp hq => ?_, fun i hi => ?_, fun i j p q hi hj hij hp hq z hz e => ?_, h.low, h1.below.setCell (p := ⟨g, k, none⟩) hgl _⟩
  · rcases set_at hp with ⟨rfl, rfl⟩ | ⟨hne, hp2⟩
    · rw [hk] at hq
      cases hq
      exact ⟨own_itSet (own_baseA hy h.below.size) ho _ _, hxy⟩
    · have := h1.new i p q (by omega) hp2 hq
      exact ⟨own_itSet this.1 ho _ _, this.2⟩
  · rw [List.getElem?_set_ne (by omega)]
    exact h.old i (by omega)
  · rcases set_at hp with ⟨rfl, rfl⟩ | ⟨hne, hp2⟩
    · rcases set_at hq with ⟨e2, _⟩ | ⟨hne2, hq2⟩
      · exact hij e2.symm
      · have := hold j q (by omega) hq2 z e
        have := hyf z hz
        omega
    · rcases set_at hq with ⟨rfl, rfl⟩ | ⟨hne2, hq2⟩
      · have := hold i p (by omega) hp2 z hz
        have := hyf z e
        omega
      · exact h1.apart i j p q (by omega) (by omega) hij hp2 hq2 z hz e
/-- All are copied. -/
theorem BnAt.nest {w0 : World} {b : Nat} {n : Int} {gs : List Bool} {us hs : List Hd} {k ng : Nat} {G : Option Addr} {cG g cH : Nat} {w : World} (h : BnAt w0 b n gs us hs k ng G cG g cH w) (hk : k = hs.length) : Nest w w0.heap.size (.slice (some ⟨g, 0, none⟩) ng cH) ng us ∧ us.map (fun x => x.2.2) = hs.map (fun x => x.2.2) := by
  subst hk
  refine ⟨⟨h.outer, fun x hx => ?_, fun i j x y hij hx hy => ?_⟩, ?_⟩
  · obtain ⟨i, hi⟩ := List.getElem?_of_mem hx
    have h1 := (List.getElem?_eq_some_iff.1 hi).1
    rw [h.len] at h1
    exact (h.new i x _ h1 hi (List.getElem?_eq_getElem h1)).1
  · have h1 := (List.getElem?_eq_some_iff.1 hx).1
    have h2 := (List.getElem?_eq_some_iff.1 hy).1
    rw [h.len] at h1 h2
    exact h.apart i j x y h1 h2 hij hx hy
  · apply List.ext_getElem?
    intro i
    rw [List.getElem?_map, List.getElem?_map]
    rcases Nat.lt_or_ge i hs.length with h1 | h1
    · have h2 : i < us.length := by rw [h.len]; exact h1
      rw [List.getElem?_eq_getElem h1, List.getElem?_eq_getElem h2]
      simp only [Option.map_some, Option.some.injEq]
      exact (h.new i _ _ h1 (List.getElem?_eq_getElem h2) (List.getElem?_eq_getElem h1)).2
    · rw [List.getElem?_eq_none h1, List.getElem?_eq_none (by rw [h.len]; exact h1)]
/-- What begin gives. -/
def GivesBg (a : Al) (ng : Nat) (w : World) (e : Ending) (w' : World) : Prop :=
  ∃ (b : Nat) (hs : List Hd) (G : Option Addr) (cG : Nat) (H : Option Addr) (cH : Nat), e = .returned (.pointer (some ⟨b, 0, none⟩)) ∧ hs.map (fun x => x.2.2) = a.held ∧ AgAt w b a.n a.got hs ng G cG H cH false 0 (.slice none 0 0) w'
/-- The box, ahead of the copies. -/
structure BoAt (w0 : World) (b : Nat) (n : Int) (G : Option Addr) (ng cG : Nat) (H : Option Addr) (nh cH : Nat) (w : World) : Prop where
  st : Lies b (alC n G ng cG H nh cH) 25 w
  below : Below w0.heap.size w0 w
theorem BoAt.next {w0 : World} {b : Nat} {n : Int} {G : Option Addr} {ng cG : Nat} {H : Option Addr} {nh cH : Nat} {w w' : World} (h : BoAt w0 b n G ng cG H nh cH w) (hb : Below w.heap.size w w') : BoAt w0 b n G ng cG H nh cH w' := ⟨h.st.below hb, below_next h.below hb⟩
theorem BnAt.start {w0 : World} {b : Nat} {n : Int} {G : Option Addr} {ng cG : Nat} {H : Option Addr} {cH : Nat} {w : World} {gs : List Bool} {hs : List Hd} {Ai : Option Addr} {ci g ch : Nat} (T : BoAt w0 b n G ng cG H ng cH w) (low : w0.heap.size ≤ b)
    (oi : w.ownsRow w0.heap.size 4 1 (.slice Ai ng ci) ng (gcs gs)) (oh : w.ownsRow w0.heap.size 30 1 (.slice (some ⟨g, 0, none⟩) ng ch) ng (hsc hs)) :
    BnAt w0 b n gs hs hs 0 ng Ai ci g ch ((w.setCell ⟨b, 1, none⟩ (.slice Ai ng ci)).setCell ⟨b, 2, none⟩ (.slice (some ⟨g, 0, none⟩) ng ch)) := by
  have ni := Gen.own_apart oi T.st (by decide)
  have nh := Gen.own_apart oh T.st (by decide)
  refine ⟨?_, own_setA (own_setA oi ⟨b, 1, none⟩ ni _) ⟨b, 2, none⟩ ni _, own_setA (own_setA oh ⟨b, 1, none⟩ nh _) ⟨b, 2, none⟩ nh _, rfl, fun i x y hi => by omega, fun i _ => rfl, fun i j x y hi => by omega, low, (T.below.setCell (p := ⟨b, 1, none⟩) low _).setCell (p := ⟨b, 2, none⟩) low _⟩
  have := (T.st.set 1 (.slice Ai ng ci)).set 2 (.slice (some ⟨g, 0, none⟩) ng ch)
  simpa using this
set_option maxRecDepth 100000 in
set_option maxHeartbeats 4000000 in
theorem ckBegin (a : Al) (hs : List Hd) (hh : hs.map (fun x => x.2.2) = a.held) (ng nh : Nat) (hng : ng = a.got.length) (hnh : nh = a.held.length) (he : nh = ng) (h1 : 1 ≤ ng) (h8 : ng ≤ 8) (h16 : ∀ x ∈ hs, x.2.2.length ≤ 16) (G : Option Addr) (cG : Nat) (H : Option Addr) (cH : Nat) (w : World) (hG : Row w G (gcs a.got)) (hH : HAt w H hs) :
    Calls Try.prog 31 #[alV a.n G ng cG H nh cH] w (GivesBg a ng w) := by
  have HLN : hs.length = ng := by have := congrArg List.length hh; rw [List.length_map] at this; omega
  have HKG := Lib.hid (fun w' (hb : Below w.heap.size w w') => ckCloneG a.got ng hng G cG w' (hG.below hb) (by omega))
  have HKH := Lib.hid (fun w' (hb : Below w.heap.size w w') => ckCloneH hs ng HLN.symm H cH w' (hH.row.below hb) (by omega))
  have HKI := Lib.hid (fun (x : Hd) (hx : x ∈ hs) w' (hb : Below w.heap.size w w') => ckCloneI x.2.2 x.2.2.length rfl x.1 x.2.1 w' ((hH.each x hx).below hb) (by have := h16 x hx; omega))
  have T : Hid (BoAt w w.heap.size a.n G ng cG H nh cH (w.alloc (.cells (alC a.n G ng cG H nh cH) 25))) := Lib.hid ⟨Lies.new w _ _, below_al (Below.refl _ _)⟩
  have HHS := Lib.hid hh
  have H18 : Hid (1 ≤ ng ∧ ng ≤ 8) := Lib.hid ⟨h1, h8⟩
  have HLN2 := Lib.hid HLN
  subst he
  clear hG hH hh hng hnh h1 h8 h16 HLN
  go_enter Try.func31, Try.ntmps31
  go_upto_region 1 with fail
  obtain ⟨tb, htb⟩ : ∃ b, b = w.heap.size := ⟨_, rfl⟩
  obtain ⟨W, hW⟩ : ∃ W, W = w.alloc (.cells (alC a.n G nh cG H nh cH) 25) := ⟨_, rfl⟩
  have HTB : Hid (w.heap.size ≤ tb) := Lib.hid (by rw [htb]; exact Nat.le_refl _)
  rw [← hW] at T ⊢
  rw [← htb] at T ⊢
  clear hW htb
  have T0 := Lib.hid (T.out.next (below_drewOf (Below.refl W.heap.size W)))
  clear T
  have T := T0
  clear T0
  have x1 := T.out.st.cell (j := 1) rfl; have x2 := T.out.st.cell (j := 2) rfl
  go_region_with (first
    | (go_at_call 42; refine (HKG.out _ T.out.below).mono ?_; rintro e5 w5 ⟨Ai, ci, rfl, oi, hb5⟩; (try have OH := Lib.hid (own_upA OH.out hb5)); have OI := Lib.hid (own_baseA oi (show w.heap.size ≤ _ from T.out.below.size)); have T := Lib.hid (T.out.next hb5); have x1 := T.out.st.cell (j := 1) rfl; have x2 := T.out.st.cell (j := 2) rfl; have f1 := T.out.st.free 1; have f2 := T.out.st.free 2; clear oi hb5)
    | (go_at_call 43; refine (HKH.out _ T.out.below).mono ?_; rintro e5 w5 ⟨Ah, ch, rfl, oh, hb5⟩; (try have OI := Lib.hid (own_upA OI.out hb5)); have OH := Lib.hid (own_baseA oh (show w.heap.size ≤ _ from T.out.below.size)); have T := Lib.hid (T.out.next hb5); have x1 := T.out.st.cell (j := 1) rfl; have x2 := T.out.st.cell (j := 2) rfl; have f1 := T.out.st.free 1; have f2 := T.out.st.free 2; clear oh hb5))
  all_goals (
    obtain ⟨g, rfl⟩ := outer_block OH.out (by have := H18.out; omega)
    have BN := Lib.hid (BnAt.start T.out HTB.out OI.out OH.out)
    obtain ⟨W5, hW5⟩ : ∃ W, W = (w5.setCell ⟨tb, 1, none⟩ (.slice Ai nh ci)).setCell ⟨tb, 2, none⟩ (.slice (some ⟨g, 0, none⟩) nh ch) := ⟨_, rfl⟩
    rw [← hW5] at BN ⊢
    clear hW5 x1 x2 f1 f2 T OI OH HKG HKH
    have x2 := BN.out.st.cell (j := 2) rfl
    go_wp2_with fail
    clear x2
    go_loopw [16] (fun s16 wr => ∃ (k : Nat) (us : List Hd), s16 = .int .i64 k ∧ k ≤ nh ∧ BnAt w tb a.n a.got us hs k nh Ai ci g ch wr) (fun s16 _ => nh - (intOf s16).toNat)
    case atStart => exact ⟨0, hs, rfl, Nat.zero_le _, BN.out⟩
    case round =>
      clear BN
      obtain ⟨k, us, rfl, hk, hbn⟩ := hrel
      have BN := Lib.hid hbn
      clear hbn
      by_cases hlt : k < nh
      · obtain ⟨x, hx⟩ : ∃ x, hs[k]? = some x := ⟨_, List.getElem?_eq_getElem (by rw [HLN2.out]; exact hlt)⟩
        have hux : us[k]? = some x := by rw [BN.out.old k (Nat.le_refl _), hx]
        have HX := Lib.hid hx
        have HUX := Lib.hid hux
        have x2 := BN.out.st.cell (j := 2) rfl
        have hki : (k : Int) < (nh : Int) := by omega
        have hw := wrapKA (k := k) (by have := H18.out; omega)
        have HK := Lib.hid hlt
        have HCI := Lib.hid (HKI.out x (List.mem_of_getElem? hx))
        obtain ⟨A, c, ls⟩ := x
        obtain ⟨m, hm⟩ : ∃ m, m = ls.length := ⟨_, rfl⟩
        simp only at HCI
        rw [← hm] at HCI
        have HML := Lib.hid hm
        have HD : Hid (∀ w', BnAt w tb a.n a.got us hs k nh Ai ci g ch w' → w'.cell? ⟨g, k, none⟩ = some (.slice A m c) ∧ w'.frozen? ⟨g, k, none⟩ = false) := Lib.hid fun w' h => by
          rw [hm]
          exact outer_cell h.outer hux
        obtain ⟨d0, f0⟩ := HD.out _ BN.out
        have BD := Lib.hid (BN.out.next (below_drewOf (Below.refl wr.heap.size wr)))
        clear hx hux hlt hk hm
        go_upto_region 5 with fail
        clear x2 d0 f0
        obtain ⟨d0, f0⟩ := HD.out _ BD.out
        have x2 := BD.out.st.cell (j := 2) rfl
        go_region_with (go_at_call 44; refine (HCI.out _ BD.out.below).mono ?_; rintro e5 w5 ⟨A5, c5, rfl, oi, hb5⟩; have OY := Lib.hid oi; have HB5 := Lib.hid hb5; have B5 := Lib.hid (BD.out.next hb5); have x2 := B5.out.st.cell (j := 2) rfl; obtain ⟨d0, f0⟩ := HD.out _ B5.out; clear oi hb5)
        all_goals (
          have BF := Lib.hid (BD.out.put HB5.out HX.out (y := (A5, c5, ls)) (by have := OY.out; rw [HML.out] at this; exact this) rfl)
          simp only [hv] at BF
          rw [← HML.out] at BF
          clear x2 d0 f0
          go_wp2_with fail
          go_roundw
          case rel => exact ⟨k + 1, us.set k (A5, c5, ls), rfl, HK.out, BF.out⟩
          case measure => simp [intOf]; have := HK.out; omega)
      · have hki : ¬ (k : Int) < (nh : Int) := by omega
        obtain ⟨n1, n2⟩ := BN.out.nest (by rw [HLN2.out]; omega)
        have N1 := Lib.hid n1
        have N2 := Lib.hid (n2.trans HHS.out)
        have AG := Lib.hid (show AgAt w wr.heap.size a.n a.got us nh Ai ci (some ⟨g, 0, none⟩) ch false 0 (.slice none 0 0) (wr.alloc (.cells (agC a.n Ai nh ci (some ⟨g, 0, none⟩) nh ch false 0 (.slice none 0 0)) 72)) from
          ⟨Lies.new wr _ _, own_upA BN.out.got (below_al (Below.refl _ _)), n1.next (below_al (Below.refl _ _)), BN.out.below.size, below_al BN.out.below⟩)
        have x0 := BN.out.st.cell (j := 0) rfl; have x1 := BN.out.st.cell (j := 1) rfl; have x2 := BN.out.st.cell (j := 2) rfl
        clear n1 n2 hlt hk
        go_wp2_with fail
        go_ret
        exact ⟨_, us, _, _, _, _, rfl, N2.out, AG.out⟩)
end Aln
end Go.Proofs.Ytgbklmncfajcgaa
